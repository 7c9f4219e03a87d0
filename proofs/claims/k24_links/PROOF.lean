import PyProof.Rows.All
import Wide.All
import OpenK.AllK
import Wide.FinOn
import Lean
import PyProof.EqAt
import PyProof.EqKinds
import PyProof.TupleCall
import PyProof.NeKinds
import PyProof.Rows.CountFlat
import PyProof.Rows.SumAny
import PyProof.Rows.Range3
import KE.KEqDict
import KE.KRevIter
import PyProof.DictIter
import PyProof.DictWalks
import PyProof.IsiH_list
import KE.KDictOf
import PyProof.Rows.SetFrom
import PyProof.Conv_int_bool
import PyProof.Rows.StrNews
import PyProof.CallStr
import PyProof.Rows.StrMeet
import PyProof.FitsReplace
import PyProof.MeetsStr3
import PyProof.Rows.StrSplitAre
import PyProof.StrLawsIn
import PyProof.ReprLen
import PyProof.StrLawsChain
import KE.IntTextLaws
import PyProof.Rows.StrClose5
import KE.KSortTup
import PyProof.Rows.SortKey
import PyProof.DictUpdate
import KE.KDictSum
import PyProof.WalksEnum
import PyProof.EnumMake
import PyProof.ZipIter
import PyProof.Rows.EnumRows
import PyProof.Rows.ZipForRows
import PyProof.Rows.FactsT2
import PyProof.Rows.SortStr
import PyProof.TupleIter
import KE.KLam
import PySem.Challenge.RW_fleetpath_k24_links
set_option compiler.extract_closed false
set_option bootstrap.genMatcherCode false
set_option genInjectivity false
set_option genSizeOf false
set_option genSizeOfSpec false
set_option Elab.async false
set_option linter.all false
set_option maxRecDepth 100000
noncomputable section
def f8:=@PySem.wpAny_bind
def t0:=@Option.map_eq_some_iff
def u8:=@List.length_map
def v4:=@List.length_cons
def M3:=@List.mem_cons_self
def M6:=@PySem.Heap.get?_push_of_some
def M7:=@Nat.le_refl
def M8:=@List.mem_cons_of_mem
def M9:=@PySem.wpAny_pure
def N4:=@PySem.Heap.lt_size
def N5:=@List.map_cons
def N6:=@List.getElem?_eq_getElem
def N7:=@List.getElem?_eq_some_iff
def N8:=@decide_eq_false
def N9:=@Nat.lt_of_lt_of_le
def O0:=@decide_eq_true
def O1:=@Nat.ne_of_lt
def O2:=@Bool.false_ne_true
def O3:=@List.mem_append_right
def O4:=@List.size_toArray
def O5:=@List.mem_cons
def O6:=@List.length_append
def O7:=@List.mem_singleton
def O8:=@PySem.Heap.get?_push_size
def O9:=@Option.bind_eq_some_iff
def P0:=@List.getElem?_set_ne
def P1:=@List.length_set
def P2:=@List.getElem?_map
def P4:=@List.append_nil
def P5:=@List.getElem?_set_self
def P6:=@List.getElem?_cons_succ
def P7:=@Nat.le_trans
def P8:=@PySem.Heap.get?_update_other
def P9:=@Int.emod_lt_of_pos
def R4:=@List.map_append
def R7:=@List.map_map
def R8:=@beq_iff_eq
def R9:=@List.mem_append
def S0:=@Int.emod_nonneg
def S4:=@Classical.choose_spec
def S5:=@List.lookup_cons
def S6:=@of_decide_eq_true
def S7:=@Nat.zero_le
def S8:=@Nat.le_of_ble_eq_true
def S9:=@List.mem_map_of_mem
def T1:=@Option.some.inj
def T2:=@PySem.wpAny_mono
def T4:=@List.length_range
def T5:=@List.getElem?_append_left
def T6:=@congrArg
def T7:=@beq_eq_false_iff_ne
def T8:=@PySem.wpAny_holding
def T9:=@List.append_assoc
def a0a:=@List.mem_map
def a0b:=@List.nodup_cons
def a0c:=@List.length_take
def a0d:=@List.take_succ_eq_append_getElem
def a0e:=@PySem.sizeLine_eq
def a0f:=@List.getD_eq_getElem?_getD
def a0g:=@PySem.W.mg_of
def a0h:=@PySem.wpAny_Call_Name_kw
def a0i:=@List.any_cons
def a0j:=@PySem.Heap.get?_update_self
def a0k:=@Nat.lt_irrefl
def a0l:=@Nat.ne_of_gt
def a0m:=@Option.isSome_iff_exists
def a0n:=@PySem.W.mg_none_of
def a0o:=@PySem.Paired.length
def a0p:=@List.nodup_append
def a0q:=@List.replicate_succ
def a0r:=@Nat.lt_succ_self
def a0s:=@List.getElem_map
def a0t:=@List.getElem_mem
def a0u:=@List.mem_range
def a0v:=@PySem.F.slot_dict_get
def a0w:=@Sum.inr.inj
def a0x:=@Nat.le_succ
def a0y:=@List.mem_of_getElem?
def a0z:=@List.foldl_cons
def a0A:=@List.nil_append
def a0B:=@List.getElem?_replicate
def a0C:=@List.map_congr_left
def a0D:=@List.all_eq_true
def a0E:=@List.take_length
def a0F:=@List.filter_cons
def a0G:=@PySem.wpAny_call
def a0H:=@Int.le_refl
def a0I:=@PyProof.Rows.callWith_type1
def a0J:=@PySem.codeAny_mono
def a0K:=@PySem.tupleKind_room_in1
def a0L:=@Nat.lt_of_le_of_lt
def a0M:=@PySem.wpAny_passesOwn
def a0N:=@List.length_replicate
def a0O:=@PySem.builtinLookup_eq_fast
def a0P:=@List.getElem?_append_right
def a0Q:=@List.flatten_cons
def a0R:=@List.mem_append_left
def a0S:=@List.drop_eq_getElem_cons
def a0T:=@PySem.Heap.size_push
def a0U:=@List.length_drop
def a0V:=@beq_self_eq_true
def a0W:=@PySem.mem_of_lookup
def a0X:=@Array.length_toList
def a0Y:=@PySem.wpAny_standAt
def a0Z:=@List.mem_filter
def a00:=@PySem.wpAny_execs_nil
def a01:=@PySem.Calls.spliced_cons
def a02:=@PySem.W.callWith_K
def a03:=@List.find?_cons
def a04:=@PySem.Calls.callWith_builtin
def a05:=@PySem.F.entry_dict_get
def a06:=@Option.isSome_map
def a07:=@PySem.wpAny_loadPart
def a08:=@List.length_singleton
def a09:=@Bool.false_xor
def a1a:=@PySem.wpAny_typeOf
def a1b:=@Bool.and_eq_true
def a1c:=@PySem.codeAny_call_builtin
def a1d:=@PySem.wpAny_isInstance
def a1e:=@Nat.succ_le_succ
def a1f:=@PySem.wpAny_attempt
def a1g:=@Array.getElem?_eq_some_iff
def a1h:=@List.length_nil
def a1i:=@PySem.typeLookup_type
def a1j:=@Nat.le_of_lt
def a1k:=@PySem.W.looks_findIn
def a1l:=@List.getElem_range
def a1m:=@of_decide_eq_false
def a1n:=@PySem.F.plainAttrs_dict
def a1o:=@List.getElem?_cons_zero
def a1p:=@PySem.Calls.spliced_nil
def a1q:=@PySem.wpAny_newObj_type
def a1r:=@Nat.lt_succ_of_lt
def a1s:=@Nat.le_succ_of_le
def a1t:=@PySem.W.cellsFrom_some
def a1u:=@List.take_of_length_le
def a1v:=@List.map_take
def a1w:=@List.sum_cons
def a1x:=@List.drop_length
def a1y:=@List.getElem?_reverse
def a1z:=@PySem.plainObj_wpAny_Assign_Attribute
def a1A:=@Nat.le_of_eq
def a1B:=@PySem.Calls.evalArgs_plain
def a1C:=@List.map_nil
def a1D:=@Nat.lt_trans
def a1E:=@PySem.call_meetsIn
def a1F:=@PySem.wpAny_specialOf
def a1G:=@List.getElem?_append
def a1H:=@PySem.wpAny_updateSeq
def a1I:=@List.mem_of_mem_take
def a1J:=@List.filterMap_cons
def a1K:=@PySem.W.plainGet_of
def a1L:=@PySem.Heap.get?_update_ne
def a1M:=@Int.toNat_of_nonneg
def a1N:=@PySem.W.looks_mroIn
def a1O:=@PySem.wpAny_field
def a1P:=@PySem.Calls.Name_function_global
def a1Q:=@PySem.wpAny_newFunctionEnv_cells
def a1R:=@List.all_cons
def a1S:=@Bool.true_xor
def a1T:=@PySem.plainId_quiet
def a1U:=@Array.perm_iff_toList_perm
def a1V:=@PyProof.Rows.listUpdate_at
def a1W:=@List.nodup_iff_pairwise_ne
def a1X:=@PySem.wpAny_truthy_bool
def a1Y:=@PySem.Within.cons
def a1Z:=@Nat.le_of_succ_le
def a10:=@List.getElem?_eq_none_iff
def a11:=@PySem.F.plain_extend_loop
def a12:=@List.pairwise_iff_getElem
def a13:=@PySem.wpAny_eqBool_int
def a14:=@PySem.wpAny_execs_cons
def a15:=@PySem.wpAny_lookBehind
def a16:=@PySem.pastItsLine_dict
def a17:=@PySem.wpAny_mkText
def a18:=@PySem.wpAny_comprehension_free
def a19:=@PySem.F.args_list_init_2
def a2a:=@Nat.succ_lt_succ
def a2b:=@PyProof.Rows.KeyOrd.kle_trans
def a2c:=@PyProof.Rows.KeyOrd.klt_asymm
def a2d:=@List.Perm.eq_of_pairwise
def a2e:=@List.eq_of_mem_replicate
def a2f:=@PySem.F.slot_dict_clear
def a2g:=@PySem.F.args_dict_get_2
def a2h:=@PySem.F.args_dict_get_3
def a2i:=@PySem.F.plainAttrs_list
def a2j:=@PySem.F.typeCall_list_1
def a2k:=@PySem.F.entry_list_init
def a2l:=@List.of_mem_zip
def a2m:=@PySem.pushCells_keeps
def a2n:=@Nat.not_lt_zero
def a2o:=@PyProof.Rows.subscriptTail_builtinR
def a2p:=@Array.getElem?_eq_none
def a2q:=@PyProof.Rows.boot_list
def a2r:=@PySem.wpAny_of_eq
def a2s:=@PyProof.Rows.boot_dict
def a2t:=@List.nodup_nil
def a2u:=@PySem.F.type_dict_get
def a2v:=@PySem.wpAny_setField
def a2w:=@PySem.W.methodCall_KW
def a2x:=@Bool.and_false
def a2y:=@PySem.isSubtype_type
def a2z:=@PySem.callType_codes
def a2A:=@List.length_filter_le
def a2B:=@PySem.wpAny_load
def a2C:=@Array.mem_toList_iff
def a2D:=@PySem.call_meets
def a2E:=@Bool.and_eq_true_iff
def a2F:=@PySem.codeAny_extend_loopS
def a2G:=@PySem.wpAny_rule
def a2H:=@PySem.Around.under_plainId
def a2I:=@Bool.true_and
def a2J:=@List.map_drop
def a2K:=@PySem.Moved.eq_with
def a2L:=@Nat.add_le_add_left
def a2M:=@PySem.F.called_list
def a2N:=@List.length_reverse
def a2O:=@PySem.SeqAt.EqAt.int_str
def a2P:=@PySem.SeqAt.EqAt.str_int
def a2Q:=@Array.append_assoc
def a2R:=@List.mem_filterMap
def a2S:=@Array.find?_toList
def a2T:=@PySem.wpAny_nsSet1
def a2U:=@PySem.wpAny_evalAll_cons
def a2V:=@PySem.seqIndex_neg
def a2W:=@PySem.Code.quiet_builtin
def a2X:=@Nat.zero_add
def a2Y:=@Array.forIn_toList
def a2Z:=@Array.append_empty
def a20:=@PySem.seqIndex_of
def a21:=@PySem.W.looks_clsIn
def a22:=@PySem.wpAny_letGo
def a23:=@PySem.wpAny_throw
section
open PySem PySem.Spec PyProof.Rows PySem.W
abbrev My:=(List (Addr×Obj))
abbrev Mz:=(Str->Option Value)
abbrev MB:=List Nat
abbrev MC:=(Value->Shared->Prop)
abbrev MD:=List Str
abbrev MF:=(Addr->Prop)
abbrev MH:=Shared
abbrev MJ:=List Value
abbrev MK:=List Expr
abbrev MN:=(Nat->Addr)
abbrev MP:=List Bool
abbrev MQ:=PySem.W.Frag
abbrev MR:=Expr
abbrev MV:=Program
abbrev MW:=List (Option Nat)
abbrev M_:=World
abbrev Na:=FuncData
abbrev Nb:=Around
abbrev Nc:=List Int
abbrev Nf:=List Addr
abbrev Ng:=Array (Option Value)
abbrev Nh:=Frag
abbrev Ni:=(List (Str×Addr))
abbrev Nj:=W.Frag
abbrev Nk:=List Stmt
abbrev Nl:=(List (Str×NameKind))
abbrev Nn:=Array Value
abbrev Np:=Option Addr
abbrev Nq:=Stmt
abbrev Nr:=Array Nat
abbrev Nu:=(List (Str×Value))
abbrev Nx:=Option Int
abbrev Nz:=(Str->Option NameKind)
abbrev ND:=(Nat->Nat->Bool)
abbrev NG:=(Nat->Prop)
abbrev NH:=Option Expr
abbrev NI:=(Value->Option Bool)
abbrev NJ:=(Nat->Value)
end
abbrev NM:List Nat:=[0,0,0,0,0,0,0,0,0,0,0,0,0,0,0,0]
namespace L2
open PySem PySem.Spec PyProof.Rows
abbrev Key:=Sum Int Str
abbrev Nt:=List Key
abbrev Nv:=(List (Key×Value))
abbrev Nw:=(List (List Key×Int))
def eh:Key->Value->Bool
 |.inl k,v=>Value.isInt k v
 |.inr x,v=>Value.isStrOf x v
def LK(w:M_):Key->Int
 |.inl k=>hashInt k
 |.inr x=>hashStr w x
def yw:∀{k:Key}{v:Value},eh k v=true->(∃i t,k=Sum.inl i/\v=Value.int i t)\/(∃x t,k=Sum.inr x/\v=Value.str x t)
 |.inl i,v,h=>by obtain⟨t,e⟩:=Value.isInt_shape (k:=i) (v:=v) h;exact .inl ⟨i,t,rfl,e⟩
 |.inr x,v,h=>by obtain⟨t,e⟩:=Value.isStrOf_shape (x:=x) (v:=v) h;exact .inr ⟨x,t,rfl,e⟩
def nD(i:Int)(t:Tok):eh (.inl i) (.int i t)=true:=by simp[eh,Value.isInt]
def nE(x:Str)(t:Tok):eh (.inr x) (.str x t)=true:=by simp[eh,Value.isStrOf]
def D7(a b:Int):decide ((Sum.inl a:Key)=Sum.inl b)=(a==b):=by
 by_cases e:a=b
 .subst e;simp
 .have h:¬(Sum.inl a:Key)=Sum.inl b:=λq=>e (Sum.inl.inj q);rw[N8 h];exact(T7.mpr e).symm
def D8(a b:Str):decide ((Sum.inr a:Key)=Sum.inr b)=decide (a=b):=by
 by_cases e:a=b
 .subst e;simp
 .have h:¬(Sum.inr a:Key)=Sum.inr b:=λq=>e (a0w q);rw[N8 h,N8 e]
def D9(a:Int)(b:Str):decide ((Sum.inl a:Key)=Sum.inr b)=false:=N8 (λq=>nomatch q)
def D_(a:Str)(b:Int):decide ((Sum.inr a:Key)=Sum.inl b)=false:=N8 (λq=>nomatch q)
def z4(prog:MV)(w:M_):PySem.KeyKind prog w Key where
 is:=eh
 hash:=LK w
 inj:=λv a b ha hb=>by
  rcases yw ha with⟨i,t,rfl,rfl⟩|⟨x,t,rfl,rfl⟩
  .rcases yw hb with⟨j,u,rfl,e⟩|⟨y,u,rfl,e⟩
   .injection e with e1 _;rw[e1]
   .exact nomatch e
  .rcases yw hb with⟨j,u,rfl,e⟩|⟨y,u,rfl,e⟩
   .exact nomatch e
   .injection e with e1 _;rw[e1]
 byValue:=λk v h=>by rcases yw h with⟨i,t,rfl,rfl⟩|⟨x,t,rfl,rfl⟩<;>rfl
 pyHash:=λhv h=>by
  rcases yw hv with⟨i,t,rfl,rfl⟩|⟨x,t,rfl,rfl⟩
  .exact wpAny_pyHash_int h
  .exact wpAny_pyHash_str h
 eqBool:=λhu hv h=>by
  rcases yw hu with⟨i,t,rfl,rfl⟩|⟨x,t,rfl,rfl⟩
  .rcases yw hv with⟨j,u,rfl,rfl⟩|⟨y,u,rfl,rfl⟩
   .rw[D7]at h;exact a13 h
   .rw[D9]at h;exact a2O i t y u _ _ _ _ h
  .rcases yw hv with⟨j,u,rfl,rfl⟩|⟨y,u,rfl,rfl⟩
   .rw[D_]at h;exact a2P x t j u _ _ _ _ h
   .rw[D8]at h;exact wpAny_eqBool_str h
 «strs»:=λk x t v h=>by
  rcases yw h with⟨i,u,rfl,e⟩|⟨y,u,rfl,e⟩
  .exact nomatch e
  .injection e with e1 _
   subst e1;cases v<;>rfl
def lL(prog:MV)(w:M_)(k:Key)(v:Value):(z4 prog w).is k v=eh k v:=rfl
def ej(prog:MV)(w:M_)(i:Int)(t:Tok):(z4 prog w).is (.inl i) (.int i t)=true:=nD i t
def eA(prog:MV)(w:M_)(x:Str)(t:Tok):(z4 prog w).is (.inr x) (.str x t)=true:=nE x t
inductive V where
 |non|bl (b:Bool)|int (i:Int)|str (x:Str)|byt (b:Array UInt8)|flt (b:UInt64)|ref (a:Addr)|ty (n:String)
 deriving DecidableEq
abbrev ML:=List V
abbrev MM:=(List (Key×V))
abbrev Nd:=(List (Str×V))
abbrev NB:=(List (List Key×V))
def RelV:V->Value->Prop
 |.non,u=>u=Value.none
 |.bl b,u=>u=Value.bool b
 |.int i,u=>∃t,u=Value.int i t
 |.str x,u=>∃t,u=Value.str x t
 |.byt b,u=>∃t,u=Value.bytes b t
 |.flt b,u=>∃t,u=Value.float b t
 |.ref a,u=>u=Value.ref a
 |.ty n,u=>u=Value.type n
abbrev Vals:List V->List Value->Prop:=Paired RelV
def Vals.length(r:Vals xs us):xs.length=us.length:=a0o r
def Vals.get:∀{xs:ML}{us:MJ}{i:Nat}{x:V},Vals xs us->xs[i]?=some x->∃u,us[i]?=some u/\RelV x u
 |_,_,_,_,.nil,e=>by simp at e
 |_,_,0,_,.cons r _,e=>by simp at e;subst e;exact⟨_,rfl,r⟩
 |_,_,i+1,x,.cons _ t,e=>by obtain⟨u,h1,h2⟩:=Vals.get (i:=i) (x:=x) t (by simpa using e);exact⟨u,by simpa using h1,h2⟩
def Vals.set{x:V}{u:Value}(r:RelV x u):∀{xs:ML}{us:MJ}(i:Nat),Vals xs us->Vals (xs.set i x) (us.set i u)
 |_,_,_,.nil=>.nil
 |_,_,0,.cons _ t=>.cons r t
 |_,_,i+1,.cons q t=>.cons q (Vals.set r i t)
def Vals.append:∀{xs ys:ML}{us ws:MJ},Vals xs us->Vals ys ws->Vals (xs++ys) (us++ws)
 |_,_,_,_,.nil,s=>s
 |_,_,_,_,.cons r t,s=>.cons r (Vals.append t s)
def Vals.take:∀{xs:ML}{us:MJ}(n:Nat),Vals xs us->Vals (xs.take n) (us.take n)
 |_,_,0,_=>.nil
 |_,_,_+1,.nil=>.nil
 |_,_,n+1,.cons r t=>.cons r (Vals.take n t)
def Vals.drop:∀{xs:ML}{us:MJ}(n:Nat),Vals xs us->Vals (xs.drop n) (us.drop n)
 |_,_,0,r=>r
 |_,_,_+1,.nil=>.nil
 |_,_,n+1,.cons _ t=>Vals.drop n t
def Vm:Option V->Option Value->Prop
 |some v,some u=>RelV v u
 |none,none=>True
 |_,_=>False
def KV{κ:Type}:List (κ×V)->List (κ×Value)->Prop:=Paired λ(p:κ×V) (q:κ×Value)=>p.1=q.1/\RelV p.2 q.2
def kV:Key->V
 |.inl i=>.int i
 |.inr x=>.str x
inductive HO where
 |lst (xs:ML)
 |tup (xs:ML)
 |dK (kvs:MM)|dT (kvs:NB)
 |set (S:Int->Bool) (n:Nat)
 |ins (C dx:Addr) (fs:Nd)
 |own (x:Addr)
 |xd (fs:Nd)
 |met (f x:Addr)
 |rng (lo hi:Int)
 |frz (o:Obj) (u:HO)
 |tbl (ps:Nn)
 |ext (φ:Heap->Prop)
abbrev Hp:=Addr->Option HO
def upd(H:Hp)(a:Addr)(o:HO):Hp:=λb=>if b=a then some o else H b
def zd:upd H a o a=some o:=by unfold upd;rw[if_pos rfl]
def zg(h:b≠a):upd H a o b=H b:=by unfold upd;rw[if_neg h]
def wJ:upd (upd H a o) a u=upd H a u:=by
 funext b;unfold upd;split<;>rfl
def Hj{H:Hp}{a b:Addr}{o u:HO}(h:H a=some o)(h':H b=some u)(d:o≠u):a≠b:=by intro e;subst e;rw[h]at h';exact d (T1 h')
def yd{H:Hp}{a b:Addr}{o:HO}(h:H a=some o)(h':H b=none):a≠b:=by intro e;subst e;rw[h]at h';cases h'
section
variable (P:MV) (w:M_)
def yF(H:Hp)(h:Heap)(a:Addr):HO->Prop
 |.lst xs=>xs.length<=sizeLine/\∃(its:MJ)(n:Nat),Vals xs its/\h.get? a=some { cls:=.type "list",data:=.seq its.toArray n }
 |.tup xs=>xs.length<=sizeLine/\∃its:List Value,Vals xs its/\IsTup h a its.toArray
 |.dK kvs=>kvs.length<=sizeLine/\(a==sysModules)=false/\∃vs,KV kvs vs/\h.DictOf (z4 P w) a vs
 |.dT kvs=>kvs.length<=sizeLine/\(a==sysModules)=false/\∃xs:List (List Key×Addr×Value),
   Paired (λ(p:List Key×V) (q:List Key×Addr×Value)=>p.1=q.1/\H q.2.1=some (.tup (p.1.map kV))/\RelV p.2 q.2.2) kvs xs/\
   ∃o es ep,h.get? a=some o/\o.ExactDict/\o.data=.dict es ep/\es.toList=xs.map (entryOfKey (tupleKind (z4 P w)))/\(xs.map (·.1)).Nodup
 |.set S n=>h.SetOf (intKind P w) a S n
 |.ins C dx fs=>H dx=some (.own a)/\fs.length<=1000/\dx≠a/\h.get? a=some (PySem.W.instObj C dx)/\
   ∃mA,h.Ns1 dx mA/\(∀f,Vm (fs.lookup f) (mA f))/\PySem.Within mA (fs.map (·.1))
 |.own _=>∃o,h.get? a=some o
 |.xd fs=>∃mA,h.Ns1 a mA/\∀f,Vm (fs.lookup f) (mA f)
 |.rng lo hi=>∃t u v,h.get? a=some { cls:=.type "range",data:=.fields #[.int lo t,.int hi u,.int 1 v] }
 |.frz o u=>h.get? a=some o/\yF H h a u
 |.tbl ps=>h.get? a=some { cls:=.none,data:=.fields ps }
 |.met f x=>h.get? a=some (PySem.W.methodObj (.ref f) (.ref x))
 |.ext φ=>φ h/\(∃o,h.get? a=some o)/\∀h1 h2:Heap,φ h1->(∀o,h1.get? a=some o->h2.get? a=some o)->φ h2
def HOk(H:Hp)(h:Heap):Prop:=∀a o,H a=some o->yF P w H h a o
end
section
variable {P:MV}{w:M_}{H H':Hp}{h h':Heap}{a:Addr}{o:HO}
def yF.lt(x:yF P w H h a o):a<h.objs.size:=by
 cases o with
 |lst xs=>obtain⟨_,_,_,_,e⟩:=x;exact N4 e
 |tup xs=>obtain⟨_,_,_,p⟩:=x;exact p.lt
 |dK kvs=>obtain⟨_,_,_,_,o,_,_,e,_⟩:=x;exact N4 e
 |dT kvs=>obtain⟨_,_,_,_,o,_,_,e,_⟩:=x;exact N4 e
 |set S n=>obtain⟨o,_,_,_,e,_⟩:=x;exact N4 e
 |ins C dx fs=>obtain⟨_,_,_,e,_⟩:=x;exact N4 e
 |own y=>obtain⟨_,e⟩:=x;exact N4 e
 |xd fs=>obtain⟨_,⟨_,_,_,e,_⟩,_⟩:=x;exact N4 e
 |rng lo hi=>obtain⟨_,_,_,e⟩:=x;exact N4 e
 |frz ob u=>obtain⟨e,_⟩:=x;exact N4 e
 |tbl ps=>exact N4 (show h.get? a=some _ from x)
 |met f y=>exact N4 (show h.get? a=some _ from x)
 |ext φ=>obtain⟨_,⟨_,e⟩,_⟩:=x;exact N4 e
def Paired.Hk{α β:Type}{F G:α->β->Prop}:∀{l₁:List α}{l₂:List β},Paired F l₁ l₂->(∀a b,F a b->G a b)->Paired G l₁ l₂
 |_,_,.nil,_=>.nil
 |_,_,.cons r t,f=>.cons (f _ _ r) (Paired.Hk t f)
def yF.nj(x:yF P w H h a o)(k:∀b u,(b=a\/H b=some (.own a))->h.get? b=some u->h'.get? b=some u)
  (ho:∀b,H b=some (.own a)->H' b=some (.own a)) (ht:∀b xs,H b=some (.tup xs)->H' b=some (.tup xs)):yF P w H' h' a o:=by
 induction o with
 |lst xs=>obtain⟨z,its,n,r,e⟩:=x;exact⟨z,its,n,r,k _ _ (.inl rfl) e⟩
 |tup xs=>obtain⟨z,its,r,ob,e,c⟩:=x;exact⟨z,its,r,ob,k _ _ (.inl rfl) e,c⟩
 |dK kvs=>obtain⟨z,y,vs,r,ob,es,ep,e,c⟩:=x;exact⟨z,y,vs,r,ob,es,ep,k _ _ (.inl rfl) e,c⟩
 |dT kvs=>obtain⟨z,y,xs,r,ob,es,ep,e,c⟩:=x;exact⟨z,y,xs,Paired.Hk r λp q z=>⟨z.1,ht _ _ z.2.1,z.2.2⟩,ob,es,ep,k _ _ (.inl rfl) e,c⟩
 |set S n=>obtain⟨ob,es,ep,t,e,c⟩:=x;exact⟨ob,es,ep,t,k _ _ (.inl rfl) e,c⟩
 |ins C dx fs=>obtain⟨d,z,ne,e,mA,⟨od,es,ep,e2,c⟩,r⟩:=x;exact⟨ho _ d,z,ne,k _ _ (.inl rfl) e,mA,⟨od,es,ep,k _ _ (.inr d) e2,c⟩,r⟩
 |own y=>obtain⟨ob,e⟩:=x;exact⟨ob,k _ _ (.inl rfl) e⟩
 |xd fs=>obtain⟨mA,⟨od,es,ep,e,c⟩,r⟩:=x;exact⟨mA,⟨od,es,ep,k _ _ (.inl rfl) e,c⟩,r⟩
 |rng lo hi=>obtain⟨t,u,v,e⟩:=x;exact⟨t,u,v,k _ _ (.inl rfl) e⟩
 |frz ob u ih=>obtain⟨e,q⟩:=x;exact⟨k _ _ (.inl rfl) e,ih q⟩
 |tbl ps=>have e:h.get? a=some { cls:=.none,data:=.fields ps }:=x;show h'.get? a=some { cls:=.none,data:=.fields ps };exact k a _ (.inl rfl) e
 |met f y=>have e:h.get? a=some (PySem.W.methodObj (.ref f) (.ref y)):=x;show h'.get? a=some (PySem.W.methodObj (.ref f) (.ref y));exact k a _ (.inl rfl) e
 |ext φ=>obtain⟨p,⟨o,e⟩,st⟩:=x;exact⟨st _ _ p λo q=>k _ _ (.inl rfl) q,⟨o,k _ _ (.inl rfl) e⟩,st⟩
def HOk.lt(x:HOk P w H h)(e:H a=some o):a<h.objs.size:=(x a o e).lt
def HOk.fresh(x:HOk P w H h)(e:h.objs.size<=a):H a=none:=by
 cases q:H a with
 |none=>rfl
 |some u=>exact absurd (N9 (x.lt q) e) (a0k _)
def HOk.kept(x:HOk P w H h)(k:∀b u,h.get? b=some u->h'.get? b=some u):HOk P w H h':=λa o e=>
 (x a o e).nj (λb u _ q=>k b u q) (λ_ q=>q) λ_ _ q=>q
def HOk.laid(x:HOk P w H h)(k:∀b u,h.get? b=some u->h'.get? b=some u)(hp:h.objs.size<=a)(new:yF P w (upd H a o) h' a o):HOk P w (upd H a o) h':=λb u e=>by
 have hn:=x.fresh hp;by_cases hb:b=a
 .subst hb;rw[zd]at e;cases e;exact new
 .rw[zg hb]at e;exact(x b u e).nj (λc v _ q=>k c v q) (λc q=>by rw[zg (yd q hn)];exact q) λc xs q=>by rw[zg (yd q hn)];exact q
end
def Rd(H:Hp)(a:Addr)(u:HO):Prop:=H a=some u\/∃o,H a=some (.frz o u)
def Rd.ok(r:Rd H a u)(x:HOk P w H h):yF P w H h a u:=by
 rcases r with r|⟨o,r⟩
 .exact x a u r
 .obtain⟨_,q⟩:=x a _ r;exact q
def Mut:Option HO->Prop
 |some (.lst _)=>True
 |some (.dK _)=>True
 |some (.dT _)=>True
 |some (.set _ _)=>True
 |some (.ins _ _ _)=>True
 |some (.ext _)=>True
 |_=>False
def HOk.write(ok:HOk P w H h)(mu:Mut (H x))(he:e=x\/H e=some (.own x))(k:∀b u,b≠e->h.get? b=some u->h'.get? b=some u)(heo:∃u,h'.get? e=some u)
  (new:yF P w (upd H x o') h' x o'):HOk P w (upd H x o') h':=λb u q=>by
 have nown:∀c y,H c=some (.own y)->c≠x:=λc y r z=>by subst z;rw[r]at mu;exact mu
 have ntup:∀c xs,H c=some (.tup xs)->c≠x:=λc xs r z=>by subst z;rw[r]at mu;exact mu
 by_cases hb:b=x
 .subst hb;rw[zd]at q;cases q;exact new
 .rw[zg hb]at q;by_cases hbe:b=e
  .have q':H b=some (.own x):=by
    rcases he with z|z
    .exact absurd (hbe.trans z) hb
    .rw[hbe];exact z
   rw[q]at q';cases q';obtain⟨v,hv⟩:=heo;exact⟨v,by rw[hbe];exact hv⟩
  .refine(ok b u q).nj (λc v hc r=>k c v ?_ r) (λc r=>by rw[zg (nown c b r)];exact r) λc xs r=>by rw[zg (ntup c xs r)];exact r
   rcases hc with rfl|hc
   .exact hbe
   .rintro rfl
    rcases he with z|z
    .exact nown c b hc z
    .rw[hc]at z;cases z;exact hb rfl
structure Un(fs ex:Nf)(H H':Hp)(h h':Heap):Prop where
 keep:∀b o,h.get? b=some o->H b=none->b∉fs->b∉ex->h'.get? b=some o
 slot:∀b o,h.get? b=some o->H b=none->b∈fs->b∉ex->∃sl,h'.get? b=some { o with slots:=sl }
 free:∀b o,h.get? b=some o->H b=none->b∉ex->H' b=none
 there:∀b o,h.get? b=some o->b∉ex->∃o',h'.get? b=some o'
 mI:∀b xs,H b=some (.tup xs)->H' b=some (.tup xs)
 nB:∀b o u,H b=some (.frz o u)->H' b=some (.frz o u)
 sQ:∀b ps,H b=some (.tbl ps)->∃more,H' b=some (.tbl (ps++more))
section
variable {fs fs' ex ex':Nf}{H H1 H2:Hp}{h h1 h2 h':Heap}{a x e:Addr}{o:HO}
def Un.any(u:Un fs ex H H1 h h1)(q:h.get? b=some ob)(n:H b=none)(hx:b∉ex):∃sl,h1.get? b=some { ob with slots:=sl }:=by
 by_cases hb:b∈fs
 .exact u.slot b ob q n hb hx
 .exact⟨ob.slots,u.keep b ob q n hb hx⟩
def Un.kept(k:∀b u,h.get? b=some u->h'.get? b=some u):Un fs ex H H h h':=
 ⟨λb ob q _ _ _=>k b ob q,λb ob q _ _ _=>⟨ob.slots,k b ob q⟩,λ_ _ _ n _=>n,λb ob q _=>⟨ob,k b ob q⟩,λ_ _ q=>q,λ_ _ _ q=>q,λ_ ps q=>⟨#[],by rw[q];simp⟩⟩
def Un.refl:Un fs ex H H h h:=Un.kept λ_ _ q=>q
def Un.laid(k:∀b u,h.get? b=some u->h'.get? b=some u)(hp:h.objs.size<=a)(hn:H a=none):Un fs ex H (upd H a o) h h' where
 keep:=λb u q _ _ _=>k b u q
 slot:=λb u q _ _ _=>⟨u.slots,k b u q⟩
 free:=λb u q n _=>by rw[zg (O1 (N9 (N4 q) hp))];exact n
 there:=λb u q _=>⟨u,k b u q⟩
 mI:=λb xs q=>by rw[zg (yd q hn)];exact q
 nB:=λb u xs q=>by rw[zg (yd q hn)];exact q
 sQ:=λb ps q=>⟨#[],by rw[zg (yd q hn),q];simp⟩
def Un.write(mu:Mut (H x))(he:e=x\/H e=some (.own x))(k:∀b u,b≠e->h.get? b=some u->h'.get? b=some u)(heo:∃u,h'.get? e=some u):Un fs ex H (upd H x o) h h':=by
 have hx:∀b,H b=none->b≠x:=λb n z=>by subst z;rw[n]at mu;exact mu
 have hb:∀b,H b=none->b≠e:=λb n z=>by
  subst z;rcases he with r|r
  .exact hx b n r
  .rw[n]at r;cases r
 have hm:∀b u,H b=some u->¬Mut (some u)->b≠x:=λb u q nm z=>by subst z;rw[q]at mu;exact nm mu
 refine⟨λb u q n _ _=>k b u (hb b n) q,λb u q n _ _=>⟨u.slots,k b u (hb b n) q⟩,λb u q n _=>by rw[zg (hx b n)];exact n,λb u q _=>?_,
  λb xs q=>by rw[zg (hm b _ q λz=>z)];exact q,λb u xs q=>by rw[zg (hm b _ q λz=>z)];exact q,λb ps q=>⟨#[],by rw[zg (hm b _ q λz=>z),q];simp⟩⟩
 by_cases hbe:b=e
 .subst hbe;exact heo
 .exact⟨u,k b u hbe q⟩
end
def trk(h:Heap)(H:Hp):List Addr:=(List.range h.objs.size).filter λa=>(H a).isSome
def tK(h:Heap)(H:Hp):Heap:=PySem.W.hideAll h (trk h H)
def nF(h:Heap)(H:Hp):(tK h H).objs.size=h.objs.size:=PySem.W.hideAll_size _ _
def tV(e:h.get? b=some o)(n:H b=none):(tK h H).get? b=some o:=
 PySem.W.hideAll_get _ e λhm=>by have q:(H b).isSome=true:=(a0Z.mp hm).2;rw[n]at q;simp at q
def BJ(e:(tK h H).get? b=some o):h.get? b=some o/\H b=none:=by
 have e':h.get? b=some o:=PySem.W.of_hideAll (trk h H) e;refine⟨e',?_⟩;cases q:H b with
 |none=>rfl
 |some x=>have hm:b∈trk h H:=a0Z.mpr ⟨a0u.mpr (N4 e'),by simp[q]⟩;have z:(tK h H).get? b=none:=PySem.W.hideAll_none (trk h H) hm;rw[z]at e;cases e
structure Mod(K:MQ)(mg:Mz)(base:Heap):Prop where
 kin:K.In base
 glob:base.Ns mainGlobals mg
 blt:∃mb,base.Ns builtinsNs mb/\∀x:Str,x≠"__name__"->mb x=bootBuiltins x
 nolimit:base.NoLimit
structure Cx where
 prog:Program
 w:World
 K:PySem.W.Frag
 mg:Str->Option Value
 base:Heap
 A:Around
 N:List Str
 s₀:Shared
 H₀:Hp
 env:Env
 outer:List Env
 stack:List Env
 ex:List Addr
 fn:Str->Bool
 calm:Bool
 pn:List (Addr×Obj)
 xe:Value->Shared->Prop
abbrev NO(X:Cx):=model X.prog X.w
def frs(l:List Env):List Addr:=l.filterMap (·.frame)
abbrev Cx.fs(X:Cx):List Addr:=frs X.outer
def Vis(sc:Scope)(x:Str):Prop:=sc.names.lookup x=some .local\/sc.names.lookup x=some .cell\/sc.names.lookup x=some .free
def Loc(sc:Scope)(x:Str):Prop:=sc.names.lookup x=some .local\/sc.names.lookup x=some .cell
def Look(env:Env)(h:Heap)(m:Mz)(x:Str)(u:Value):Prop:=
 (env.kindOf x=some .local/\m x=some u)\/((env.kindOf x=some .cell\/env.kindOf x=some .free)/\∃c,env.cells.lookup x=some c/\h.IsCell c (some u))
structure Cx.Ok(X:Cx):Prop where
 mod:Mod X.K X.mg X.base
 kind:X.env.scope.kind=.function
 glob:X.env.globals=mainGlobals
 blt:X.env.builtins=builtinsNs
 above:X.s₀.heap.objs.size<=X.env.locals
 inj:∀x y c,X.env.cells.lookup x=some c->X.env.cells.lookup y=some c->x=y
 has:∀x,(X.env.kindOf x=some .cell\/X.env.kindOf x=some .free)->∃c,X.env.cells.lookup x=some c
 cab:∀x c,X.fn x=true->X.env.cells.lookup x=some c->X.s₀.heap.objs.size<=c
 hd:X.calm=true->X.A.handled=none
 frames:X.A.frames=some X.stack
 stk:X.stack=X.outer\/(X.stack=X.env::X.outer/\X.env.frame=some X.env.locals)
 exf:∀b∈X.ex,b≠X.env.locals/\∀x c,X.env.cells.lookup x=some c->c≠b
 bs:∀b o,X.base.get? b=some o->X.s₀.heap.get? b=some o/\X.H₀ b=none
 bsz:X.base.objs.size<=X.s₀.heap.objs.size
 D5:∀b o,X.base.get? b=some o->b∉X.ex
 D6:∀b∈X.ex,b∉X.fs
 eB:X.s₀.heap.FunFrames X.base X.outer
 frf:∀b∈X.fs,X.H₀ b=none
structure Inv(X:Cx)(pins:My)(σ:List (Option V))(H:Hp)(s:MH):Prop where
 ok:X.Ok
 os:s.os=X.s₀.os
 bare:AllBare s.gens
 base:Un X.fs X.ex X.H₀ H X.s₀.heap s.heap
 loc:∃m,s.heap.Ns X.env.locals m/\∀(i:Nat)(x:Str)(v:V),X.N[i]?=some x->σ[i]?=some (some v)->Vis X.env.scope x->∃u,RelV v u/\Look X.env s.heap m x u
 cell:∀x c,X.env.cells.lookup x=some c->∃v,s.heap.IsCell c v
 free:H X.env.locals=none
 QY:∀x c,X.env.cells.lookup x=some c->H c=none
 pin:∀p∈X.pn++pins,s.heap.get? p.1=some p.2/\H p.1=none/\p.1≠X.env.locals/\p.1∉X.fs/\∀v,p.2.data≠.cell v
 hok:HOk X.prog X.w H s.heap
 len:σ.length=X.N.length
section
variable {X:Cx}{pins:My}{σ:List (Option V)}{H H':Hp}{s:MH}{h':Heap}
def Cx.Ok.LL(ok:X.Ok)(e:X.base.get? b=some o):b∉X.fs:=λhb=>by have:=(ok.eB.mem hb).1;rw[e]at this;cases this
def Inv.bs(I:Inv X pins σ H s):∀b o,X.base.get? b=some o->s.heap.get? b=some o/\H b=none:=λb o e=>
 ⟨I.base.keep b o (I.ok.bs b o e).1 (I.ok.bs b o e).2 (I.ok.LL e) (I.ok.D5 b o e),I.base.free b o (I.ok.bs b o e).1 (I.ok.bs b o e).2 (I.ok.D5 b o e)⟩
def Inv.bk(I:Inv X pins σ H s):∀b o,X.base.get? b=some o->s.heap.get? b=some o:=λb o e=>(I.bs b o e).1
def Inv.mod(I:Inv X pins σ H s):Mod X.K X.mg X.base:=I.ok.mod
def Inv.kIn(I:Inv X pins σ H s):X.K.In s.heap:=I.ok.mod.kin.keeps I.bk
def Inv.lt(I:Inv X pins σ H s):X.env.locals<s.heap.objs.size:=let⟨_,hn,_⟩:=I.loc;hn.lt
def Inv.sz(I:Inv X pins σ H s):X.s₀.heap.objs.size<=s.heap.objs.size:=P7 I.ok.above (a1j I.lt)
def Inv.IZ(I:Inv X pins σ H s)(h:s.heap.objs.size<=a):a∉X.fs:=λhb=>by obtain⟨_,o,ho,_⟩:=I.ok.eB.mem hb;exact absurd (N9 (N4 ho) (P7 I.sz h)) (a0k _)
def Inv.cne(I:Inv X pins σ H s):∀x c,X.env.cells.lookup x=some c->c≠X.env.locals:=λx c e z=>by obtain⟨v,o,ho,hd⟩:=I.cell x c e;obtain⟨m,⟨o',es,ep,ho',hd',_⟩,_⟩:=I.loc;rw[z,ho']at ho;cases ho;rw[hd']at hd;cases hd
def Inv.eB(I:Inv X pins σ H s):s.heap.FunFrames X.base X.outer:=by
 have all:∀(l:List Env),(∀b∈frs l,b∈X.fs)->X.s₀.heap.FunFrames X.base l->s.heap.FunFrames X.base l:=by
  intro l
  induction l with
  |nil=>intro _ _;trivial
  |cons env r ih=>intro hs hl;obtain⟨hk,⟨L,o,hf,hn,ho,hd⟩,hr⟩:=hl;have hL:L∈X.fs:=hs L (by unfold frs;rw[a1J,hf];exact M3);obtain⟨sl,e⟩:=I.base.slot L o ho (I.ok.frf L hL) hL λz=>I.ok.D6 L z hL;exact⟨hk,⟨L,_,hf,hn,e,hd⟩,ih (λb hb=>hs b (by unfold frs;rw[a1J,hf];exact M8 _ hb)) hr⟩
 exact all X.outer (λ_ hb=>hb) I.ok.eB
def Inv.stack(I:Inv X pins σ H s):s.heap.FunFrames X.base X.stack:=by
 rcases I.ok.stk with e|⟨e,hf⟩
 .rw[e];exact I.eB
 .rw[e];obtain⟨m,hn,_⟩:=I.loc;refine .cons (by rw[I.ok.kind];decide) hf hn ?_ I.eB;exact Heap.get?_none_of_le (P7 I.ok.bsz I.ok.above)
def Inv.Uj(I:Inv X pins σ H s):∀b∈frs X.stack,b∈X.env.locals::X.fs:=λb hb=>by
 rcases I.ok.stk with e|⟨e,hf⟩
 .rw[e]at hb;exact M8 _ hb
 .rw[e]at hb;unfold frs at hb;rw[a1J,hf]at hb;exact hb
def Inv.UX(I:Inv X pins σ H s):∀b∈frs X.stack,H b=none:=λb hb=>by
 rcases O5.mp (I.Uj b hb)with e|hb
 .rw[e];exact I.free
 .obtain⟨_,o,ho,_⟩:=I.ok.eB.mem hb;exact I.base.free b o ho (I.ok.frf b hb) λz=>I.ok.D6 b z hb
def Inv.step{g':Array GenState}{t':Nat}{d':Drawn}{ch:Nf}(I:Inv X pins σ H s)
  (hch:∀b∈ch,(b∈X.ex\/X.s₀.heap.objs.size<=b)/\b≠X.env.locals/\(∀x c,X.env.cells.lookup x=some c->c≠b)/\∀p∈X.pn++pins,p.1≠b)
  (keep:∀b o,b≠X.env.locals->b∉X.fs->b∉ch->s.heap.get? b=some o->H b=none->h'.get? b=some o)
  (slot:∀b o,b≠X.env.locals->b∈X.fs->b∉ch->s.heap.get? b=some o->H b=none->∃sl,h'.get? b=some { o with slots:=sl }) (free:∀b o,b∉ch->s.heap.get? b=some o->H b=none->H' b=none)
  (there:∀b o,b∉ch->s.heap.get? b=some o->∃o',h'.get? b=some o')
  (mI:∀b xs,H b=some (.tup xs)->H' b=some (.tup xs)) (nB:∀b o u,H b=some (.frz o u)->H' b=some (.frz o u)) (sQ:∀b ps,H b=some (.tbl ps)->∃more,H' b=some (.tbl (ps++more)))
  (ns:∀m,s.heap.Ns X.env.locals m->h'.Ns X.env.locals m) (hok:HOk X.prog X.w H' h') (hg:AllBare g'):
  Inv X pins σ H' { s with heap:=h',gens:=g',drawn:=d',toks:=t' }:=by
 have neL:∀b o,X.s₀.heap.get? b=some o->b≠X.env.locals:=λb o e=>O1 (N9 (N4 e) I.ok.above);have neC:∀b o,X.s₀.heap.get? b=some o->b∉X.ex->b∉ch:=λb o e hx hb=>by
  rcases(hch b hb).1 with z|z
  .exact hx z
  .exact absurd (N9 (N4 e) z) (a0k _)
 have cellK:∀x c,X.env.cells.lookup x=some c->∀v,s.heap.IsCell c v->h'.IsCell c v:=λx c e v ⟨o,ho,hd⟩=>by
  have nch:c∉ch:=λz=>(hch c z).2.2.1 x c e rfl;by_cases hc:c∈X.fs
  .obtain⟨sl,q⟩:=slot c o (I.cne x c e) hc nch ho (I.QY x c e);exact⟨_,q,hd⟩
  .exact⟨o,keep c o (I.cne x c e) hc nch ho (I.QY x c e),hd⟩
 refine⟨I.ok,I.os,hg,⟨λb o e n hb hx=>?_,λb o e n hb hx=>?_,λb o e n hx=>?_,λb o e hx=>?_,λb xs e=>mI b xs (I.base.mI b xs e),λb o xs e=>nB b o xs (I.base.nB b o xs e),λb ps e=>?_⟩,?_,λx c e=>?_,?_,λx c e=>?_,λp hp=>?_,hok,I.len⟩
 .exact keep b o (neL b o e) hb (neC b o e hx) (I.base.keep b o e n hb hx) (I.base.free b o e n hx)
 .obtain⟨sl,e1⟩:=I.base.slot b o e n hb hx;obtain⟨sl',e2⟩:=slot b _ (neL b o e) hb (neC b o e hx) e1 (I.base.free b o e n hx);exact⟨sl',e2⟩
 .obtain⟨o',e1⟩:=I.base.there b o e hx;exact free b o' (neC b o e hx) e1 (I.base.free b o e n hx)
 .obtain⟨o',e1⟩:=I.base.there b o e hx;exact there b o' (neC b o e hx) e1
 .obtain⟨m1,e1⟩:=I.base.sQ b ps e;obtain⟨m2,e2⟩:=sQ b _ e1;exact⟨m1++m2,by rw[e2,a2Q]⟩
 .obtain⟨m,hn,hl⟩:=I.loc;refine⟨m,ns m hn,λi x v e1 e2 e3=>?_⟩;obtain⟨u,r,l⟩:=hl i x v e1 e2 e3;refine⟨u,r,?_⟩;rcases l with l|⟨k,c,e,z⟩
  .exact .inl l
  .exact .inr ⟨k,c,e,cellK x c e _ z⟩
 .obtain⟨v,z⟩:=I.cell x c e;exact⟨v,cellK x c e v z⟩
 .obtain⟨m,⟨o,_,_,ho,_⟩,_⟩:=I.loc;exact free _ o (λz=>(hch _ z).2.1 rfl) ho I.free
 .obtain⟨v,o,ho,hd⟩:=I.cell x c e;exact free c o (λz=>(hch c z).2.2.1 x c e rfl) ho (I.QY x c e)
 .obtain⟨e,n,ne,nf,d⟩:=I.pin p hp;have nch:p.1∉ch:=λz=>(hch p.1 z).2.2.2 p hp rfl;exact⟨keep p.1 p.2 ne nf nch e n,free p.1 p.2 nch e n,ne,nf,d⟩
def Inv.un(I:Inv X pins σ H s)(u:Un X.fs [] H H' s.heap h')(hok:HOk X.prog X.w H' h'):Inv X pins σ H' { s with heap:=h',toks:=t' }:=by
 obtain⟨m,⟨o,es,ep,ho,r⟩,_⟩:=id I.loc;obtain⟨sl,hL⟩:=u.any ho I.free (by simp);exact I.step (g':=s.gens) (d':=s.drawn) (ch:=[]) (λ_ z=>nomatch z) (λb o _ hb _ e n=>u.keep b o e n hb (by simp)) (λb o _ hb _ e n=>u.slot b o e n hb (by simp)) (λb o _ e n=>u.free b o e n (by simp)) (λb o _ e=>u.there b o e (by simp)) u.mI u.nB u.sQ (λm' hm=>by
  obtain⟨o',es',ep',ho',r'⟩:=hm;rw[ho]at ho';cases ho';exact⟨_,es',ep',hL,r'⟩) hok I.bare
def Inv.call(I:Inv X pins σ H s)(u:Un (frs X.stack) ch H H' s.heap h')(hok:HOk X.prog X.w H' h')(hg:AllBare g')
  (hch:∀b∈ch,(b∈X.ex\/X.s₀.heap.objs.size<=b)/\b≠X.env.locals/\(∀x c,X.env.cells.lookup x=some c->c≠b)/\∀p∈X.pn++pins,p.1≠b):
  Inv X pins σ H' { s with heap:=h',gens:=g',drawn:=d',toks:=t' }:=by
 obtain⟨m,⟨o,es,ep,ho,r⟩,_⟩:=id I.loc;obtain⟨sl,hL⟩:=u.any ho I.free λz=>(hch _ z).2.1 rfl;exact I.step (ch:=ch) hch (λb o hL hb hc e n=>u.keep b o e n (λz=>(O5.mp (I.Uj b z)).elim hL hb) hc) (λb o _ _ hc e n=>u.any e n hc) (λb o hc e n=>u.free b o e n hc) (λb o hc e=>u.there b o e hc) u.mI u.nB u.sQ (λm' hm=>by
  obtain⟨o',es',ep',ho',r'⟩:=hm;rw[ho]at ho';cases ho';exact⟨_,es',ep',hL,r'⟩) hok hg
def Inv.turned(I:Inv X pins σ H s)(k:∀b o,b≠it->s.heap.get? b=some o->h'.get? b=some o)(hn:H it=none)(hL:it≠X.env.locals)
  (h1:it∈X.ex\/X.s₀.heap.objs.size<=it) (h2:∀x c,X.env.cells.lookup x=some c->c≠it) (h3:∀p∈X.pn++pins,p.1≠it):Inv X pins σ H { s with heap:=h',toks:=t' }:=by
 have nit:∀b u,H b=some u->b≠it:=λb u e z=>by rw[z,hn]at e;cases e
 refine I.step (g':=s.gens) (d':=s.drawn) (ch:=[it]) (λb hb=>?_) (λb o _ _ hc e _=>k b o (λz=>hc (by simp[z])) e) (λb o _ _ hc e _=>⟨o.slots,k b o (λz=>hc (by simp[z])) e⟩) (λ_ _ _ _ n=>n)
  (λb o hc e=>⟨o,k b o (λz=>hc (by simp[z])) e⟩) (λ_ _ e=>e) (λ_ _ _ e=>e) (λb ps e=>⟨#[],by rw[e];simp⟩) (λm hm=>?_) (λb u e=>?_) I.bare
 .have e:b=it:=by simpa using hb
  subst e;exact⟨h1,hL,h2,h3⟩
 .obtain⟨o,es,ep,ho,r⟩:=hm;exact⟨o,es,ep,k _ o (Ne.symm hL) ho,r⟩
 .refine(I.hok b u e).nj (λc v hc q=>k c v ?_ q) (λ_ q=>q) λ_ _ q=>q;rcases hc with z|z
  .rw[z];exact nit b u e
  .exact nit c _ z
def Inv.tok(I:Inv X pins σ H s)(t:Nat):Inv X pins σ H { s with toks:=t }:=I.un (h':=s.heap) (t':=t) Un.refl I.hok
def Inv.kept(I:Inv X pins σ H s)(k:∀b u,s.heap.get? b=some u->h'.get? b=some u):Inv X pins σ H { s with heap:=h',toks:=t' }:=I.un (Un.kept k) (I.hok.kept k)
def Inv.laid(I:Inv X pins σ H s)(k:∀b u,s.heap.get? b=some u->h'.get? b=some u)(hp:s.heap.objs.size<=a)(new:yF X.prog X.w (upd H a o) h' a o):
  Inv X pins σ (upd H a o) { s with heap:=h',toks:=t' }:=I.un (Un.laid k hp (I.hok.fresh hp)) (I.hok.laid k hp new)
def Inv.write(I:Inv X pins σ H s)(mu:Mut (H x))(he:e=x\/H e=some (.own x))(k:∀b u,b≠e->s.heap.get? b=some u->h'.get? b=some u)(heo:∃u,h'.get? e=some u)
  (new:yF X.prog X.w (upd H x o) h' x o):Inv X pins σ (upd H x o) { s with heap:=h',toks:=t' }:=I.un (Un.write mu he k heo) (I.hok.write mu he k heo new)
def Inv.VW(I:Inv X pins σ H s)(h:∀p∈pins',s.heap.get? p.1=some p.2/\H p.1=none/\p.1≠X.env.locals/\p.1∉X.fs/\∀v,p.2.data≠.cell v):Inv X pins' σ H s:=
 ⟨I.ok,I.os,I.bare,I.base,I.loc,I.cell,I.free,I.QY,λp hp=>(R9.mp hp).elim (λz=>I.pin p (a0R _ z)) (h p),I.hok,I.len⟩
def gx{N:MD}(hN:N.Nodup){i j:Nat}{x:Str}(a:N[i]?=some x)(b:N[j]?=some x):i=j:=by obtain⟨h1,e1⟩:=N7.mp a;obtain⟨h2,e2⟩:=N7.mp b;exact(List.getElem_inj hN).mp (e1.trans e2.symm)
def bO(I:Inv X pins σ H s)(hN:X.N.Nodup)(hi:X.N[i]?=some x)(hx:Loc X.env.scope x)(r:RelV v u)
  (h:∀s',Inv X pins (σ.set i (some v)) H s'->(∃a,Heap.SameBut a s.heap s'.heap/\(a=X.env.locals\/X.env.cells.lookup x=some a))->Q () s') (hf:X.fn x=true\/X.env.scope.names.lookup x=some .local:=by first|exact .inl rfl|exact .inr rfl|assumption):wpAny M A (storeName X.env x u) Q E s:=by
 obtain⟨m,hn,hl⟩:=id I.loc;have hcls:(X.env.scope.kind == .class||(X.env.scope.kind == .module&&X.env.locals != X.env.globals))=false:=by rw[I.ok.kind];rfl
 have hiσ:i<σ.length:=by rw[I.len];exact(N7.mp hi).1
 have cne:=I.cne;have tracked:∀{a:Addr}{h':Heap},(∃o,s.heap.get? a=some o/\H a=none)->Heap.SameBut a s.heap h'->HOk X.prog X.w H h':=λ{a h'} ha hs b ob e=>by
  obtain⟨_,_,hfree⟩:=ha;refine(I.hok b ob e).nj (λc w' hc q=>(hs.2 c ?_).trans q) (λ_ q=>q) λ_ _ q=>q
  rintro rfl
  rcases hc with rfl|hc
  .rw[hfree]at e;cases e
  .rw[hfree]at hc;cases hc
 rcases hx with hk|hk
 .refine wpAny_storeName_local hk hn (λh' hn' hs=>?_) hcls;obtain⟨oL,_,_,hoL,_⟩:=id hn;refine h _ ⟨I.ok,I.os,I.bare,⟨λb o e n hb hx=>?_,λb o e n hb hx=>?_,I.base.free,λb o e hx=>?_,I.base.mI,I.base.nB,I.base.sQ⟩,⟨_,hn',λj y v' e1 e2 e3=>?_⟩,λy c e=>?_,I.free,I.QY,λp hp=>?_,tracked ⟨oL,hoL,I.free⟩ hs,by simpa using I.len⟩ ⟨_,hs,.inl rfl⟩
  .exact(hs.2 b (O1 (N9 (N4 e) I.ok.above))).trans (I.base.keep b o e n hb hx)
  .obtain⟨sl,e1⟩:=I.base.slot b o e n hb hx;exact⟨sl,(hs.2 b (O1 (N9 (N4 e) I.ok.above))).trans e1⟩
  .obtain⟨o',e1⟩:=I.base.there b o e hx;exact⟨o',(hs.2 b (O1 (N9 (N4 e) I.ok.above))).trans e1⟩
  .by_cases hj:j=i
   .subst hj;rw[hi]at e1;cases e1;rw[P5 hiσ]at e2;cases e2;exact⟨u,r,.inl ⟨hk,by simp⟩⟩
   .rw[P0 (Ne.symm hj)]at e2;obtain⟨u',r',q⟩:=hl j y v' e1 e2 e3;refine⟨u',r',?_⟩;rcases q with⟨k,e⟩|⟨k,c,e,z⟩
    .refine .inl ⟨k,?_⟩;have:y≠x:=λe=>hj (gx hN e1 (e▸hi));simp[this,e]
    .exact .inr ⟨k,c,e,z.sameBut hs (cne y c e)⟩
  .obtain⟨w',z⟩:=I.cell y c e;exact⟨w',z.sameBut hs (cne y c e)⟩
  .obtain⟨e,n,ne,nf,d⟩:=I.pin p hp;exact⟨(hs.2 p.1 ne).trans e,n,ne,nf,d⟩
 .have hfn:X.fn x=true:=by
   rcases hf with z|z
   .exact z
   .rw[z]at hk;cases hk
  obtain⟨c,hc⟩:=I.ok.has x (.inl hk);obtain⟨w',z⟩:=I.cell x c hc;refine wpAny_storeName_cell I.ok.kind hk hc z (λh' hc' hs=>?_);obtain⟨oc,hoc,hocd⟩:=id z;refine h { s with heap:=h' } ⟨I.ok,I.os,I.bare,⟨λb o e n hb hx=>?_,λb o e n hb hx=>?_,I.base.free,λb o e hx=>?_,I.base.mI,I.base.nB,I.base.sQ⟩,⟨m,hn.sameBut hs (Ne.symm (cne x c hc)),λj y v' e1 e2 e3=>?_⟩,λy c' e=>?_,I.free,I.QY,λp hp=>?_,tracked ⟨oc,hoc,I.QY x c hc⟩ hs,by simpa using I.len⟩ ⟨c,hs,.inr hc⟩
  .exact(hs.2 b (O1 (N9 (N4 e) (I.ok.cab x c hfn hc)))).trans (I.base.keep b o e n hb hx)
  .obtain⟨sl,e1⟩:=I.base.slot b o e n hb hx;exact⟨sl,(hs.2 b (O1 (N9 (N4 e) (I.ok.cab x c hfn hc)))).trans e1⟩
  .obtain⟨o',e1⟩:=I.base.there b o e hx;exact⟨o',(hs.2 b (O1 (N9 (N4 e) (I.ok.cab x c hfn hc)))).trans e1⟩
  .by_cases hj:j=i
   .subst hj;rw[hi]at e1;cases e1;rw[P5 hiσ]at e2;cases e2;exact⟨u,r,.inr ⟨.inl hk,c,hc,hc'⟩⟩
   .rw[P0 (Ne.symm hj)]at e2;obtain⟨u',r',q⟩:=hl j y v' e1 e2 e3;refine⟨u',r',?_⟩;rcases q with q|⟨k,c',e,z'⟩
    .exact .inl q
    .refine .inr ⟨k,c',e,z'.sameBut hs ?_⟩
     rintro rfl
     exact hj (gx hN e1 (I.ok.inj _ _ _ e hc▸hi))
  .by_cases hcc:c'=c
   .subst hcc;exact⟨_,hc'⟩
   .obtain⟨w2,z2⟩:=I.cell y c' e;exact⟨w2,z2.sameBut hs hcc⟩
  .obtain⟨e,n,ne,nf,d⟩:=I.pin p hp;refine⟨(hs.2 p.1 ?_).trans e,n,ne,nf,d⟩;intro q;rw[q,hoc]at e;have q':oc=p.2:=T1 e;exact d w' (by rw[<- q'];exact hocd)
def UY(I:Inv X pins σ H s)(hN:X.N.Nodup)(hi:X.N[i]?=some x)(hx:Loc X.env.scope x)(r:RelV v u)
  (h:∀s',Inv X pins (σ.set i (some v)) H s'->Q () s') (hf:X.fn x=true\/X.env.scope.names.lookup x=some .local:=by first|exact .inl rfl|exact .inr rfl|assumption):wpAny M A (storeName X.env x u) Q E s:=
 bO I hN hi hx r (λs' I' _=>h s' I') hf
def Inv.Ea(I:Inv X pins σ H s)(ho:s'.os=s.os)(u:Un (frs X.stack) ch H H' s.heap s'.heap)(hok:HOk X.prog X.w H' s'.heap)(hg:AllBare s'.gens)
  (hch:∀b∈ch,(b∈X.ex\/X.s₀.heap.objs.size<=b)/\b≠X.env.locals/\(∀x c,X.env.cells.lookup x=some c->c≠b)/\∀p∈X.pn++pins,p.1≠b):Inv X pins σ H' s':=by
 obtain⟨h',g',d',t',o'⟩:=s';have e:o'=s.os:=ho;subst e;exact I.call (g':=g') (t':=t') (d':=d') u hok hg hch
end
abbrev XK:=Value->Option Addr->Hp->Prop
abbrev St:=List (Option V)
abbrev VK:=V->Hp->Prop
abbrev TE:=St->Hp->VK->Prop
abbrev TT:=St->Hp->(Bool->Hp->Prop)->Prop
abbrev TA:=St->Hp->(List V->Hp->Prop)->Prop
structure Ends where
 nx:St->Hp->Prop
 rt:VK
 bk:St->Hp->Prop:=λ_ _=>False
 ct:St->Hp->Prop:=λ_ _=>False
abbrev TS:=Ends->St->Hp->Prop
def EP(X:Cx)(pins:My)(σ:St)(Q:VK)(u:Value)(s':MH):Prop:=∃v H',Inv X pins σ H' s'/\RelV v u/\Q v H'
def TP(X:Cx)(pins:My)(σ:St)(Q:Bool->Hp->Prop)(b:Bool)(s':MH):Prop:=∃H',Inv X pins σ H' s'/\Q b H'
def AP(X:Cx)(pins:My)(σ:St)(Q:List V->Hp->Prop)(us:MJ)(s':MH):Prop:=∃vs H',Inv X pins σ H' s'/\Vals vs us/\Q vs H'
def SP(X:Cx)(pins:My)(D:Ends)(f:Flow)(s':MH):Prop:=
 match f with
 |.next=>∃σ' H',Inv X pins σ' H' s'/\D.nx σ' H'
 |.brk=>∃σ' H',Inv X pins σ' H' s'/\D.bk σ' H'
 |.cont=>∃σ' H',Inv X pins σ' H' s'/\D.ct σ' H'
 |.ret u=>∃v σ' H',Inv X pins σ' H' s'/\RelV v u/\D.rt v H'
def PE(X:Cx)(e:MR)(t:TE):Prop:=
 ∀(pins:My)(s:MH)(σ:St)(H:Hp)(Q:VK),Inv X pins σ H s->t σ H Q->wpAny (NO X) X.A (eval e X.env) (EP X pins σ Q) X.xe s
def PT(X:Cx)(e:MR)(t:TT):Prop:=
 ∀(pins:My)(s:MH)(σ:St)(H:Hp)(Q:Bool->Hp->Prop),Inv X pins σ H s->t σ H Q->wpAny (NO X) X.A (isTrue e X.env (eval e X.env)) (TP X pins σ Q) X.xe s
def PW(X:Cx)(e:MR)(t:TT):Prop:=
 ∀(whole:Sem Value)(pins:My)(s:MH)(σ:St)(H:Hp)(Q:Bool->Hp->Prop),Inv X pins σ H s->t σ H Q->wpAny (NO X) X.A (isTrue e X.env whole) (TP X pins σ Q) X.xe s
def PW.pt(h:PW X e t):PT X e t:=h _
def PA(X:Cx)(es:MK)(t:TA):Prop:=
 ∀(pos:Pos)(pins:My)(s:MH)(σ:St)(H:Hp)(Q:List V->Hp->Prop),Inv X pins σ H s->t σ H Q->wpAny (NO X) X.A (spliced (backTo pos (starEach es X.env))) (AP X pins σ Q) X.xe s
def PS(X:Cx)(st:Nq)(t:TS):Prop:=
 ∀(pins:My)(s:MH)(σ:St)(H:Hp)(D:Ends),Inv X pins σ H s->t D σ H->wpAny (NO X) X.A (exec st X.env) (SP X pins D) X.xe s
def PSs(X:Cx)(st:Nk)(t:TS):Prop:=
 ∀(pins:My)(s:MH)(σ:St)(H:Hp)(D:Ends),Inv X pins σ H s->t D σ H->wpAny (NO X) X.A (execs st X.env) (SP X pins D) X.xe s
def thn{α:Type}{t:Sem α}{Q Q':α->Shared->Prop}(h:wpAny M A t Q E s)(hQ:∀a s,Q a s->Q' a s):wpAny M A t Q' E s:=T2 h hQ λ_ _ x=>x
section
variable {X:Cx}
def eC(i:Nat):TE:=λσ H Q=>∃v,σ[i]?=some (some v)/\Q v H
def tC(v:V):TE:=λ_ H Q=>Q v H
def Eb(hN:X.N[i]?=some x)(hv:Vis X.env.scope x)(hd:(x==("__debug__":Str))=false:=by decide)(hcd:(x==("__classdict__":Str))=false:=by decide):PE X (.Name x pos) (eC i):=by
 intro pins s σ H Q I h;obtain⟨v,e,h⟩:=h;obtain⟨m,hn,hl⟩:=I.loc;obtain⟨u,r,l⟩:=hl i x v hN e hv;have fin:EP X pins σ Q u s:=⟨v,H,I,r,h⟩;rcases l with⟨hk,hm⟩|⟨hk,c,hc,hcell⟩
 .exact wpAny_Name (wpAny_loadName_local I.ok.kind hk hn hm fin) hd
 .rcases hk with hk|hk
  .exact wpAny_Name (wpAny_loadName_cell I.ok.kind hk hc hcell fin) hd
  .exact wpAny_Name (wpAny_loadName_free I.ok.kind hk hc hcell fin hcd) hd
def Ec{i j pos}:PE X (.Constant (.int i) j pos) (tC (.int i)):=λ_ _ _ H _ I h=>wpAny_Constant_int ⟨.int i,H,I.tok _,⟨_,rfl⟩,h⟩
def J9{b j pos}:PE X (.Constant (.bool b) j pos) (tC (.bl b)):=λ_ _ _ H _ I h=>Constant_bool ⟨.bl b,H,I,rfl,h⟩
def Uk{j pos}:PE X (.Constant .none j pos) (tC .non):=λ_ _ _ H _ I h=>Constant_none ⟨.non,H,I,rfl,h⟩
def gz{x j pos}:PE X (.Constant (.str x) j pos) (tC (.str x)):=λ_ _ _ H _ I h=>Calls.Constant_str ⟨.str x,H,I.tok _,⟨_,rfl⟩,h⟩
def Gl(X:Cx)(x:Str):Prop:=X.env.kindOf x=some .globalImplicit
def J_(I:Inv X pins σ H s)(hg:Gl X x)(hm:X.mg x=some u)(h:Q u s)
  (hd:(x==("__debug__":Str))=false:=by decide):wpAny (NO X) X.A (eval (.Name x pos) X.env) Q E s:=
 a1P I.ok.kind hg (Calls.loadGlobal_global (by rw[I.ok.glob];exact I.mod.glob.keeps I.bk) hm h) hd
def Kz(I:Inv X pins σ H s)(hg:Gl X x)(hm:X.mg x=none)(hv:bootBuiltins x=some u)(h:Q u s)
  (hn:x≠"__name__":=by decide) (hd:(x==("__debug__":Str))=false:=by decide):wpAny (NO X) X.A (eval (.Name x pos) X.env) Q E s:=by
 obtain⟨mb,h1,h2⟩:=I.mod.blt;exact a1P I.ok.kind hg (Calls.loadGlobal_builtin (by rw[I.ok.glob];exact I.mod.glob.keeps I.bk) hm (by rw[I.ok.blt];exact h1.keeps I.bk) ((h2 x hn).trans hv) h) hd
def zL(hg:Gl X x)(hm:X.mg x=some u)(r:RelV v u)(hd:(x==("__debug__":Str))=false:=by decide):PE X (.Name x pos) (tC v):=
 λ_ _ _ H _ I h=>J_ I hg hm ⟨v,H,I,r,h⟩ hd
def UZ(hg:Gl X x)(hm:X.mg x=none)(hv:bootBuiltins x=some u)(r:RelV v u)(hn:x≠"__name__":=by decide)(hd:(x==("__debug__":Str))=false:=by decide):PE X (.Name x pos) (tC v):=
 λ_ _ _ H _ I h=>Kz I hg hm hv ⟨v,H,I,r,h⟩ hn hd
variable {a b:MR}{ta tb:TE}{pos:Pos}
def U0(b:MR)(h:op≠.In)(h2:op≠.NotIn):behindInMarks op b=false:=by
 have e1:(op==CmpOp.In)=false:=by cases op<;>first|rfl|exact absurd rfl h
 have e2:(op==CmpOp.NotIn)=false:=by cases op<;>first|rfl|exact absurd rfl h2
 cases b<;>simp[behindInMarks,e1,e2]
def tB(t:TE):TT:=λσ H Q=>t σ H λx H1=>∃c,x=.bl c/\Q c H1
def Ed(h:PE X e t)(he:∀whole,isTrue e X.env whole=(do let v<-whole;standAt e.pos;holding [v] (truthy v)):=by intro _;rfl):PT X e (tB t):=by intro pins s σ H Q I hw;refine isTrue_plain (thn (h pins s σ H _ I hw) λv s1 ⟨x,H1,I1,r1,q1⟩=>?_) (he _);obtain⟨d,rfl,q⟩:=q1;cases r1;exact a1X ⟨H1,I1,q⟩
variable {tA tB':TT}{rest:MK}
def LM(t u:TT):TT:=λσ H Q=>t σ H λc H1=>if c=true then u σ H1 Q else Q false H1
def tOr(t u:TT):TT:=λσ H Q=>t σ H λc H1=>if c=true then Q true H1 else u σ H1 Q
def LN(t:TT):TT:=λσ H Q=>t σ H λc H1=>Q (!c) H1
def pw_and1(ha:PT X a tA):PW X (.BoolOp .And [a] pos) tA:=by
 intro wh pins s σ H Q I h;refine isTrue_and (thn (ha pins s σ H Q I h) λc s1 e=>?_);cases c with
 |true=>exact isTrue_and_nil e
 |false=>exact e
def pw_or1(ha:PT X a tA):PW X (.BoolOp .Or [a] pos) tA:=by
 intro wh pins s σ H Q I h;refine isTrue_or (thn (ha pins s σ H Q I h) λc s1 e=>?_);cases c with
 |false=>exact isTrue_or_nil e
 |true=>exact e
def pw_and(ha:PT X a tA)(hb:PW X (.BoolOp .And (b::rest) pos) tB'):PW X (.BoolOp .And (a::b::rest) pos) (LM tA tB'):=by
 intro wh pins s σ H Q I h;refine isTrue_and (thn (ha pins s σ H _ I h) λc s1 ⟨H1,I1,q1⟩=>?_);cases c with
 |true=>exact hb wh pins s1 σ H1 Q I1 q1
 |false=>exact⟨H1,I1,q1⟩
def pw_or(ha:PT X a tA)(hb:PW X (.BoolOp .Or (b::rest) pos) tB'):PW X (.BoolOp .Or (a::b::rest) pos) (tOr tA tB'):=by
 intro wh pins s σ H Q I h;refine isTrue_or (thn (ha pins s σ H _ I h) λc s1 ⟨H1,I1,q1⟩=>?_);cases c with
 |true=>exact⟨H1,I1,q1⟩
 |false=>exact hb wh pins s1 σ H1 Q I1 q1
def Ee(ha:PT X a tA):PT X (.UnaryOp .Not a pos) (LN tA):=by intro pins s σ H Q I h;exact isTrue_not (ha pins s σ H (λc H1=>Q (!c) H1) I h)
def Hl(ta tb:TE):TE:=λσ H Q=>ta σ H λx H1=>∃c,x=.bl c/\if c=true then tb σ H1 Q else Q (.bl false) H1
def Ao{op}(h:PE X a t):PE X (.BoolOp op [a] pos) t:=λpins s σ H Q I hw=>BoolOp_one (h pins s σ H Q I hw)
def Ap(ha:PE X a ta)(hb:PE X (.BoolOp .And (b::rest) pos) tb):PE X (.BoolOp .And (a::b::rest) pos) (Hl ta tb):=by
 intro pins s σ H Q I h;refine BoolOp_and (thn (ha pins s σ H _ I h) λv s1 ⟨x,H1,I1,r1,q1⟩=>?_);obtain⟨c,rfl,q1⟩:=q1;cases r1;refine a1X ?_;cases c with
 |true=>exact hb pins s1 σ H1 Q I1 q1
 |false=>exact⟨.bl false,H1,I1,rfl,q1⟩
end
def SqL(K:MQ)(H:Hp)(a:Addr)(xs:ML):Prop:=
 Rd H a (.lst xs)\/
  ∃(o:Obj)(its:Nn)(n:Nat),K.lookup a=some o/\o.cls=.type "list"/\o.dict=none/\o.data=.seq its n/\its.size<=sizeLine/\Vals xs its.toList
def SqT(K:MQ)(H:Hp)(a:Addr)(xs:ML):Prop:=
 Rd H a (.tup xs)\/
  ∃(o:Obj)(its:Nn)(n:Nat),K.lookup a=some o/\o.cls=.type "tuple"/\o.data=.seq its n/\its.size<=sizeLine/\Vals xs its.toList
def LP:Value->Option V
 |.none=>some .non
 |.bool b=>some (.bl b)
 |.int i _=>some (.int i)
 |.str x _=>some (.str x)
 |.bytes b _=>some (.byt b)
 |.float b _=>some (.flt b)
 |.ref a=>some (.ref a)
 |.type n=>some (.ty n)
 |_=>none
def RelV.abs(r:RelV x u):LP u=some x:=by
 cases x with
 |non=>cases r;rfl
 |bl _=>cases r;rfl
 |int _=>obtain⟨t,rfl⟩:=r;rfl
 |str _=>obtain⟨t,rfl⟩:=r;rfl
 |byt _=>obtain⟨t,rfl⟩:=r;rfl
 |flt _=>obtain⟨t,rfl⟩:=r;rfl
 |ref _=>cases r;rfl
 |ty _=>cases r;rfl
def RelV.inj(r:RelV x u)(q:RelV y u):x=y:=T1 (r.abs.symm.trans q.abs)
def Vals.inj:∀{xs ys:ML}{us:MJ},Vals xs us->Vals ys us->xs=ys
 |_,_,_,.nil,.nil=>rfl
 |_,_,_,.cons r t,.cons r' t'=>by rw[r.inj r',Vals.inj t t']
def SqL.of{K:MQ}(h:H a=some (.lst xs)):SqL K H a xs:=.inl (.inl h)
def SqT.of{K:MQ}(h:H a=some (.tup xs)):SqT K H a xs:=.inl (.inl h)
def Inv.list(I:Inv X pins σ H s)(h:SqL X.K H a xs):∃its:List Value,Vals xs its/\PlainL s.heap a its.toArray/\xs.length<=sizeLine:=by
 rcases h with h|⟨o,its,n,hk,hc,hd,hs,hz,r⟩
 .obtain⟨z,its,n,r,e⟩:=h.ok I.hok;exact⟨its,r,⟨_,n,e,rfl,rfl,rfl⟩,z⟩
 .refine⟨its.toList,r,⟨o,n,I.kIn a o hk,hc,hd,by simpa using hs⟩,?_⟩;have e:=r.length;simp only[Array.length_toList]at e;omega
def Inv.tuple(I:Inv X pins σ H s)(h:SqT X.K H a xs):∃its:List Value,Vals xs its/\IsTup s.heap a its.toArray/\xs.length<=sizeLine:=by
 rcases h with h|⟨o,its,n,hk,hc,hs,hz,r⟩
 .obtain⟨z,its,r,p⟩:=h.ok I.hok;exact⟨its,r,p,z⟩
 .refine⟨its.toList,r,⟨o,I.kIn a o hk,hc,n,by simpa using hs⟩,?_⟩;have e:=r.length;simp only[Array.length_toList]at e;omega
def Inv.tW(I:Inv X pins σ H s)(h:SqL X.K H a xs)(h':SqL X.K H a ys):xs=ys:=by
 obtain⟨its,r,⟨o,n,e,_,_,d⟩,_⟩:=I.list h;obtain⟨its',r',⟨o',n',e',_,_,d'⟩,_⟩:=I.list h';rw[e]at e';cases e';rw[d]at d';injection d' with d1 _
 have:its=its':=by simpa using T6 Array.toList d1
 subst this;exact r.inj r'
def Inv.bP(I:Inv X pins σ H s)(h:SqT X.K H a xs)(h':SqT X.K H a ys):xs=ys:=by
 obtain⟨its,r,⟨o,e,_,n,d⟩,_⟩:=I.tuple h;obtain⟨its',r',⟨o',e',_,n',d'⟩,_⟩:=I.tuple h';rw[e]at e';cases e';rw[d]at d';injection d' with d1 _
 have:its=its':=by simpa using T6 Array.toList d1
 subst this;exact r.inj r'
abbrev Cx.VX(X:Cx)(E:MC):Cx:={ X with xe:=E }
abbrev Cx.nox(X:Cx):Cx:=X.VX λ_ _=>False
def Cx.Ok.VX{X:Cx}(ok:X.Ok)(E:MC):(X.VX E).Ok:=
 ⟨ok.mod,ok.kind,ok.glob,ok.blt,ok.above,ok.inj,ok.has,ok.cab,ok.hd,ok.frames,ok.stk,ok.exf,ok.bs,ok.bsz,ok.D5,ok.D6,ok.eB,ok.frf⟩
def Cx.Ok.j7{X:Cx}{E:MC}(ok:(X.VX E).Ok):X.Ok:=
 ⟨ok.mod,ok.kind,ok.glob,ok.blt,ok.above,ok.inj,ok.has,ok.cab,ok.hd,ok.frames,ok.stk,ok.exf,ok.bs,ok.bsz,ok.D5,ok.D6,ok.eB,ok.frf⟩
def Inv.VX(I:Inv X pins σ H s)(E:MC):Inv (X.VX E) pins σ H s:=⟨I.ok.VX E,I.os,I.bare,I.base,I.loc,I.cell,I.free,I.QY,I.pin,I.hok,I.len⟩
def Inv.j7(I:Inv (X.VX E) pins σ H s):Inv X pins σ H s:=⟨I.ok.j7,I.os,I.bare,I.base,I.loc,I.cell,I.free,I.QY,I.pin,I.hok,I.len⟩
def SP.j7(h:SP (X.VX E) pins D f s'):SP X pins D f s':=by
 cases f with
 |next=>obtain⟨σ',H',I,q⟩:=h;exact⟨σ',H',I.j7,q⟩
 |brk=>obtain⟨σ',H',I,q⟩:=h;exact⟨σ',H',I.j7,q⟩
 |cont=>obtain⟨σ',H',I,q⟩:=h;exact⟨σ',H',I.j7,q⟩
 |ret u=>obtain⟨v,σ',H',I,r,q⟩:=h;exact⟨v,σ',H',I.j7,r,q⟩
section
variable {X:Cx}{st:Nq}{rest:Nk}{t u:TS}{e:MR}{te:TE}{pos:Pos}
def Hm:TS:=λD σ H=>D.nx σ H
def Hn(t u:TS):TS:=λD σ H=>t { D with nx:=u D } σ H
def nG:PSs X [] Hm:=λ_ _ σ H _ I h=>a00 ⟨σ,H,I,h⟩
def U1(h1:PS X st t)(h2:PSs X rest u):PSs X (st::rest) (Hn t u):=by
 intro pins s σ H D I h;refine a14 (thn (h1 pins s σ H { D with nx:=u D } I h) λf s1 q=>?_);cases f with
 |next=>obtain⟨σ',H',I',q⟩:=q;exact h2 pins s1 σ' H' D I' q
 |ret v=>exact q
 |brk=>exact q
 |cont=>exact q
def kA(h1:PS X st t):PSs X [st] t:=by
 intro pins s σ H D I h;refine a14 (thn (h1 pins s σ H D I h) λf s1 q=>?_);cases f with
 |next=>exact a00 q
 |ret v=>exact q
 |brk=>exact q
 |cont=>exact q
def Inv.quiet(I:Inv X pins σ H s):interactive X.env=false:=by simp[interactive,I.ok.kind]
def Ho(te:TE):TS:=λD σ H=>te σ H λ_ H1=>D.nx σ H1
def VY(he:PE X e te)(hs:swapsWith e none pos.line X.env=pure false:=by rfl):PS X (.Expr e pos) (Ho te):=by intro pins s σ H D I h;exact wpAny_Expr_any (thn (he pins s σ H _ I h) λv s1 ⟨x,H1,I1,r1,q1⟩=>⟨σ,H1,I1,q1⟩) I.quiet hs
def LQ(te:TE):TS:=λD σ H=>te σ H D.rt
def gB(he:PE X e te):PS X (.Return (some e) pos) (LQ te):=by intro pins s σ H D I h;exact wpAny_Return_some (thn (he pins s σ H _ I h) λv s1 ⟨x,H1,I1,r1,q1⟩=>⟨x,σ,H1,I1,r1,q1⟩)
def LU(c:TT)(t u:TS):TS:=λD σ H=>c σ H λb H1=>if b=true then t D σ H1 else u D σ H1
def Eg(hc:PT X c tc)(ha:PSs X a t)(hb:PSs X b u):PS X (.If c a b pos) (LU tc t u):=by
 intro pins s σ H D I h;refine wpAny_If (thn (hc pins s σ H _ I h) λd s1 ⟨H1,I1,q1⟩=>?_);cases d with
 |true=>exact ha pins s1 σ H1 D I1 q1
 |false=>exact hb pins s1 σ H1 D I1 q1
end
abbrev TG:=V->St->Hp->(St->Hp->Prop)->Prop
abbrev TGs:=List V->St->Hp->(St->Hp->Prop)->Prop
def PG(X:Cx)(target:MR)(t:TG):Prop:=
 ∀(pins:My)(s:MH)(σ:St)(H:Hp)(v:V)(u:Value)(Q:St->Hp->Prop),Inv X pins σ H s->RelV v u->t v σ H Q->
  wpAny (NO X) X.A (assign target X.env u) (λ_ s'=>∃σ' H',Inv X pins σ' H' s'/\Q σ' H') X.xe s
def PGs(X:Cx)(ts:MK)(t:TGs):Prop:=
 ∀(pins:My)(s:MH)(σ:St)(H:Hp)(vs:ML)(us:MJ)(Q:St->Hp->Prop),Inv X pins σ H s->Vals vs us->t vs σ H Q->
  wpAny (NO X) X.A (assignInOrder ((assignEach ts X.env).map (·.2)) us) (λ_ s'=>∃σ' H',Inv X pins σ' H' s'/\Q σ' H') X.xe s
abbrev I0:=V->V->V->Hp->(Hp->Prop)->Prop
def I_(X:Cx)(t:I0):Prop:=
 ∀(pins:My)(s:MH)(σ:St)(H:Hp)(o i v:V)(ov iv u:Value)(Q:Hp->Prop),Inv X pins σ H s->RelV o ov->RelV i iv->RelV v u->t o i v H Q->
  wpAny (NO X) X.A (setItem ov iv u) (λ_ s'=>∃H',Inv X pins σ H' s'/\Q H') X.xe s
section
variable {X:Cx}{pos:Pos}
def eD(i:Nat):TG:=λv σ H Q=>Q (σ.set i (some v)) H
def nH(hN:X.N.Nodup)(hi:X.N[i]?=some x)(hx:Loc X.env.scope x)(hf:X.fn x=true\/X.env.scope.names.lookup x=some .local:=by first|exact .inl rfl|exact .inr rfl|assumption):PG X (.Name x pos) (eD i):=by intro pins s σ H v u Q I r h;exact wpAny_assign_Name (UY I hN hi hx r (λs' I'=>⟨_,H,I',h⟩) hf)
def LV:TGs:=λvs σ H Q=>vs=[]/\Q σ H
def Hq(t:TG)(u:TGs):TGs:=λvs σ H Q=>∃v r,vs=v::r/\t v σ H λσ' H'=>u r σ' H' Q
def BK:PGs X [] LV:=by intro pins s σ H vs us Q I r h;obtain⟨e,h⟩:=h;subst e;cases r;exact assignInOrder_nil ⟨σ,H,I,h⟩
def tX(h1:PG X e t)(h2:PGs X es u)
  (hs:(assignEach (e::es) X.env).map (·.2)=assign e X.env::(assignEach es X.env).map (·.2):=by rfl):PGs X (e::es) (Hq t u):=by
 intro pins s σ H vs us Q I r h;obtain⟨v,vr,e1,h⟩:=h;subst e1;cases r with
 |cons r rr=>rw[hs];refine assignInOrder_cons (thn (h1 pins s σ H _ _ _ I r h) λ_ s1 ⟨σ1,H1,I1,q1⟩=>?_);exact h2 pins s1 σ1 H1 _ _ Q I1 rr q1
def LW(K:MQ)(n:Nat)(t:TGs):TG:=λv σ H Q=>∃a xs,v=.ref a/\SqT K H a xs/\xs.length=n/\t xs σ H Q
def Eh(hc:X.calm=true)(h:PGs X es t)
  (hn:(assignEach es X.env).length=n:=by rfl) (hst:(assignEach es X.env).findIdx? (·.1)=none:=by rfl):PG X (.Tuple es k pos) (LW X.K n t):=by
 intro pins s σ H v u Q I r hw;obtain⟨a,xs,e1,hq,hl,hw⟩:=hw;subst e1;cases r;obtain⟨its,rv,ht,hz⟩:=I.tuple hq;refine assign_Tuple_tuple (I.ok.hd hc) ht (by simp[hn,<- hl,rv.length]) hst λh' hx=>?_;have I1:Inv X pins σ H { s with heap:=h' }:=I.kept (t':=s.toks) λb o e=>hx b o (O1 (N4 e)) e;exact h pins _ σ H xs _ Q I1 (by simpa using rv) hw
def LX(to ti:TE)(t:I0):TG:=λv σ H Q=>to σ H λo H1=>ti σ H1 λi H2=>t o i v H2 λH3=>Q σ H3
def Ei(ho:PE X o to)(hi:PE X i ti)(hs:I_ X t)
  (ha:∀v,assign (.Subscript o i pos) X.env v=(do
   let ov<-holding [v] (eval o X.env)
   let iv<-holding [v,ov] (eval i X.env)
   standAt pos
   holding [v,ov,iv] (setItem ov iv v)
   release [v,ov,iv] []):=by intro _;rfl):PG X (.Subscript o i pos) (LX to ti t):=by
 intro pins s σ H v u Q I r h;rw[ha];refine f8 (T8 (thn (ho pins s σ H _ I h) λov s1 ⟨x,H1,I1,r1,q1⟩=>?_));refine f8 (T8 (thn (hi pins s1 σ H1 _ I1 q1) λiv s2 ⟨y,H2,I2,r2,q2⟩=>?_));refine f8 (a0Y (f8 (T8 (thn (hs pins s2 σ H2 x y v ov iv u _ I2 r1 r2 r q2) λ_ s3 ⟨H3,I3,q3⟩=>?_))));exact wpAny_release ⟨σ,H3,I3,q3⟩
def DS(te:TE)(g:TG):TS:=λD σ H=>te σ H λx H1=>g x σ H1 D.nx
def Ej(he:PE X e te)(hg:PG X tg g)(hs:swapsWithSole [tg] e pos.line X.env=pure false:=by rfl)(hw:swappedStores [tg] e X.env=pure none:=by rfl)
  (h1:(assignEach [tg] X.env).map (·.2)=[assign tg X.env]:=by rfl):PS X (.Assign [tg] e pos) (DS te g):=by
 intro pins s σ H D I h;refine wpAny_Assign_stores (thn (he pins s σ H _ I h) λv s1 ⟨x,H1,I1,r1,q1⟩=>?_) hs hw;rw[h1];exact thn (hg pins s1 σ H1 x v _ I1 r1 q1) λ_ s2 q=>q
def nI(hN:X.N.Nodup)(hi:X.N[i]?=some x)(hx:Loc X.env.scope x)(he:PE X e te)(hs:swapsWith e (some (.Name x pos')) pos.line X.env=pure false:=by rfl)(hf:X.fn x=true\/X.env.scope.names.lookup x=some .local:=by first|exact .inl rfl|exact .inr rfl|assumption):
  PS X (.Assign [.Name x pos'] e pos) (DS te (eD i)):=by
 intro pins s σ H D I h;refine wpAny_Assign_Name (thn (he pins s σ H _ I h) λv s1 ⟨y,H1,I1,r1,q1⟩=>?_) hs;exact UY I1 hN hi hx r1 (λs2 I2=>⟨_,H1,I2,q1⟩) hf
end
section
variable {X:Cx}{pos:Pos}
def Aq(c:TT)(tb:TS):TS:=λD σ H=>∃W:Nat->St->Hp->Prop,(∃m,W m σ H)/\∀m σ H,W m σ H->
 c σ H λb H1=>if b=true then ∃N:St->Hp->Prop,(∀σ' H',N σ' H'->∃m',m'<m/\W m' σ' H')/\tb { D with nx:=N,ct:=N,bk:=D.nx } σ H1 else D.nx σ H1
def tY(hp:PassesOwn (NO X) X.A X.env X.xe)(hc:PT X c tc)(hb:PSs X body tb):PS X (.While c body [] pos) (Aq tc tb):=by
 intro pins s σ H D I h;obtain⟨W,⟨m0,w0⟩,turn⟩:=h;refine wpAny_While (codeAny_whileLoop (λn s'=>∃σ' H',Inv X pins σ' H' s'/\W n σ' H') ?_ m0 ⟨σ,H,I,w0⟩)
 rintro n s1 ⟨σ1,H1,I1,w1⟩
 refine a0M hp (thn (hc pins s1 σ1 H1 _ I1 (turn n σ1 H1 w1)) λb s2 ⟨H2,I2,q2⟩=>?_);cases b with
 |true=>
  obtain⟨N,hN,q2⟩:=q2;rw[if_pos rfl];refine a0M hp (thn (hb pins s2 σ1 H2 _ I2 q2) λf s3 q3=>?_);cases f with
  |next=>obtain⟨σ3,H3,I3,n3⟩:=q3;obtain⟨m',hm,w3⟩:=hN σ3 H3 n3;exact⟨m',hm,σ3,H3,I3,w3⟩
  |cont=>obtain⟨σ3,H3,I3,n3⟩:=q3;obtain⟨m',hm,w3⟩:=hN σ3 H3 n3;exact⟨m',hm,σ3,H3,I3,w3⟩
  |brk=>exact q3
  |ret v=>exact q3
 |false=>rw[if_neg O2];exact a00 ⟨σ1,H2,I2,q2⟩
end
structure It where
 go:Nat->Hp->Prop
 yld:Nat->Hp->V->Hp->Prop
 stop:Nat->Hp->Prop
def tL(X:Cx)(pins:My)(H:Hp)(b:Addr):Prop:=
 H b=none/\b≠X.env.locals/\b∉X.fs/\(b∈X.ex\/X.s₀.heap.objs.size<=b)/\(∀x c,X.env.cells.lookup x=some c->c≠b)/\∀p∈X.pn++pins,p.1≠b
def Inv.DT(I:Inv X pins σ H s)(hb:s.heap.objs.size<=b)(hn:H' b=none):tL X pins H' b:=by
 refine⟨hn,a0l (N9 I.lt hb),I.IZ hb,.inr (P7 I.sz hb),λx c e z=>?_,λp hp z=>?_⟩
 .obtain⟨v,q⟩:=I.cell x c e;exact absurd (N9 q.lt (by rw[z];exact hb)) (a0k _)
 .exact absurd (N9 (N4 (I.pin p hp).1) (by rw[z];exact hb)) (a0k _)
structure Turn(P:MV)(w:M_)(K:MQ)(tg:MR)(J:It)(fp:Nf)(it:Addr)(tn:Nat->Heap->Prop):Prop where
 mem:it∈fp
 obj:∀i h,tn i h->∀b∈fp,∃o,h.get? b=some o/\∀v,o.data≠.cell v
 keep:∀i h h',tn i h->(∀b∈fp,∀o,h.get? b=some o->h'.get? b=some o)->tn i h'
 item:∀(X:Cx),X.prog=P->X.w=w->X.K=K->X.calm=true->∀(i:Nat)(pins:My)(s:MH)(σ:St)(H:Hp)(E:MC),Inv X pins σ H s->(∀b∈fp,tL X pins H b)->tn i s.heap->J.go i H->
  wpAny (model P w) X.A (pyNext (.ref it)) (λr s1=>∃u,r=some u/\
   wpAny (model P w) X.A (letOwnedTupleGo tg (.ref it) u) (λ_ s2=>∃x H',Inv X pins σ H' s2/\RelV x u/\J.yld i H x H'/\tn (i+1) s2.heap/\∀b∈fp,H' b=none) E s1) E s
 done:∀(X:Cx),X.prog=P->X.w=w->X.K=K->X.calm=true->∀(i:Nat)(pins:My)(s:MH)(σ:St)(H:Hp)(E:MC),Inv X pins σ H s->(∀b∈fp,tL X pins H b)->tn i s.heap->J.stop i H->
  wpAny (model P w) X.A (pyNext (.ref it)) (λr s1=>r=none/\Inv X pins σ H s1) E s
 self:∀(A:Nb)(i:Nat)(s:MH)(Q:MC)(E:MC),tn i s.heap->Q (.ref it) s->wpAny (model P w) A (pyIter (.ref it)) Q E s
abbrev TI:=St->Hp->(It->Hp->Prop)->Prop
def PIE(X:Cx)(pins:My)(σ:St)(tg:MR)(R:It->Hp->Prop)(itv:Value)(s2:MH):Prop:=
 ∃(it:Addr)(fp:Nf)(tn:Nat->Heap->Prop)(J:It)(H':Hp),itv=.ref it/\Inv X pins σ H' s2/\Turn X.prog X.w X.K tg J fp it tn/\tn 0 s2.heap/\(∀b∈fp,tL X pins H' b)/\R J H'
def PI(X:Cx)(tg qP:MR)(wi:TI):Prop:=
 ∀(pins:My)(s:MH)(σ:St)(H:Hp)(R:It->Hp->Prop),Inv X pins σ H s->wi σ H R->
  wpAny (NO X) X.A (eval qP X.env) (λv s1=>wpAny (NO X) X.A (pyIter v) (PIE X pins σ tg R) X.xe s1) X.xe s
def tZ(ho:s.heap.get? it=some o)(hc:o.cls=.type n)(hd:o.data=.fields vs)
    (hn:["enumerate","zip","dict_itemiterator","dict_reverseitemiterator","odict_iterator","itertools.zip_longest","itertools.pairwise"].contains n=false) (hQ:Q () s):wpAny M A (letOwnedTupleGo tg (.ref it) u) Q E s:=by
  unfold letOwnedTupleGo;cases tg<;>first
    |exact M9 hQ
    | (cases u<;>first
        |exact M9 hQ
        | (refine f8 (a2B ho ?_)
           rw[hc,hd];show wpAny M A (if(["enumerate","zip","dict_itemiterator","dict_reverseitemiterator","odict_iterator","itertools.zip_longest","itertools.pairwise"].contains n&&vs[0]?==some (rawInt _))=true then _ else _) Q E s;rw[if_neg (by intro h;rw[hn,Bool.false_and]at h;cases h)];exact M9 hQ))
def Itl(K:MQ)(a:Addr):It:=
 ⟨λi H=>∃xs x,SqL K H a xs/\xs[i]?=some x,λi H x H'=>H'=H/\∀xs,SqL K H a xs->xs[i]?=some x,λi H=>∃xs,SqL K H a xs/\xs.length<=i⟩
def Itt(K:MQ)(a:Addr):It:=
 ⟨λi H=>∃xs x,SqT K H a xs/\xs[i]?=some x,λi H x H'=>H'=H/\∀xs,SqT K H a xs->xs[i]?=some x,λi H=>∃xs,SqT K H a xs/\xs.length<=i⟩
def Itr(lo:Int)(n:Nat):It:=⟨λi _=>i<n,λi H x H'=>H'=H/\x=.int (lo+i),λi _=>n<=i⟩
def nJ{P:MV}{w:M_}{K:MQ}{tg:MR}(a it:Addr):Turn P w K tg (Itl K a) [it] it (λi h=>h.IsListIter it a i)where
 mem:=by simp
 obj:=λi h st b hb=>by
  have e:b=it:=by simpa using hb
  subst e;obtain⟨o,e,c,d⟩:=st;exact⟨o,e,λv z=>by rw[d]at z;cases z⟩
 keep:=λi h h' st k=>st.at λo e=>k it (by simp) o e
 item:=by intro X hP hw hK hc i pins s σ H E I hf st hg;subst hP hw hK;obtain⟨xs,x,hq,hx⟩:=hg;obtain⟨its,rv,p,hz⟩:=I.list hq;obtain⟨u,hu,ru⟩:=rv.get hx;obtain⟨f0,f1,f2,f3,f4,f5⟩:=hf it (by simp);refine wpAny_pyNext_list_item st p.isList (x:=u) (by simpa using hu) λh' st' sb=>?_;have I1:Inv X pins σ H { s with heap:=h' }:=I.turned (t':=s.toks) (λb o hb e=>(sb.2 b hb).trans e) f0 f1 f3 f4 f5;obtain⟨o,e,c,d⟩:=id st';exact⟨u,rfl,tZ (s:={ s with heap:=h' }) e c d (by decide) ⟨x,H,I1,ru,⟨rfl,λys hy=>by rw[I.tW hy hq];exact hx⟩,st',λb hb=>(hf b hb).1⟩⟩
 done:=by intro X hP hw hK hc i pins s σ H E I hf st hg;subst hP hw hK;obtain⟨xs,hq,hx⟩:=hg;obtain⟨its,rv,p,hz⟩:=I.list hq;obtain⟨f0,f1,f2,f3,f4,f5⟩:=hf it (by simp);have hl:=rv.length;exact wpAny_pyNext_list_end (I.ok.hd hc) st p.isList (by simp;omega) λh' eb=>⟨rfl,I.turned (t':=s.toks) (λb o hb e=>eb b o hb e) f0 f1 f3 f4 f5⟩
 self:=λ_ _ _ _ _ st h=>wpAny_pyIter_listiter st h
def lM{P:MV}{w:M_}{K:MQ}{tg:MR}(a it:Addr):Turn P w K tg (Itt K a) [it] it (λi h=>h.IsTupleIter it a i)where
 mem:=by simp
 obj:=λi h st b hb=>by
  have e:b=it:=by simpa using hb
  subst e;obtain⟨o,e,c,d⟩:=st;exact⟨o,e,λv z=>by rw[d]at z;cases z⟩
 keep:=λi h h' st k=>st.at λo e=>k it (by simp) o e
 item:=by intro X hP hw hK hc i pins s σ H E I hf st hg;subst hP hw hK;obtain⟨xs,x,hq,hx⟩:=hg;obtain⟨its,rv,p,hz⟩:=I.tuple hq;obtain⟨u,hu,ru⟩:=rv.get hx;obtain⟨f0,f1,f2,f3,f4,f5⟩:=hf it (by simp);refine wpAny_pyNext_tuple_item st (show s.heap.IsTuple a its.toArray from p) (x:=u) (by simpa using hu) λh' st' sb=>?_;have I1:Inv X pins σ H { s with heap:=h' }:=I.turned (t':=s.toks) (λb o hb e=>(sb.2 b hb).trans e) f0 f1 f3 f4 f5;obtain⟨o,e,c,d⟩:=id st';exact⟨u,rfl,tZ (s:={ s with heap:=h' }) e c d (by decide) ⟨x,H,I1,ru,⟨rfl,λys hy=>by rw[I.bP hy hq];exact hx⟩,st',λb hb=>(hf b hb).1⟩⟩
 done:=by intro X hP hw hK hc i pins s σ H E I hf st hg;subst hP hw hK;obtain⟨xs,hq,hx⟩:=hg;obtain⟨its,rv,p,hz⟩:=I.tuple hq;obtain⟨f0,f1,f2,f3,f4,f5⟩:=hf it (by simp);have hl:=rv.length;exact wpAny_pyNext_tuple_end (I.ok.hd hc) st (show s.heap.IsTuple a its.toArray from p) (by simp;omega) λh' eb=>⟨rfl,I.turned (t':=s.toks) (λb o hb e=>eb b o hb e) f0 f1 f3 f4 f5⟩
 self:=λ_ _ _ _ _ st h=>wpAny_pyIter_tupleiter st h
def lN{P:MV}{w:M_}{K:MQ}{tg:MR}(it:Addr)(lo:Int)(n:Nat):Turn P w K tg (Itr lo n) [it] it (λi h=>IsRangeIter h it (lo+(i:Nat)*1) ((n:Int)-(i:Nat)) 1)where
 mem:=by simp
 obj:=λi h st b hb=>by
  have e:b=it:=by simpa using hb
  subst e;exact⟨_,st,λv z=>by
   have z':Data.fields _=Data.cell v:=z;cases z'⟩
 keep:=λi h h' st k=>k it (by simp) _ st
 item:=by intro X hP hw hK hc i pins s σ H E I hf st hg;subst hP hw hK;obtain⟨f0,f1,f2,f3,f4,f5⟩:=hf it (by simp);have W:=Walks.range (prog:=X.prog) (w:=X.w) (I.ok.hd hc) it lo 1 n;refine W.item i s _ _ hg st λv h' tk hv st' kk=>?_;obtain⟨t,rfl⟩:=hv;have I1:Inv X pins σ H { s with heap:=h',toks:=tk }:=I.turned (λb o hb e=>kk b o (by simpa using hb) e) f0 f1 f3 f4 f5;refine⟨_,rfl,tZ (s:={ s with heap:=h',toks:=tk }) (n:="range_iterator") st' rfl rfl (by decide) ⟨.int (lo+i),H,I1,⟨t,?_⟩,⟨rfl,rfl⟩,st',λb hb=>(hf b hb).1⟩⟩;rw[Int.mul_one]
 done:=by intro X hP hw hK hc i pins s σ H E I hf st hg;subst hP hw hK;obtain⟨f0,f1,f2,f3,f4,f5⟩:=hf it (by simp);exact wpAny_pyNext_range_end (I.ok.hd hc) st (by have:n<=i:=hg;omega) λh' eb=>⟨rfl,I.turned (t':=s.toks) (λb o hb e=>eb b o hb e) f0 f1 f3 f4 f5⟩
 self:=λ_ _ _ _ _ st h=>wpAny_pyIter_rangeiter st h
section
variable {X:Cx}{tg:MR}
def t4{pins:My}{σ:St}{H:Hp}{s:MH}{R:It->Hp->Prop}{E:MC}{lo hi:Int}{t u v:Tok}{tk:Nat}(I:Inv X pins σ H s)(h1:-(2 ^ 62)<=lo)(h2:lo<2 ^ 62)(h3:-(2 ^ 62)<=hi)(h4:hi<2 ^ 62)
  (q:R (Itr lo (hi-lo).toNat) H):wpAny (NO X) X.A (pyIter (.ref s.heap.objs.size)) (PIE X pins σ tg R) E { s with heap:=s.heap.push { cls:=.type "range",data:=.fields #[.int lo t,.int hi u,.int 1 v] },toks:=tk }:=by
 refine wpAny_pyIter_range (IsRange.new ..) (small_one h1 h2 h3 h4) ?_;have I1:Inv X pins σ H { s with heap:=s.heap.push { cls:=.type "range",data:=.fields #[.int lo t,.int hi u,.int 1 v] },toks:=tk }:=I.kept λb o e=>M6 _ e;refine⟨(s.heap.push { cls:=.type "range",data:=.fields #[.int lo t,.int hi u,.int 1 v] }).objs.size,[(s.heap.push { cls:=.type "range",data:=.fields #[.int lo t,.int hi u,.int 1 v] }).objs.size],_,_,H,rfl,
  I1.kept (t':=tk) λb o e=>M6 _ e,lN _ lo (hi-lo).toNat,?_,λb hb=>?_,q⟩
 .have e1:lo+((0:Nat):Int)*1=lo:=by simp
  have e2:(((hi-lo).toNat:Nat):Int)-((0:Nat):Int)=Builtin.Range.rangeSize lo hi 1:=by rw[rangeSize_one];split<;>omega
  show IsRangeIter _ _ (lo+((0:Nat):Int)*1) ((((hi-lo).toNat:Nat):Int)-((0:Nat):Int)) 1;rw[e1,e2];exact O8 _ rfl
 .have e:b=(s.heap.push { cls:=.type "range",data:=.fields #[.int lo t,.int hi u,.int 1 v] }).objs.size:=by simpa using hb
  subst e;exact I1.DT (M7 _) (I1.hok.fresh (M7 _))
def Hr(ta:TA):TI:=λσ H R=>ta σ H λvs H1=>∃j:Int,vs=[.int j]/\-(2 ^ 62)<=j/\j<2 ^ 62/\R (Itr 0 j.toNat) H1
def nK(hg:Gl X "range")(hm:X.mg "range"=none)(ha:PA X [a] ta)(hs:starEach [a] X.env=[(false,eval a X.env)]:=by rfl):PI X tg (.Call (.Name "range" p) [a] [] pos) (Hr ta):=by
 intro pins s σ H R I h;refine Call_ (Kz I hg hm boot_range (a0I (thn (ha pos pins s σ H _ I h) λus s1 ⟨vs,H1,I1,r1,q1⟩=>?_) hs rfl));obtain⟨j,e,q1,q2,q⟩:=q1;subst e;cases r1 with
 |cons r rr=>cases rr;obtain⟨t,rfl⟩:=r;exact call_range_1 (t4 I1 (by omega) (by omega) q1 q2 (by simpa using q))
def Ek(wi:TI)(g:TG)(tb:TS):TS:=λD σ H=>wi σ H λJ H1=>∃W:Nat->Nat->St->Hp->Prop,(∃m,W 0 m σ H1)/\∀i m σ H,W i m σ H->
 (J.stop i H/\D.nx σ H)\/(J.go i H/\∃N:St->Hp->Prop,(∀σ' H',N σ' H'->∃m',m'<m/\W (i+1) m' σ' H')/\∀x H',J.yld i H x H'->g x σ H' λσ2 H2=>tb { D with nx:=N,ct:=N,bk:=D.nx } σ2 H2)
def bQ(fp:Nf)(h:Heap):List (Addr×Obj):=fp.filterMap λb=>(h.get? b).map λo=>(b,o)
def YO(hb:b∈fp)(e:h.get? b=some o):(b,o)∈bQ fp h:=a2R.mpr ⟨b,hb,by rw[e];rfl⟩
def nM(hp:p∈bQ fp h):p.1∈fp/\h.get? p.1=some p.2:=by
 obtain⟨b,hb,e⟩:=a2R.mp hp;cases q:h.get? b with
 |none=>rw[q]at e;cases e
 |some o=>rw[q]at e;have e':(b,o)=p:=T1 e;subst e';exact⟨hb,q⟩
def Inv.pinned(I:Inv X pins σ H s)(hf:∀b∈fp,tL X pins H b)(ho:∀b∈fp,∃o,s.heap.get? b=some o/\∀v,o.data≠.cell v):Inv X (pins++bQ fp s.heap) σ H s:=
 I.VW λp hp=>(R9.mp hp).elim (λz=>I.pin p (O3 _ z)) λz=>by obtain⟨hb,e⟩:=nM z;obtain⟨f0,f1,f2,_⟩:=hf p.1 hb;obtain⟨o,e',d⟩:=ho p.1 hb;rw[e]at e';cases e';exact⟨e,f0,f1,f2,d⟩
def Inv.kf(I:Inv X (pins++pl) σ H s):Inv X pins σ H s:=I.VW λp hp=>I.pin p (O3 _ (a0R _ hp))
def nN(hp:PassesOwn (NO X) X.A X.env X.xe)(hc:X.calm=true)(hi:PI X tg qP wi)(hg:PG X tg g)(hb:PSs X body tb)
  (hs:∀x,foldedSetIterable qP X.env x=pure x:=by intro _;rfl):PS X (.For tg qP body [] pos) (Ek wi g tb):=by
 intro pins s σ H D I h;refine wpAny_For (thn (hi pins s σ H _ I h) λv s1 h1=>thn h1 λitv s2 h2=>?_) hs;obtain⟨it,fp,tn,J,H2,e,I2,T,st2,f2,W,⟨m0,w0⟩,turn⟩:=h2;subst e
 -- what stays true of the iterator's objects through the loop
 have stat:∀{H':Hp},(∀b∈fp,H' b=none)->∀b∈fp,tL X pins H' b:=λhn b hb=>⟨hn b hb,(f2 b hb).2⟩;refine codeAny_forLoop_any (λn s'=>∃i σ' H',Inv X pins σ' H' s'/\tn i s'.heap/\(∀b∈fp,H' b=none)/\W i n σ' H') ?_ m0 ⟨0,σ,H2,I2,st2,λb hb=>(f2 b hb).1,w0⟩
 rintro n s3 ⟨i,σ3,H3,I3,st3,fr3,w3⟩
 rcases turn i n σ3 H3 w3 with⟨stop,qn⟩|⟨go,N,hN,step⟩
 .refine a0M hp (thn (T.done X rfl rfl rfl hc i pins s3 σ3 H3 X.xe I3 (stat fr3) st3 stop) λr s4 ⟨hr,I4⟩=>?_);subst hr;exact a00 ⟨σ3,H3,I4,qn⟩
 .refine a0M hp (thn (T.item X rfl rfl rfl hc i pins s3 σ3 H3 X.xe I3 (stat fr3) st3 go) λr s4 ⟨u,hr,h4⟩=>?_);subst hr;refine a0M hp (thn h4 λ_ s5 ⟨x,H5,I5,r5,y5,st5,fr5⟩=>?_);have I5':=I5.pinned (stat fr5) (T.obj _ _ st5);refine a0M hp (thn (hg _ s5 σ3 H5 x u _ I5' r5 (step x H5 y5)) λ_ s6 ⟨σ6,H6,I6,q6⟩=>?_);refine a0M hp (thn (hb _ s6 σ6 H6 _ I6 q6) λf s7 q7=>?_);have again:∀{σ7:St}{H7:Hp},Inv X (pins++bQ fp s5.heap) σ7 H7 s7->N σ7 H7->∃m,m<n/\∃i σ' H',Inv X pins σ' H' s7/\tn i s7.heap/\(∀b∈fp,H' b=none)/\W i m σ' H':=λ{σ7 H7} I7 n7=>by obtain⟨m',hm,w7⟩:=hN σ7 H7 n7;refine⟨m',hm,i+1,σ7,H7,I7.kf,T.keep _ _ _ st5 λb hb o e=>(I7.pin (b,o) (O3 _ (O3 _ (YO hb e)))).1,λb hb=>?_,w7⟩;obtain⟨o,e,d⟩:=T.obj _ _ st5 b hb;exact(I7.pin (b,o) (O3 _ (O3 _ (YO hb e)))).2.1
  cases f with
  |next=>obtain⟨σ7,H7,I7,n7⟩:=q7;exact again I7 n7
  |cont=>obtain⟨σ7,H7,I7,n7⟩:=q7;exact again I7 n7
  |brk=>obtain⟨σ7,H7,I7,q7⟩:=q7;exact⟨σ7,H7,I7.kf,q7⟩
  |ret v=>obtain⟨x7,σ7,H7,I7,r7,q7⟩:=q7;exact⟨x7,σ7,H7,I7.kf,r7,q7⟩
end
abbrev R2:=V->V->Hp->VK->Prop
def OpR(X:Cx)(f:Value->Value->Sem Value)(r:R2):Prop:=
 ∀(pins:My)(s:MH)(σ:St)(H:Hp)(x y:V)(v u:Value)(Q:VK),Inv X pins σ H s->RelV x v->RelV y u->r x y H Q->
  wpAny (NO X) X.A (f v u) (EP X pins σ Q) X.xe s
def wq(X:Cx)(f:Value)(r:List V->Hp->VK->Prop):Prop:=
 ∀(pins:My)(s:MH)(σ:St)(H:Hp)(xs:ML)(us:MJ)(Q:VK),Inv X pins σ H s->Vals xs us->r xs H Q->
  wpAny (NO X) X.A (call f us) (EP X pins σ Q) X.xe s
def tOp(r:R2)(ta tb:TE):TE:=λσ H Q=>ta σ H λx H1=>tb σ H1 λy H2=>r x y H2 Q
def rI(C:Int->Int->Prop)(g:Int->Int->V):R2:=λx y H Q=>∃i j,x=.int i/\y=.int j/\C i j/\Q (g i j) H
def rI0(g:Int->Int->V):R2:=λx y H Q=>∃i j,x=.int i/\y=.int j/\Q (g i j) H
section
variable {X:Cx}{a b c:MR}{ta tb tc:TE}{pos:Pos}
def Hs(ha:PE X a ta)(hb:PE X b tb){pins:My}{s:MH}{σ:St}{H:Hp}{R:V->V->Hp->Prop}(I:Inv X pins σ H s)
  (h:ta σ H λx H1=>tb σ H1 λy H2=>R x y H2) {Q:MC}{f:Value->Value->Sem Value}
  (hf:∀v u s2 x y H2,Inv X pins σ H2 s2->RelV x v->RelV y u->R x y H2->wpAny (NO X) X.A (f v u) Q X.xe s2):
  wpAny (NO X) X.A (eval a X.env) (λv s₁=>wpAny (NO X) X.A (eval b X.env) (λu s₂=>wpAny (NO X) X.A (f v u) Q X.xe s₂) X.xe s₁) X.xe s:=by
 refine thn (ha pins s σ H _ I h) λv s1 ⟨x,H1,I1,r1,q1⟩=>?_;refine thn (hb pins s1 σ H1 _ I1 q1) λu s2 ⟨y,H2,I2,r2,q2⟩=>?_;exact hf v u s2 x y H2 I2 r1 r2 q2
def El(ho:OpR X (binaryOp op) r)(ha:PE X a ta)(hb:PE X b tb):PE X (.BinOp a op b pos) (tOp r ta tb):=by intro pins s σ H Q I h;exact wpAny_BinOp (Hs ha hb I h λv u s2 x y H2 I2 rx ry q=>ho pins s2 σ H2 x y v u Q I2 rx ry q)
def opI{f:Value->Value->Sem Value}{C:Int->Int->Prop}{g:Int->Int->Int}
  (rule:∀(i j:Int)(t u:Tok)(s:MH)(Q:MC)(E:MC),C i j->Q (.int (g i j) s.toks) { s with toks:=s.toks+1 }->wpAny (NO X) X.A (f (.int i t) (.int j u)) Q E s):
  OpR X f (rI C λi j=>.int (g i j)):=by
 intro pins s σ H x y v u Q I rx ry h;obtain⟨i,j,rfl,rfl,hc,q⟩:=h;obtain⟨t,rfl⟩:=rx;obtain⟨t',rfl⟩:=ry;exact rule i j t t' s _ _ hc ⟨.int (g i j),H,I.tok _,⟨_,rfl⟩,q⟩
def La{f:Value->Value->Sem Value}{g:Int->Int->Int}
  (rule:∀(i j:Int)(t u:Tok)(s:MH)(Q:MC)(E:MC),Q (.int (g i j) s.toks) { s with toks:=s.toks+1 }->wpAny (NO X) X.A (f (.int i t) (.int j u)) Q E s):
  OpR X f (rI0 λi j=>.int (g i j)):=by
 intro pins s σ H x y v u Q I rx ry h;obtain⟨i,j,rfl,rfl,q⟩:=h;obtain⟨t,rfl⟩:=rx;obtain⟨t',rfl⟩:=ry;exact rule i j t t' s _ _ ⟨.int (g i j),H,I.tok _,⟨_,rfl⟩,q⟩
def GW{f:Value->Value->Sem Value}{g:Int->Int->Bool}
  (rule:∀(i j:Int)(t u:Tok)(s:MH)(Q:MC)(E:MC),Q (.bool (g i j)) s->wpAny (NO X) X.A (f (.int i t) (.int j u)) Q E s):
  OpR X f (rI0 λi j=>.bl (g i j)):=by
 intro pins s σ H x y v u Q I rx ry h;obtain⟨i,j,rfl,rfl,q⟩:=h;obtain⟨t,rfl⟩:=rx;obtain⟨t',rfl⟩:=ry;exact rule i j t t' s _ _ ⟨.bl (g i j),H,I,rfl,q⟩
def DU(i j:Int):Prop:=0<j/\j<1073741824
def Em(i j:Int):Prop:=0<=j/\j<=1000000/\i.natAbs<2 ^ 64
def Ar(i j:Int):Prop:=(-(2 ^ 64)<i/\i<2 ^ 64)\/(-(2 ^ 64)<j/\j<2 ^ 64)
def Ar.ok(h:Ar i j):IntMulOk i j:=by
 rcases h with⟨h1,h2⟩|⟨h1,h2⟩
 .exact .of_left (intBits_le_64 h1 h2)
 .exact .of_right (intBits_le_64 h1 h2)
def En:OpR X (binaryOp .Add) (rI0 λi j=>.int (i+j)):=La λ_ _ _ _ _ _ _ q=>add_int q
def VZ:OpR X (binaryOp .Sub) (rI0 λi j=>.int (i-j)):=La λ_ _ _ _ _ _ _ q=>sub_int q
def Eo:OpR X (binaryOp .Mult) (rI Ar λi j=>.int (i*j)):=opI λ_ _ _ _ _ _ _ hc q=>mul_int q hc.ok
def BL:OpR X (binaryOp .FloorDiv) (rI DU λi j=>.int (i / j)):=opI λi j _ _ _ _ _ hc q=>by have h1:(0:Int)<j:=hc.1;have h2:j<1073741824:=hc.2;exact floordiv_int (by omega) (by rw[Int.fdiv_eq_ediv_of_nonneg i (by omega)];exact q) (.inl (PyProof.noPylong_small (by omega)))
def Ep:OpR X (binaryOp .Mod) (rI (λ_ j=>0<j) λi j=>.int (i % j)):=opI λi j _ _ _ _ _ hc q=>by have h1:(0:Int)<j:=hc;exact mod_int' (by omega) (by rw[Int.fmod_eq_emod_of_nonneg i (by omega)];exact q)
def BM:OpR X (binaryOp .Mod) (rI (λ_ j=>j≠0) λi j=>.int (i.fmod j)):=opI λ_ _ _ _ _ _ _ hc q=>mod_int' hc q
def bR:OpR X (binaryOp .Pow) (rI Em λi j=>.int (i ^ j.toNat)):=opI λ_ _ _ _ _ _ _ hc q=>pow_int_small hc.1 hc.2.1 hc.2.2 q
end
section
variable {X:Cx}{a b c:MR}{ta tb tc:TE}{pos:Pos}
def nO(I:Inv X pins σ H s)(q:Q (.bl k) H)(e:k=k'):EP X pins σ Q (.bool k') s:=by subst e;exact⟨.bl k,H,I,rfl,q⟩
def nP:OpR X (compareOp .Lt) (rI0 λi j=>.bl (decide (i<j))):=GW λ_ _ _ _ _ _ _ q=>lt_int q
def t5:OpR X (compareOp .LtE) (rI0 λi j=>.bl (decide (i<=j))):=GW λ_ _ _ _ _ _ _ q=>le_int q
def lO:OpR X (compareOp .Gt) (rI0 λi j=>.bl (decide (j<i))):=GW λ_ _ _ _ _ _ _ q=>gt_int q
def Hu:OpR X (compareOp .GtE) (rI0 λi j=>.bl (decide (j<=i))):=GW λ_ _ _ _ _ _ _ q=>ge_int q
def nQ:OpR X (compareOp .In) (λx y H Q=>∃i j,x=.str i/\y=.str j/\Q (.bl (!(Builtin.Str.occurrences j i 0 j.length 1).isEmpty)) H):=by intro pins s σ H x y v u Q I rx ry h;obtain⟨i,j,rfl,rfl,q⟩:=h;obtain⟨t,rfl⟩:=rx;obtain⟨t',rfl⟩:=ry;exact in_str (nO I q rfl)
def As:OpR X (compareOp .Is) (λx y H Q=>y=.non/\Q (.bl (decide (x=.non))) H):=by
 intro pins s σ H x y v u Q I rx ry h;obtain⟨rfl,q⟩:=h;cases ry;refine is_none_gen (nO I q ?_);cases x<;>first
  | (cases rx;rfl)
  | (obtain⟨t,rfl⟩:=rx;rfl)
def nR:OpR X (compareOp .IsNot) (λx y H Q=>y=.non/\Q (.bl (!decide (x=.non))) H):=by
 intro pins s σ H x y v u Q I rx ry h;obtain⟨rfl,q⟩:=h;cases ry;refine isnot_none_gen (nO I q ?_);cases x<;>first
  | (cases rx;rfl)
  | (obtain⟨t,rfl⟩:=rx;rfl)
def OpR.or(h:OpR X f r)(h':OpR X f r'):OpR X f (λx y H Q=>r x y H Q\/r' x y H Q):=by
 intro pins s σ H x y v u Q I rx ry q;rcases q with q|q
 .exact h pins s σ H x y v u Q I rx ry q
 .exact h' pins s σ H x y v u Q I rx ry q
def qL(b:MR)(h:op≠.In:=by decide)(h2:op≠.NotIn:=by decide):behindInMarks op b=false:=by
 have e1:(op==CmpOp.In)=false:=by cases op<;>first|rfl|exact absurd rfl h
 have e2:(op==CmpOp.NotIn)=false:=by cases op<;>first|rfl|exact absurd rfl h2
 cases b<;>simp[behindInMarks,e1,e2]
def BO(ho:OpR X (compareOp op) r)(ha:PE X a ta)(hb:PE X b tb)(hm:behindInMarks op b=false):PE X (.Compare a [op] [b] pos) (tOp r ta tb):=by intro pins s σ H Q I h;exact wpAny_Compare1 (Hs ha hb I h λv u s2 x y H2 I2 rx ry q=>ho pins s2 σ H2 x y v u Q I2 rx ry q) hm
def Er(t:TE):TT:=λσ H Q=>t σ H λx H'=>∃k,x=.bl k/\Q k H'
def eE(ho:OpR X (compareOp op) r)(ha:PE X a ta)(hb:PE X b tb)(hm:behindInMarks op b=false):PT X (.Compare a [op] [b] pos) (Er (tOp r ta tb)):=by
 intro pins s σ H Q I h;refine wpAny_isTrue_Compare1 (thn (ha pins s σ H _ I h) λv s1 ⟨x,H1,I1,r1,q1⟩=>thn (hb pins s1 σ H1 _ I1 q1) λu s2 ⟨y,H2,I2,r2,q2⟩=>
  thn (ho pins s2 σ H2 x y v u _ I2 r1 r2 q2) λc s3 ⟨z,H3,I3,r3,k,e,q3⟩=>?_) hm
 subst e;cases r3;exact a1X ⟨H3,I3,q3⟩
def bS:(sizeLine:Nat)<2 ^ 63:=by rw[a0e];decide
def lR:OpR X (binaryOp .Add) (λx y H Q=>∃i j,x=.str i/\y=.str j/\i.length+j.length<=sizeLine/\Q (.str (i++j)) H):=by intro pins s σ H x y v u Q I rx ry h;obtain⟨i,j,rfl,rfl,hz,q⟩:=h;obtain⟨t,rfl⟩:=rx;obtain⟨t',rfl⟩:=ry;exact add_str (λt' tk=>⟨.str (i++j),H,I.tok _,⟨_,rfl⟩,q⟩) hz
def vals1(r:Vals [x] us):∃u,us=[u]/\RelV x u:=by
 cases r with
 |cons r1 r2=>cases r2;exact⟨_,rfl,r1⟩
def vals2(r:Vals [x,y] us):∃u w',us=[u,w']/\RelV x u/\RelV y w':=by
 cases r with
 |cons r1 r2=>
  cases r2 with
  |cons r3 r4=>cases r4;exact⟨_,_,rfl,r1,r3⟩
def nS(hc:X.calm=true):wq X (.builtin "max") (λxs H Q=>∃i j,xs=[.int i,.int j]/\Q (.int (if j>i then j else i)) H):=by
 intro pins s σ H xs us Q I r h;obtain⟨i,j,rfl,q⟩:=h;obtain⟨u,w',rfl,⟨t,rfl⟩,⟨t',rfl⟩⟩:=vals2 r;refine max_two_ints (I.ok.hd hc) λh' tk k=>⟨_,H,I.kept k,?_,q⟩;by_cases hj:j>i
 .rw[if_pos hj,if_pos hj];exact⟨_,rfl⟩
 .rw[if_neg hj,if_neg hj];exact⟨_,rfl⟩
def nU(hc:X.calm=true):wq X (.builtin "min") (λxs H Q=>∃i j,xs=[.int i,.int j]/\Q (.int (if j<i then j else i)) H):=by
 intro pins s σ H xs us Q I r h;obtain⟨i,j,rfl,q⟩:=h;obtain⟨u,w',rfl,⟨t,rfl⟩,⟨t',rfl⟩⟩:=vals2 r;refine min_two_ints (I.ok.hd hc) λh' tk k=>⟨_,H,I.kept k,?_,q⟩;by_cases hj:j<i
 .rw[if_pos hj,if_pos hj];exact⟨_,rfl⟩
 .rw[if_neg hj,if_neg hj];exact⟨_,rfl⟩
def Lc(K:MQ)(x:V)(H:Hp)(n:Nat):Prop:=
 match x with
 |.str y=>y.length<=sizeLine/\n=y.length
 |.byt y=>y.size<=sizeLine/\n=y.size
 |.ref p=>(∃xs,SqL K H p xs/\n=xs.length)\/∃xs,SqT K H p xs/\n=xs.length
 |_=>False
def t6:wq X (.builtin "len") (λxs H Q=>∃x n,xs=[x]/\Lc X.K x H n/\Q (.int n) H):=by
 intro pins s σ H xs us Q I r h;obtain⟨x,n,rfl,e,q⟩:=h;obtain⟨u,rfl,rx⟩:=vals1 r;have hl:=bS;have hs:sizeLine=16777216:=a0e;cases x with
 |str y=>obtain⟨t,rfl⟩:=rx;obtain⟨hy,e'⟩:y.length<=sizeLine/\n=y.length:=e;subst e';exact len_str (by omega) ⟨.int _,H,I.tok _,⟨_,rfl⟩,q⟩
 |byt y=>obtain⟨t,rfl⟩:=rx;obtain⟨hy,e'⟩:y.size<=sizeLine/\n=y.size:=e;subst e';exact PySem.W.len_bytes (by omega) ⟨.int _,H,I.tok _,⟨_,rfl⟩,q⟩
 |ref p=>
  cases rx;have e':(∃xs,SqL X.K H p xs/\n=xs.length)\/∃xs,SqT X.K H p xs/\n=xs.length:=e;rcases e' with⟨xs,hx,e'⟩|⟨xs,hx,e'⟩
  .subst e';obtain⟨its,r',pl,hz⟩:=I.list hx;have hlen:=r'.length;exact Calls.call_len_list pl.isList (by simp only[List.size_toArray];omega) ⟨.int xs.length,H,I.tok _,⟨_,by simp only[List.size_toArray];rw[hlen]⟩,q⟩
  .subst e';obtain⟨its,r',pl,hz⟩:=I.tuple hx;have hlen:=r'.length;exact len_tuple pl (by simp only[List.size_toArray];omega) ⟨.int xs.length,H,I.tok _,⟨_,by simp only[List.size_toArray];rw[hlen]⟩,q⟩
 |_=>exact(show False from e).elim
end
structure BP(h:Heap)(x dx C:Addr)(mA:Mz):Prop where
 obj:h.get? x=some (PySem.W.instObj C dx)
 ns:h.Ns1 dx mA
 ne:dx≠x
def Q1{h:Heap}{dx:Addr}{mA:Mz}(n:h.Ns1 dx mA):∃od,h.get? dx=some od/\∀name,PySem.W.lookIn name od=some (mA name):=by
 obtain⟨o,es,ep,ho,hd,hk,_,hm⟩:=n;refine⟨o,ho,λname=>?_⟩;have e:=hm name;unfold nsFind findBy at e;rw[<- a2S]at e;unfold PySem.W.lookIn;rw[hd];dsimp only;split
 .rename_i y q;rw[q]at e;exact T6 some e
 .rename_i q;rw[q]at e;have a:es.toList.any (·.refKey)=false:=by rw[List.any_eq_false];intro y hy;obtain⟨z,t,hkey⟩:=hk y (a2C.mp hy);simp[DictEntry.refKey,hkey]
  have a':¬es.toList.any (·.refKey)=true:=by rw[a];exact O2
  rw[if_neg a'];exact T6 some e
def BP.look(I:BP h x dx C mA):∃od,PySem.W.InstAt h x (PySem.W.instObj C dx) C (some od)/\∀name,PySem.W.lookIn name od=some (mA name):=
 let⟨od,ho,hl⟩:=Q1 I.ns
 ⟨od,⟨I.obj,rfl,rfl,ho⟩,hl⟩
section
variable {prog:MV}{w:M_}{A:Nb}{E:MC}{s:MH}{K:MQ}{x dx C f:Addr}{mA:Mz}{name:Str}{v:Value}
def get_map(X:K.In s.heap)(I:BP s.heap x dx C mA)(hg:PySem.W.plainGet K C name=true)(hh:PySem.W.hasDictIn K C=true)
  (ha:PySem.W.findIn K (.ref C) name=some none) (hv:mA name=some v) (hv':PySem.W.handedIn v=true) (h:Q v { s with toks:=s.toks+1 }):
  wpAny (model prog w) A (getAttr (.ref x) name expr) Q E s:=by
 obtain⟨od,J,hl⟩:=I.look;exact PySem.W.get_value X J (a1K hg).1 (PySem.W.findObj_own hh ha rfl (by rw[hl,hv])) hv' h
def t7(X:K.In s.heap)(I:BP s.heap x dx C mA)(hg:PySem.W.plainGet K C name=true)
  (hf:PySem.W.findIn K (.ref C) name=some (some (.ref f))) (ht:PySem.W.isFn K (.ref f)=true) (hv:mA name=none) (h:Q (.ref f,[.ref x]) s):
  wpAny (model prog w) A (getMethod (.ref x) name pl) Q E s:=by
 obtain⟨od,J,hl⟩:=I.look;exact PySem.W.method_fn X J (a1K hg).1 (a1K hg).2 hf (R8.mp ht) (by show(PySem.W.lookIn name od).map (·.isSome)=some false;rw[hl,hv];rfl) h
def BQ(X:K.In s.heap)(I:BP s.heap x dx C mA)
  (hs:PySem.W.findIn K (.ref C) "__setattr__"=some (some (.builtin "object.__setattr__"))) (hp:PySem.W.plainOver K C=true) (ht:PySem.W.takerIn K C name=some none) (hh:PySem.W.hasDictIn K C=true)
  (hw:PySem.Within mA ns) (hsz:ns.length<=sizeLine)
  (h:∀h',BP h' x dx C (λy=>if y=name then some v else mA y)->Heap.SameBut dx s.heap h'->Q () { s with heap:=h',toks:=s.toks+2 }):
  wpAny (model prog w) A (setAttr (.ref x) name v) Q E s:=by
 obtain⟨od,J,hl⟩:=I.look;refine PySem.W.set_plain X J hs (PySem.W.osa_open (s:={ s with toks:=s.toks+1 }) (r:=none) X J hp ht λb=>?_);obtain⟨cd,hc,hd'⟩:=PySem.W.any_some hh;have hx:s.heap.get? x=some ⟨.ref C,some dx,.plain,#[]⟩:=I.obj;refine f8 (M9 (f8 (f8 (a07 hx (f8 (PySem.W.Looks.here (s:={ s with toks:=s.toks+1 }) (PySem.W.looks_clsIn X hc) ?_))))));rw[hd'];refine M9 (a:=some dx) (f8 (M9 (f8 ?_)));refine a2T (s:={ s with toks:=s.toks+1 }) I.ns λh' hn2 hs2=>?_;obtain⟨oD,esD,epD,hoD,hdD,hcD⟩:=hn2.count (a1Y name v hw);refine f8 (a15 hoD (by rw[hdD];exact a16 (P7 hcD (by rw[v4];omega))) ?_);exact M9 (h _ ⟨(hs2.2 _ (Ne.symm I.ne)).trans I.obj,hn2,I.ne⟩ hs2)
def t8(X:K.In s.heap)(hm:PySem.W.makesIn K C=true)
  (hi:PySem.W.findIn K (.ref C) "__init__"=some (some (.ref f))) (hf:PySem.W.typeIn K (.ref f)=some (.type "function"))
  (h:codeAny (model prog w) (A.under (.builtin "type.__call__" ⟨.ref C::vs,kw⟩)) (.call (.ref f) ⟨.ref (s.heap.objs.size+1)::vs,kw⟩) (PySem.W.InitBack (s.heap.objs.size+1) R)
   { s with heap:=(s.heap.push PySem.W.emptyDict).push (PySem.W.instObj C s.heap.objs.size) }):
  codeAny (model prog w) A (.call (.ref C) ⟨vs,kw⟩) R s:=by
 obtain⟨hh,g,d,t,os⟩:=s;exact PySem.W.make_core (PySem.W.makes_of X hm) (PySem.W.looks_findIn X hi) (λself=>PySem.W.bind_fn X self hf) (.inl rfl) h
end
def J6(f:Str)(v:V):List (Str×V)->List (Str×V)
 |[]=>[(f,v)]
 | (g,x)::r=>if g=f then(g,v)::r else(g,x)::J6 f v r
def QH(f g:Str)(v:V):∀fs:List (Str×V),(J6 f v fs).lookup g=if g=f then some v else fs.lookup g
 |[]=>by
  show List.lookup g [(f,v)]=_;by_cases h:g=f
  .have hb:(g==f)=true:=R8.mpr h;simp only[List.lookup,hb,if_pos h]
  .have hb:(g==f)=false:=T7.mpr h;simp only[List.lookup,hb,if_neg h]
 | (k,x)::r=>by
  have ih:=QH f g v r;rw[show J6 f v ((k,x)::r)=(if k=f then(k,v)::r else(k,x)::J6 f v r)from rfl];by_cases hk:k=f
  .rw[if_pos hk];by_cases h:g=k
   .have hb:(g==k)=true:=R8.mpr h;simp only[List.lookup,hb,if_pos (h.trans hk)]
   .have hb:(g==k)=false:=T7.mpr h;simp only[List.lookup,hb,if_neg (λe:g=f=>h (e.trans hk.symm))]
  .rw[if_neg hk];by_cases h:g=k
   .have hb:(g==k)=true:=R8.mpr h;simp only[List.lookup,hb,if_neg (λe:g=f=>hk (h.symm.trans e))]
   .have hb:(g==k)=false:=T7.mpr h;simp only[List.lookup,hb];exact ih
def ZO(f:Str)(v:V):∀fs:List (Str×V),f∈(J6 f v fs).map (·.1)/\∀g,g∈fs.map (·.1)->g∈(J6 f v fs).map (·.1)
 |[]=>⟨by simp[J6],λg h=>by simp at h⟩
 | (k,x)::r=>by
  obtain⟨i1,i2⟩:=ZO f v r;rw[show J6 f v ((k,x)::r)=(if k=f then(k,v)::r else(k,x)::J6 f v r)from rfl];by_cases hk:k=f
  .rw[if_pos hk];subst hk;exact⟨by simp,λg h=>by simpa using h⟩
  .rw[if_neg hk];refine⟨?_,λg h=>?_⟩
   .rw[N5];exact M8 _ i1
   .rw[N5]at h ⊢;rcases O5.mp h with e|e
    .exact O5.mpr (.inl e)
    .exact M8 _ (i2 g e)
def QI(f:Str)(v:V):∀fs:List (Str×V),(J6 f v fs).length<=fs.length+1
 |[]=>by simp[J6]
 | (k,x)::r=>by
  have ih:=QI f v r;rw[show J6 f v ((k,x)::r)=(if k=f then(k,v)::r else(k,x)::J6 f v r)from rfl];by_cases hk:k=f
  .rw[if_pos hk,v4,v4];omega
  .rw[if_neg hk,v4,v4];omega
def Vm.some_of(r:Vm (some v) o):∃u,o=some u/\RelV v u:=by
 cases o with
 |none=>exact(show False from r).elim
 |some u=>exact⟨u,rfl,r⟩
def Vm.none_of(r:Vm none o):o=none:=by
 cases o with
 |none=>rfl
 |some u=>exact(show False from r).elim
def bT(r:RelV v u):PySem.W.handedIn u=true:=by
 cases v with
 |non=>cases(show u=Value.none from r);rfl
 |bl b=>cases(show u=Value.bool b from r);rfl
 |int i=>obtain⟨t,e⟩:=(show ∃t,u=Value.int i t from r);cases e;rfl
 |str x=>obtain⟨t,e⟩:=(show ∃t,u=Value.str x t from r);cases e;rfl
 |byt b=>obtain⟨t,e⟩:=(show ∃t,u=Value.bytes b t from r);cases e;rfl
 |flt b=>obtain⟨t,e⟩:=(show ∃t,u=Value.float b t from r);cases e;rfl
 |ref a=>cases(show u=Value.ref a from r);rfl
 |ty n=>cases(show u=Value.type n from r);rfl
def U2(hok:HOk P w H h)(e:H a=some (.ins C dx fs)):∃mA,BP h a dx C mA/\(∀f,Vm (fs.lookup f) (mA f))/\PySem.Within mA (fs.map (·.1))/\fs.length<=1000/\H dx=some (.own a):=by obtain⟨d,z,ne,ob,mA,n,r,q⟩:=(show yF P w H h a (.ins C dx fs)from hok a _ e);exact⟨mA,⟨ob,n,ne⟩,r,q,z,d⟩
structure Cls(K:MQ)(C:Addr):Prop where
 pg:PySem.W.plainGet K C Str.empty=true
 hd:PySem.W.hasDictIn K C=true
 po:PySem.W.plainOver K C=true
 sa:PySem.W.findIn K (.ref C) "__setattr__"=some (some (.builtin "object.__setattr__"))
def Cls.get{K:MQ}{C:Addr}(c:Cls K C)(f:Str):PySem.W.plainGet K C f=true:=c.pg
def j8(K:MQ)(C:Addr)(f:Str):Prop:=PySem.W.findIn K (.ref C) f=some none
def j8.Hv{K:MQ}{C:Addr}{f:Str}(n:j8 K C f):PySem.W.takerIn K C f=some none:=by unfold PySem.W.takerIn;rw[show PySem.W.findIn K (.ref C) f=some none from n];rfl
structure Meth(K:MQ)(C:Addr)(m:Str)(f:Addr):Prop where
 at_:PySem.W.findIn K (.ref C) m=some (some (.ref f))
 fn:PySem.W.isFn K (.ref f)=true
 kp:PySem.W.keepIn K (.ref f)=true
def lS(I:Inv X pins σ H s)(e:H a=some (.ins C dx fs))(c:Cls X.K C)(n:j8 X.K C f)(l:fs.lookup f=some v)
  (h:∀u s',Inv X pins σ H s'->RelV v u->Q u s'):wpAny (NO X) A (getAttr (.ref a) f b) Q E s:=by
 obtain⟨mA,O,r,_,_,_⟩:=U2 I.hok e;obtain⟨u,hu,ru⟩:=Vm.some_of (v:=v) (o:=mA f) (by rw[<- l];exact r f);exact get_map I.kIn O (c.get f) c.hd n hu (bT ru) (h u _ (I.tok _) ru)
def Ul(I:Inv X pins σ H s)(e:H a=some (.ins C dx fs))(c:Cls X.K C)(k:Meth X.K C m g)(l:fs.lookup m=none)
  (h:Q (.ref g,[.ref a]) s):wpAny (NO X) A (getMethod (.ref a) m pl) Q E s:=by
 obtain⟨mA,O,r,_,_,_⟩:=U2 I.hok e;have hn:mA m=none:=Vm.none_of (by rw[<- l];exact r m);exact t7 I.kIn O (c.get m) k.at_ k.fn hn h
def lX(I:Inv X pins σ H s)(e:H a=some (.ins C dx fs))(c:Cls X.K C)(n:j8 X.K C f)(hl:fs.length<1000)(ry:RelV y u)
  (h:∀s',Inv X pins σ (upd H a (.ins C dx (J6 f y fs))) s'->Q () s'):wpAny (NO X) A (setAttr (.ref a) f u) Q E s:=by
 obtain⟨mA,O,r,wi,_,ho⟩:=U2 I.hok e;have hz:(fs.map (·.1)).length<=sizeLine:=by rw[u8,a0e];omega
 refine BQ I.kIn O c.sa c.po n.Hv c.hd wi hz λh' O' sb=>h _ ?_;have hd:∃o,h'.get? dx=some o:=let⟨o,_,_,e',_⟩:=O'.ns;⟨o,e'⟩
 refine I.write (x:=a) (e:=dx) (by rw[e];exact True.intro) (.inr ho) (λb q hb z=>(sb.2 b hb).trans z) hd ?_;refine⟨by rw[zg O.ne];exact ho,?_,O.ne,O'.obj,_,O'.ns,λg=>?_,λg hg=>?_⟩
 .have:=QI f y fs;omega
 .show Vm ((J6 f y fs).lookup g) (if g=f then some u else mA g);rw[QH];by_cases q:g=f
  .rw[if_pos q,if_pos q];exact ry
  .rw[if_neg q,if_neg q];exact r g
 .by_cases q:g=f
  .rw[q];exact(ZO f y fs).1
  .refine(ZO f y fs).2 g (wi g λz=>hg ?_);show(if g=f then some u else mA g)=none;rw[if_neg q];exact z
def Inv.made(I:Inv X pins σ H s):Inv X pins σ (upd (upd H s.heap.objs.size (.own (s.heap.objs.size+1))) (s.heap.objs.size+1) (.ins C s.heap.objs.size []))
  { s with heap:=(s.heap.push PySem.W.emptyDict).push (PySem.W.instObj C s.heap.objs.size) }:=by
 have e1:(s.heap.push PySem.W.emptyDict).get? s.heap.objs.size=some PySem.W.emptyDict:=O8 s.heap rfl;have e2:((s.heap.push PySem.W.emptyDict).push (PySem.W.instObj C s.heap.objs.size)).get? (s.heap.objs.size+1)=some (PySem.W.instObj C s.heap.objs.size):=by
  have:=O8 (s.heap.push PySem.W.emptyDict) (o:=PySem.W.instObj C s.heap.objs.size) rfl
  rwa [a0T]at this
 have e3:(s.heap.push PySem.W.emptyDict).Ns s.heap.objs.size (λ_=>none):=⟨PySem.W.emptyDict,#[],_,e1,rfl,(λe he=>absurd he (by simp)),λ_=>rfl⟩;have I1:=I.laid (a:=s.heap.objs.size) (o:=.own (s.heap.objs.size+1)) (h':=s.heap.push PySem.W.emptyDict) (t':=s.toks) (λb u q=>M6 _ q) (M7 _) ⟨_,e1⟩;refine I1.laid (a:=s.heap.objs.size+1) (o:=.ins C s.heap.objs.size []) (t':=s.toks) (λb u q=>M6 _ q) (a1A (a0T _ _)) ?_;have ne:s.heap.objs.size≠s.heap.objs.size+1:=O1 (a0r _);refine⟨by rw[zg ne,zd],S7 _,ne,e2,λ_=>none,(Heap.Ns1.of_empty e3).at λo q=>M6 _ q,λ_=>True.intro,λy hy=>absurd rfl hy⟩
def nV(hb:attributeBase e f env (eval e env)=eval e env)
  (h:wpAny (model prog w) A (eval e env) (λo s₁=>wpAny (model prog w) A (getAttr o f true) Q E s₁) E s):wpAny (model prog w) A (eval (.Attribute e f pos) env) Q E s:=
 Attribute_any_ h (by rw[arm_eval_Attribute,hb])
def LY(K:MQ)(ta:TE)(f:Str):TE:=λσ H Q=>ta σ H λx H1=>∃a C dx fs v,x=.ref a/\H1 a=some (.ins C dx fs)/\Cls K C/\j8 K C f/\fs.lookup f=some v/\Q v H1
def LZ(K:MQ)(ta tv:TE)(f:Str):TS:=λD σ H=>tv σ H λy H1=>ta σ H1 λx H2=>∃a C dx fs,x=.ref a/\H2 a=some (.ins C dx fs)/\Cls K C/\j8 K C f/\fs.length<1000/\
 D.nx σ (upd H2 a (.ins C dx (J6 f y fs)))
def Au(he:PE X e ta)(hb:attributeBase e f X.env (eval e X.env)=eval e X.env):PE X (.Attribute e f pos) (LY X.K ta f):=by intro pins s σ H Q I h;refine nV hb (thn (he pins s σ H _ I h) λu s1 ⟨x,H1,I1,rx,a,C,dx,fs,v,ex,ea,c,n,l,q⟩=>?_);subst ex;obtain rfl:u=Value.ref a:=rx;exact lS I1 ea c n l λu' s2 I2 ru=>⟨v,H1,I2,ru,q⟩
def Av(ha:PE X o ta)(hv:PE X value tv)(hs:swapsWith value (some (.Attribute o f pos')) pos.line X.env=pure false):PS X (.Assign [.Attribute o f pos'] value pos) (LZ X.K ta tv f):=by intro pins s σ H D I h;refine a1z (thn (hv pins s σ H _ I h) λu s1 ⟨y,H1,I1,ry,q⟩=>thn (ha pins s1 σ H1 _ I1 q) λov s2 ⟨x,H2,I2,rx,a,C,dx,fs,ex,ea,c,n,l,q2⟩=>?_) hs;subst ex;obtain rfl:ov=Value.ref a:=rx;exact lX I2 ea c n l ry λs3 I3=>⟨σ,_,I3,q2⟩
section
variable {X:Cx}{pins:My}{σ:St}{H:Hp}{s:MH}{A:Nb}{E:MC}{Q:MC}{c:Value}{b:Bool}
inductive nq(K:MQ)(H:Hp):V->Value->Prop where
 |non:nq K H .non (.type "NoneType")
 |bl (x:Bool):nq K H (.bl x) (.type "bool")
 |int (i:Int):nq K H (.int i) (.type "int")
 |str (x:Str):nq K H (.str x) (.type "str")
 |flt (x:UInt64):nq K H (.flt x) (.type "float")
 |lst {a:Addr}{xs:ML}(e:H a=some (.lst xs)):nq K H (.ref a) (.type "list")
 |frz {a:Addr}{o:Obj}{xs:ML}(e:H a=some (.frz o (.lst xs))):nq K H (.ref a) (.type "list")
 |tup {a:Addr}{xs:ML}(e:H a=some (.tup xs)):nq K H (.ref a) (.type "tuple")
 |dK {a:Addr}{kvs:MM}(e:H a=some (.dK kvs)):nq K H (.ref a) (.type "dict")
 |dT {a:Addr}{kvs:NB}(e:H a=some (.dT kvs)):nq K H (.ref a) (.type "dict")
 |ins {a C dx:Addr}{fs:Nd}(e:H a=some (.ins C dx fs)) (cl:Cls K C) (ha:PySem.W.findIn K (.ref C) "__class__"=some (some (.builtin "object.__class__")))
   (hn:PySem.W.specialIn K (.builtin "object.__class__") "__get__"=some (some (.builtin "getset_descriptor.__get__"))) (htk:PySem.W.takesIn K (.builtin "object.__class__")=some true)
   (hm:PySem.W.mroIn K C (.type "object")=some true):nq K H (.ref a) (.ref C)
end
structure qQ(k:Nat)(A:Nb):Prop where
 hd:A.handled=none
 dp:A.depth+3*k+5<recursionLimit
 un:A.units+16*k+200<cLine
def qQ.mono(r:qQ k A)(h:j<=k):qQ j A:=⟨r.hd,by have:=r.dp;omega,by have:=r.un;omega⟩
def qQ.deeper(r:qQ (k+1) A)(env:Env):qQ k (A.deeper env):=
 ⟨r.hd,by have:=r.dp;show A.depth+1+3*k+5<_;omega,by have:=r.un;show A.units+3+16*k+200<_;omega⟩
def qQ.in1(r:qQ (k+1) A):qQ k A.in1:=
 ⟨r.hd,by have:=r.dp;show A.depth+3*k+5<_;omega,by have:=r.un;show A.units+1+16*k+200<_;omega⟩
def lY{A:Nb}{C:Addr}{us:MJ}{kw:Nu}:(A.under (.builtin "type.__call__" ⟨.ref C::us,kw⟩)).depth=A.depth+1:=by
 first|rfl|simp[Around.under,Code.weight,Code.isCreation,Code.isGuard,Code.isCaller,Code.frames,Code.isFrame,guardIds]
def lZ{A:Nb}{C:Addr}{us:MJ}{kw:Nu}:(A.under (.builtin "type.__call__" ⟨.ref C::us,kw⟩)).units=A.units+1:=by
 first|rfl|simp[Around.under,Code.cUnits,Code.frames,Code.isFrame]
def qQ.make(r:qQ (k+1) A)(C:Addr)(us:MJ)(kw:Nu):qQ k (A.under (.builtin "type.__call__" ⟨.ref C::us,kw⟩)):=
 ⟨r.hd,by have:=r.dp;rw[lY];omega,by have:=r.un;rw[lZ];omega⟩
def qQ.depth(r:qQ k A):A.depth<recursionLimit:=by have:=r.dp;omega
def qQ.units(r:qQ k A):A.units+64<cLine:=by have:=r.un;omega
def DV:TA:=λ_ H Q=>Q [] H
def bU(ta:TE)(tr:TA):TA:=λσ H Q=>ta σ H λx H1=>tr σ H1 λxs H2=>Q (x::xs) H2
section
variable {X:Cx}{e:MR}{es:MK}{te:TE}{t:TA}{pos:Pos}
def V0:PA X [] DV:=λ_ _ _ _ H Q I h=>a1p ⟨[],H,I,.nil,h⟩
def wK(ha:PE X e te)(hr:PA X es t)(hs:starEach (e::es) X.env=(false,eval e X.env)::starEach es X.env:=by rfl):PA X (e::es) (bU te t):=by intro pos pins s σ H Q I h;rw[hs];show wpAny _ _ (spliced ((false,eval e X.env)::backTo pos (starEach es X.env))) _ _ s;refine a01 (thn (ha pins s σ H _ I h) λu s1 ⟨x,H1,I1,r1,q1⟩=>?_);exact thn (hr pos pins s1 σ H1 _ I1 q1) λus s2 ⟨xs,H2,I2,r2,q2⟩=>⟨x::xs,H2,I2,.cons r1 r2,q2⟩
def Es(t:TA):TE:=λσ H Q=>t σ H λxs H1=>xs.length<=sizeLine/\∀p,H1 p=none->Q (.ref p) (upd H1 p (.tup xs))
def L6(t:TA):TE:=λσ H Q=>t σ H λxs H1=>xs.length<=sizeLine/\∀p,H1 p=none->Q (.ref p) (upd H1 p (.lst xs))
def V1{x1}(h:PA X es t):PE X (.Tuple es x1 pos) (Es t):=by intro pins s σ H Q I hq;refine wpAny_Tuple_spliced (thn (h pos pins s σ H _ I hq) λus s1 ⟨xs,H1,I1,r,z,q⟩=>⟨by rw[<- r.length];exact z,?_⟩);have hf:H1 s1.heap.objs.size=none:=I1.hok.fresh (M7 _);refine⟨.ref s1.heap.objs.size,upd H1 s1.heap.objs.size (.tup xs),I1.laid (t':=s1.toks) (λb u e=>M6 _ e) (M7 _) ?_,rfl,q _ hf⟩;exact⟨z,us,r,⟨_,O8 _ rfl,rfl,_,rfl⟩⟩
def Et(h:PA X es t):PE X (.List es pos) (L6 t):=by intro pins s σ H Q I hq;refine wpAny_List_spliced (thn (h pos pins s σ H _ I hq) λus s1 ⟨xs,H1,I1,r,z,q⟩=>⟨by rw[<- r.length];exact z,?_⟩);have hf:H1 s1.heap.objs.size=none:=I1.hok.fresh (M7 _);refine⟨.ref s1.heap.objs.size,upd H1 s1.heap.objs.size (.lst xs),I1.laid (t':=s1.toks) (λb u e=>M6 _ e) (M7 _) ?_,rfl,q _ hf⟩;exact⟨z,us,0,r,O8 _ rfl⟩
end
abbrev Sp:=List V->Hp->VK->XK->Prop
abbrev CXT:=List Env->Hp->Shared->XK->Value->Shared->Prop
structure nW(P:MV)(w:M_)(K:MQ)(mg:Mz)(base:Heap)(A:Nb)(outer:List Env)(s:MH)(H:Hp):Prop where
 frames:A.frames=some outer
 mod:Mod K mg base
 bs:∀b o,base.get? b=some o->s.heap.get? b=some o/\H b=none
 bsz:base.objs.size<=s.heap.objs.size
 eB:s.heap.FunFrames base outer
 frf:∀b∈frs outer,H b=none
 hok:HOk P w H s.heap
 bare:AllBare s.gens
def CE(outer:List Env)(P:MV)(w:M_)(H:Hp)(s:MH)(Q:VK)(u:Value)(s':MH):Prop:=
 ∃v H',s'.os=s.os/\AllBare s'.gens/\Un (frs outer) [] H H' s.heap s'.heap/\HOk P w H' s'.heap/\RelV v u/\Q v H'
def CR(CX:CXT)(outer:List Env)(P:MV)(w:M_)(H:Hp)(s:MH)(Q:VK)(E:XK)(r:Result)(s':MH):Prop:=
 match r with
 |.ok (.ret u)=>CE outer P w H s Q u s'
 |.ok _=>False
 |.error e=>CX outer H s E e s'
structure y8(P:MV)(w:M_)(K:MQ)(mg:Mz)(base:Heap)(CX:CXT)(k:Nat)(f:Addr)(fd:Na)(ps:MD)(sp:Sp):Prop where
 len:∀vs H Q E,sp vs H Q E->vs.length=ps.length
 run:∀(A:Nb)(outer:List Env)(s:MH)(H:Hp)(args:Args)(us:MJ)(vs:ML) (Q:VK) (E:XK),qQ k A->nW P w K mg base A outer s H->BindsTo s fd args (ps.zip us)->Vals vs us->sp vs H Q E->
  codeAny (model P w) A (.call (.ref f) args) (CR CX outer P w H s Q E) s
def y8.imp{P:MV}{w:M_}{K:MQ}{mg:Mz}{base:Heap}{CX:CXT}{k:Nat}{f:Addr}{fd:Na}{ps:MD}{sp sp':Sp}(F:y8 P w K mg base CX k f fd ps sp)
  (h:∀vs H Q E,sp' vs H Q E->sp vs H Q E):y8 P w K mg base CX k f fd ps sp':=
 ⟨λvs H Q E q=>F.len vs H Q E (h _ _ _ _ q),λA outer s H args us vs Q E hr he hb hv hs=>F.run A outer s H args us vs Q E hr he hb hv (h _ _ _ _ hs)⟩
def nW.make{P:MV}{w:M_}{K:MQ}{mg:Mz}{base:Heap}{A:Nb}{outer:List Env}{s:MH}{H:Hp}(e:nW P w K mg base A outer s H)(C:Addr)(us:MJ)(kw:Nu):
  nW P w K mg base (A.under (.builtin "type.__call__" ⟨.ref C::us,kw⟩)) outer s H:=⟨by first|exact e.frames|(simpa[Around.under,Code.envs,Code.isFrame,pushEnvs]using e.frames),e.mod,e.bs,e.bsz,e.eB,e.frf,e.hok,e.bare⟩
def Inv.nr(I:Inv X pins σ H s):nW X.prog X.w X.K X.mg X.base X.A X.stack s H:=
 ⟨I.ok.frames,I.ok.mod,I.bs,P7 I.ok.bsz I.sz,I.stack,I.UX,I.hok,I.bare⟩
def Inv.after(I:Inv X pins σ H s)(h:CE X.stack X.prog X.w H s Q u s'):EP X pins σ Q u s':=by obtain⟨v,H',os,bare,un,hok,r,q⟩:=h;obtain⟨hh,g,d,t,os'⟩:=s';obtain rfl:os'=s.os:=os;exact⟨v,H',I.call (h':=hh) (g':=g) (d':=d) (t':=t) (ch:=[]) un hok bare (λb z=>absurd z (by simp)),r,q⟩
def Hw(sp:Sp)(dvs:ML)(E:XK)(t:TA):TE:=λσ H Q=>t σ H λvs H1=>sp (vs++dvs) H1 Q E
def Hx(C:Addr)(sp:Sp)(dvs:ML)(E:XK)(t:TA):TE:=λσ H Q=>t σ H λvs H1=>∀x dx,H1 x=none->H1 dx=none->dx≠x->
 sp (.ref x::(vs++dvs)) (upd (upd H1 dx (.own x)) x (.ins C dx [])) (λv H2=>v=.non/\Q (.ref x) H2) E
def Binds(K:MQ)(fd:Na)(ps:MD)(ds:MJ):Prop:=
 ∀(s:MH)(us:MJ),K.In s.heap->(us++ds).length=ps.length->BindsTo s fd ⟨us,[]⟩ (ps.zip (us++ds))
def Binds.all{K:MQ}{fd:Na}{ps:MD}(h:∀us:List Value,us.length=ps.length->bindArgs fd ⟨us,[]⟩=pure (ps.zip us)):Binds K fd ps []:=λs us _ hl=>by rw[P4]at hl ⊢;exact .of_eq (h us hl)
def Passes(CX:CXT)(X:Cx)(E:XK):Prop:=∀(pins:My)(σ:St)(H:Hp)(s:MH)(e:Value)(s':MH),Inv X pins σ H s->CX X.stack H s E e s'->X.xe e s'
section
variable {X:Cx}{CX:CXT}{k:Nat}{f C:Addr}{fd:Na}{ps:MD}{sp:Sp}{dvs:ML}{ds:MJ}{E:XK}{x m:Str}{p pos jo:Pos}{e o:MR}{es:MK}{ta:TE}{t:TA}
def nX(F:y8 X.prog X.w X.K X.mg X.base CX k f fd ps sp)(hr:qQ k X.A)(hb:Binds X.K fd ps ds)(hd:Vals dvs ds)(hx:Passes CX X E)
  (I:Inv X pins σ H s) (r:Vals vs us) (h:sp (vs++dvs) H Q E):wpAny (NO X) X.A (call (.ref f) us) (EP X pins σ Q) X.xe s:=by
 have r2:Vals (vs++dvs) (us++ds):=r.append hd;have hl:(us++ds).length=ps.length:=by rw[<- r2.length];exact F.len _ _ _ _ h
 refine a0G (a0J (F.run X.A X.stack s H ⟨us,[]⟩ (us++ds) (vs++dvs) Q E hr I.nr (hb s us I.kIn hl) r2 h) λr s' hq=>?_);cases r with
 |error e=>exact hx pins σ H s e s' I hq
 |ok fl=>
  cases fl with
  |ret u=>exact I.after hq
  |next=>exact False.elim hq
  |brk=>exact False.elim hq
  |cont=>exact False.elim hq
def eF(F:y8 X.prog X.w X.K X.mg X.base CX k f fd ps sp)(hr:qQ k X.A)(hg:Gl X x)(hm:X.mg x=some (.ref f))(hk:PySem.W.keepIn X.K (.ref f)=true)(hb:Binds X.K fd ps ds)(hd:Vals dvs ds)(hx:Passes CX X E)
  (ha:PA X (e::es) t) (hdb:(x==("__debug__":Str))=false:=by decide) (he:starEach (e::es) X.env=(false,eval e X.env)::starEach es X.env:=by rfl) (hpl:(backTo pos (starEach es X.env)).any (·.1)=false:=by rfl):
  PE X (.Call (.Name x p) (e::es) [] pos) (Hw sp dvs E t):=by
 intro pins s σ H Q I h;refine a0h (J_ I hg hm ?_ hdb);refine a02 (h₀:=X.base) I.ok.mod.kin hk (thn (ha pos pins s σ H _ I h) λus s1 ⟨vs,H1,I1,r,q⟩=>⟨I1.kIn,?_⟩) he hpl;exact nX F hr hb hd hx I1 r q
structure Mk(K:MQ)(C f:Addr):Prop where
 makes:PySem.W.makesIn K C=true
 init:PySem.W.findIn K (.ref C) "__init__"=some (some (.ref f))
 fn:PySem.W.isFn K (.ref f)=true
 kp:PySem.W.keepIn K (.ref C)=true
def t9(M:Mk X.K C f)(F:y8 X.prog X.w X.K X.mg X.base CX k f fd ps sp)(hr:qQ (k+1) X.A)(hb:Binds X.K fd ps ds)(hd:Vals dvs ds)
  (hx:Passes CX X E) (I:Inv X pins σ H s) (r:Vals vs us)
  (h:∀x dx,H x=none->H dx=none->dx≠x->sp (.ref x::(vs++dvs)) (upd (upd H dx (.own x)) x (.ins C dx [])) (λv H2=>v=.non/\Q (.ref x) H2) E):
  wpAny (NO X) X.A (call (.ref C) us) (EP X pins σ Q) X.xe s:=by
 have hq:=h (s.heap.objs.size+1) s.heap.objs.size (I.hok.fresh (a0x _)) (I.hok.fresh (M7 _)) (O1 (a0r _));have I2:=Inv.made (C:=C) I;have r2:Vals (V.ref (s.heap.objs.size+1)::(vs++dvs)) (Value.ref (s.heap.objs.size+1)::(us++ds)):=.cons rfl (r.append hd);have hl:(Value.ref (s.heap.objs.size+1)::us++ds).length=ps.length:=by have e:=r2.length;rw[F.len _ _ _ _ hq]at e;exact e.symm
 refine a0G (t8 (f:=f) I.kIn M.makes M.init (R8.mp M.fn) (a0J (F.run _ X.stack _ _ ⟨Value.ref (s.heap.objs.size+1)::us,[]⟩ (Value.ref (s.heap.objs.size+1)::(us++ds)) _ _ E (hr.make C us [])
  (I2.nr.make C us []) (hb _ (Value.ref (s.heap.objs.size+1)::us) I2.kIn hl) r2 hq) λr s' hq'=>?_))
 cases r with
 |error e=>exact hx pins σ _ _ e s' I2 hq'
 |ok fl=>
  cases fl with
  |ret u=>obtain⟨v,H',I3,rv,ev,q3⟩:=I2.after hq';subst ev;exact⟨rv,⟨V.ref (s.heap.objs.size+1),H',I3,rfl,q3⟩⟩
  |next=>exact False.elim hq'
  |brk=>exact False.elim hq'
  |cont=>exact False.elim hq'
def nY(M:Mk X.K C f)(F:y8 X.prog X.w X.K X.mg X.base CX k f fd ps sp)(hr:qQ (k+1) X.A)(hg:Gl X x)(hm:X.mg x=some (.ref C))(hb:Binds X.K fd ps ds)(hd:Vals dvs ds)(hx:Passes CX X E)
  (ha:PA X (e::es) t) (hdb:(x==("__debug__":Str))=false:=by decide) (he:starEach (e::es) X.env=(false,eval e X.env)::starEach es X.env:=by rfl) (hpl:(backTo pos (starEach es X.env)).any (·.1)=false:=by rfl):
  PE X (.Call (.Name x p) (e::es) [] pos) (Hx C sp dvs E t):=by
 intro pins s σ H Q I h;refine a0h (J_ I hg hm ?_ hdb);refine a02 (h₀:=X.base) I.ok.mod.kin M.kp (thn (ha pos pins s σ H _ I h) λus s1 ⟨vs,H1,I1,r,q⟩=>⟨I1.kIn,?_⟩) he hpl;exact t9 M F hr hb hd hx I1 r q
end
def PK(X:Cx)(kws:List Keyword)(t:TA):Prop:=
 ∀(pos:Pos)(pins:My)(s:MH)(σ:St)(H:Hp)(Q:List V->Hp->Prop),Inv X pins σ H s->t σ H Q->wpAny (NO X) X.A (evalAll ((backToKw pos (keywordEach kws X.env)).map (·.2))) (AP X pins σ Q) X.xe s
section
variable {X:Cx}{CX:CXT}{k:Nat}{f C:Addr}{fd:Na}{ps ks:MD}{sp:Sp}{E:XK}{x m:Str}{p pos jo kpos:Pos}{e o:MR}{es:MK}{kws:List Keyword}{te ta:TE}{t tk:TA}{nm:Option Str}
def Eu:PK X [] DV:=λ_ _ _ _ H Q I h=>wpAny_evalAll_nil ⟨[],H,I,.nil,h⟩
def BR(ha:PE X e te)(hr:PK X kws t):PK X (⟨nm,e,kpos⟩::kws) (bU te t):=by intro pos pins s σ H Q I h;show wpAny _ _ (evalAll ((do let v<-eval e X.env;standAt pos;pure v)::(backToKw pos (keywordEach kws X.env)).map (·.2))) _ _ s;refine a2U (f8 (thn (ha pins s σ H _ I h) λu s1 ⟨x,H1,I1,r1,q1⟩=>f8 (a0Y (M9 ?_))));exact thn (hr pos pins s1 σ H1 _ I1 q1) λus s2 ⟨xs,H2,I2,r2,q2⟩=>⟨x::xs,H2,I2,.cons r1 r2,q2⟩
variable {g:List Value->List Value->List Value}{gV:List V->List V->List V}
end
structure zk(N P:MD)(sc:Scope):Prop where
 kind:sc.kind=.function
 co:sc.isCoroutine=false
 gen:sc.isGenerator=false
 nd:N.Nodup
 pre:N.take P.length=P
 par:∀x∈P,sc.names.lookup x=some .local\/sc.names.lookup x=some .cell
 GN:∀y∈sc.names,y.2≠.free
def bV{kindOf:Nz}{x:Str}:∀{binds:Nu}{m:Mz},(∀v,(x,v)∉binds)->bindL kindOf binds m x=m x
 |[],_,_=>rfl
 | (n,v)::r,m,h=>by
  unfold bindL;rw[bV λw hw=>h w (M8 _ hw)];split
  .have:x≠n:=by rintro rfl;exact h v M3
   simp[this]
  .rfl
def bW{kindOf:Nz}{x:Str}:∀{binds:Nu}{m:Mz},(∀v,(x,v)∉binds)->bindC kindOf binds m x=m x
 |[],_,_=>rfl
 | (n,v)::r,m,h=>by
  unfold bindC;rw[bW λw hw=>h w (M8 _ hw)];split
  .rfl
  .have:x≠n:=by rintro rfl;exact h v M3
   simp[this]
def bX{kindOf:Nz}{x:Str}{v:Value}:∀{P:MD}{vs:MJ}{i:Nat}{m:Mz},P.Nodup->P[i]?=some x->vs[i]?=some v->kindOf x=some .local->
  bindL kindOf (P.zip vs) m x=some v
 |[],_,_,_,_,h,_,_=>by simp at h
 |_::_,[],_,_,_,_,h,_=>by simp at h
 |p::P,w::vs,0,m,nd,h1,h2,hk=>by simp at h1 h2;subst h1;subst h2;show bindL kindOf ((p,w)::P.zip vs) m p=_;unfold bindL;rw[bV λv hv=>(a0b.mp nd).1 (a2l hv).1,if_pos hk];simp
 |p::P,w::vs,i+1,m,nd,h1,h2,hk=>by show bindL kindOf ((p,w)::P.zip vs) m x=_;unfold bindL;exact bX (i:=i) (a0b.mp nd).2 (by simpa using h1) (by simpa using h2) hk
def bY{kindOf:Nz}{x:Str}{v:Value}:∀{P:MD}{vs:MJ}{i:Nat}{m:Mz},P.Nodup->P[i]?=some x->vs[i]?=some v->kindOf x≠some .local->
  bindC kindOf (P.zip vs) m x=some v
 |[],_,_,_,_,h,_,_=>by simp at h
 |_::_,[],_,_,_,_,h,_=>by simp at h
 |p::P,w::vs,0,m,nd,h1,h2,hk=>by simp at h1 h2;subst h1;subst h2;show bindC kindOf ((p,w)::P.zip vs) m p=_;unfold bindC;rw[bW λv hv=>(a0b.mp nd).1 (a2l hv).1,if_neg hk];simp
 |p::P,w::vs,i+1,m,nd,h1,h2,hk=>by show bindC kindOf ((p,w)::P.zip vs) m x=_;unfold bindC;exact bY (i:=i) (a0b.mp nd).2 (by simpa using h1) (by simpa using h2) hk
def start(N:MD)(vs:ML):St:=vs.map some++List.replicate (N.length-vs.length) none
def U3(CX:CXT)(P:MV)(w:M_)(K:MQ)(mg:Mz)(base:Heap)(N:MD)(qual:Str)(scope:Scope)(f:Addr)(cd:Value)(A:Nb)(outer:List Env)(s:MH)(H:Hp)(E:XK):Cx where
 prog:=P
 w:=w
 K:=K
 mg:=mg
 base:=base
 A:=A.deeper (envOfC qual scope s.heap.objs.size f cd)
 N:=N
 s₀:=s
 H₀:=H
 env:=envOfC qual scope s.heap.objs.size f cd
 outer:=outer
 stack:=envOfC qual scope s.heap.objs.size f cd::outer
 ex:=[]
 calm:=true
 fn:=λ_=>true
 pn:=[]
 xe:=λe s'=>wpAny (model P w) (A.deeper (envOfC qual scope s.heap.objs.size f cd)) (leaving (envOfC qual scope s.heap.objs.size f cd) e) (λ_ s''=>CX outer H s E e s'') (λe' s''=>CX outer H s E e' s'') s'
def gC{sc:Scope}{n:Nat}{x:Str}(h:sc.names.lookup x=some .cell):∃c,(cellsFrom n sc.names []).lookup x=some c:=by have q:=a1t sc.names n [] (.inl h);exact a0m.mp q
def bZ{CX:CXT}{P:MV}{w:M_}{K:MQ}{mg:Mz}{base:Heap}{N ps:MD}{qual:Str}{scope:Scope}{f:Addr}{cd:Value}{A:Nb}{outer:List Env}{s s1:MH}{H:Hp}{E:XK}{us:MJ}{vs:ML}
  (S:zk N ps scope) (hd:A.handled=none) (e0:nW P w K mg base A outer s H) (hl:vs.length=ps.length) (r:Vals vs us)
  (x:InCallC s s.heap.objs.size (bindL (envOfC qual scope s.heap.objs.size f cd).kindOf (ps.zip us) λ_=>none) (cellsFrom (s.heap.objs.size+1) scope.names []) (bindC (envOfC qual scope s.heap.objs.size f cd).kindOf (ps.zip us) λ_=>none) s1):
  Inv (U3 CX P w K mg base N qual scope f cd A outer s H E) [] (start N vs) H s1:=by
 have hpl:ps.length<=N.length:=by have:=T6 List.length S.pre;rw[a0c]at this;omega
 obtain⟨h1,tk,rfl,hk⟩:=x.done;have noA:∀b:Addr,b∉(U3 CX P w K mg base N qual scope f cd A outer s H E).ex:=λb z=>absurd (show b∈([]:List Addr)from z) (by simp);refine⟨⟨e0.mod,S.kind,rfl,rfl,M7 _,λy z c h1 h2=>?_,λy hy=>?_,λy c _ h=>?_,λ_=>hd,Around.frames_deeper e0.frames,.inr ⟨rfl,rfl⟩,λb z=>absurd z (noA b),e0.bs,e0.bsz,λb _ _=>noA b,λb z=>absurd z (noA b),e0.eB,e0.frf⟩,
  rfl,e0.bare,Un.kept hk,⟨_,x.toInCall.ns,λi y v h1 h2 h3=>?_⟩,λy c h=>⟨_,x.cell y c h⟩,e0.hok.fresh (M7 _),λy c h=>?_,λp hp=>absurd (show p∈([]:List (Addr×Obj))from hp) (by simp),e0.hok.kept hk,?_⟩
 .exact name_of_addr x.apart (a0W h1) (a0W h2)
 .have hy:scope.names.lookup y=some .cell\/scope.names.lookup y=some .free:=hy;rcases hy with hy|hy
  .exact gC hy
  .exact absurd rfl (S.GN _ (a0W hy))
 .exact a1j (x.above y c (a0W h))
 .have hi:i<vs.length:=by
   unfold start at h2;by_cases hi:i<vs.length
   .exact hi
   .rw[a0P (by simpa using hi)]at h2;rw[a0B]at h2;split at h2<;>cases h2
  have ha:vs[i]?=some v:=by
   unfold start at h2;rw[T5 (by simpa using hi),P2]at h2;cases e:vs[i]? with
   |none=>rw[e]at h2;cases h2
   |some a=>rw[e]at h2;cases h2;rfl
  obtain⟨u,hu,rv⟩:=r.get ha;have hp:ps[i]?=some y:=by rw[<- S.pre,List.getElem?_take_of_lt (by omega)];exact h1
  have ndP:ps.Nodup:=by rw[<- S.pre];exact S.nd.sublist (List.take_sublist _ _)
  refine⟨u,rv,?_⟩;rcases S.par y (a0y hp)with k|k
  .exact .inl ⟨k,bX ndP hp hu k⟩
  .obtain⟨c,e⟩:=gC (n:=s.heap.objs.size+1) k;refine .inr ⟨.inl k,c,e,?_⟩;have q:=x.cell y c e;rw[bY ndP hp hu (by show scope.names.lookup y≠_;rw[k];decide)]at q;exact q
 .exact e0.hok.fresh (a1j (x.above y c (a0W h)))
 .unfold start;show _=N.length;rw[O6,u8,a0N];omega
def Ew{CX:CXT}{P:MV}{w:M_}{K:MQ}{mg:Mz}{base:Heap}{k:Nat}{f:Addr}{name qual:Str}{params:Arguments}{body:Nk}{scope:Scope}{dV kV doc pm cdv ct oc:Value}{an od:Np}
  {osl:Ng}{N ps:MD}{sp:Sp}(lk:K.lookup f=some ⟨oc,od,.func (PySem.W.fnOf name qual params body scope dV kV doc pm an cdv ct),osl⟩) (hcd:PySem.W.codeIn K cdv qual=true) (S:zk N ps scope)
  (len:∀vs H Q E,sp vs H Q E->vs.length=ps.length)
  (J3:∀(A:Nb)(outer:List Env)(s:MH)(H:Hp)(vs:ML)(Q:VK)(E:XK),qQ k (A.deeper (envOfC qual scope s.heap.objs.size f cdv))->sp vs H Q E->
   ∃t,PSs (U3 CX P w K mg base N qual scope f cdv A outer s H E) body t/\t { nx:=λ_ H'=>Q .non H',rt:=Q } (start N vs) H):
  y8 P w K mg base CX (k+1) f (PySem.W.fnOf name qual params body scope dV kV doc pm an cdv ct) ps sp:=by
 refine⟨len,λA outer s H args us vs Q E hr e0 hb r hsp=>?_⟩;have hl:=len _ _ _ _ hsp;have KX:K.In s.heap:=e0.mod.kin.keeps λb o e=>(e0.bs b o e).1;have lim:s.heap.NoLimit:=e0.mod.nolimit.keeps λb o e=>(e0.bs b o e).1;have hkind:∀y∈ps.zip us,scope.names.lookup y.1=some .local\/(scope.names.lookup y.1=some .cell/\((cellsFrom (s.heap.objs.size+1) scope.names []).lookup y.1).isSome=true):=λ⟨n,v⟩ hy=>by
  rcases S.par n (a2l hy).1 with q|q
  .exact .inl q
  .exact .inr ⟨q,a1t _ _ _ (.inl q)⟩
 refine codeAny_call_function hr.depth (KX _ _ lk) rfl S.co S.gen rfl (PySem.W.codeRec_of KX hcd) (hb _ _ _ _ ?_);refine a1Q S.kind hkind λenv he s1 x=>?_;subst he;refine⟨lim.keeps x.toInCall.keep,codeAny_func ?_⟩;obtain⟨t,ht,hq⟩:=J3 A outer s H vs Q E (hr.deeper _) hsp;have I:Inv (U3 CX P w K mg base N qual scope f cdv A outer s H E) [] (start N vs) H s1:=bZ S hr.hd e0 hl r x;refine T2 (ht [] s1 (start N vs) H _ I hq) (λfl s' hs=>?_) λe s' hs=>hs;have fin:∀{σ':St}{H':Hp}{v:V}{u:Value},Inv (U3 CX P w K mg base N qual scope f cdv A outer s H E) [] σ' H' s'->RelV v u->Q v H'->CE outer P w H s Q u s':=
  λ{σ' H' v u} J rv q=>⟨v,H',J.os,J.bare,J.base,J.hok,rv,q⟩
 cases fl with
 |ret u=>obtain⟨v,σ',H',J,rv,q⟩:=hs;exact fin J rv q
 |next=>obtain⟨σ',H',J,q⟩:=hs;exact fin (v:=V.non) (u:=Value.none) J rfl q
 |brk=>obtain⟨_,_,_,q⟩:=hs;exact False.elim q
 |cont=>obtain⟨_,_,_,q⟩:=hs;exact False.elim q
section
variable {X:Cx}{x:Str}{p pos:Pos}{e:MR}{es:MK}{t:TA}{id T:String}{r:List V->Hp->VK->Prop}
def tCB(r:List V->Hp->VK->Prop)(t:TA):TE:=λσ H Q=>t σ H λvs H1=>r vs H1 Q
def gD(hc:wq X (.builtin id) r)(hg:Gl X x)(hm:X.mg x=none)(hv:bootBuiltins x=some (.builtin id))(ha:PA X (e::es) t)(hn:x≠"__name__":=by decide)(hdb:(x==("__debug__":Str))=false:=by decide)
  (he:starEach (e::es) X.env=(false,eval e X.env)::starEach es X.env:=by rfl) (hpl:(backTo pos (starEach es X.env)).any (·.1)=false:=by rfl):PE X (.Call (.Name x p) (e::es) [] pos) (tCB r t):=by
 intro pins s σ H Q I h;refine a0h (Kz I hg hm hv ?_ hn hdb);exact PyProof.Rows.callWith_builtin1 (thn (ha pos pins s σ H _ I h) λus s1 ⟨vs,H1,I1,r1,q1⟩=>hc pins s1 σ H1 vs us Q I1 r1 q1) he hpl
def V2(hc:wq X (.type T) r)(hg:Gl X x)(hm:X.mg x=none)(hv:bootBuiltins x=some (.type T))(ha:PA X (e::es) t)(hn:x≠"__name__":=by decide)(hdb:(x==("__debug__":Str))=false:=by decide)
  (he:starEach (e::es) X.env=(false,eval e X.env)::starEach es X.env:=by rfl) (hpl:(backTo pos (starEach es X.env)).any (·.1)=false:=by rfl):PE X (.Call (.Name x p) (e::es) [] pos) (tCB r t):=by
 intro pins s σ H Q I h;refine a0h (Kz I hg hm hv ?_ hn hdb);exact a0I (thn (ha pos pins s σ H _ I h) λus s1 ⟨vs,H1,I1,r1,q1⟩=>hc pins s1 σ H1 vs us Q I1 r1 q1) he hpl
end
end L2
namespace HT
open PySem PyProof.Rows
section
open PySem.SeqAt
open PySem.AutoSeq1 (wpAny_loadPart')
open PySem.MeetsSeq PySem.MeetsSeq2 PySem.MeetsSeq3
end
section
variable {prog:MV}{w:M_}{A:Nb}{E:MC}{s:MH}
def sIx(n d:Nat):Option Int->Nat
 |none=>d
 |some v=>if v<0 then(v+(n:Int)).toNat else min v.toNat n
end
end HT
namespace L2
open PySem PySem.Spec PyProof.Rows
abbrev TO:=St->Hp->(Option Int->Hp->Prop)->Prop
def PO(X:Cx)(e:NH)(t:TO):Prop:=
 ∀(pins:My)(s:MH)(σ:St)(H:Hp)(Q:Option Int->Hp->Prop),Inv X pins σ H s->t σ H Q->
  wpAny (NO X) X.A (evalPart e X.env) (λu s'=>∃o H',Inv X pins σ H' s'/\IsPart u o/\Q o H') X.xe s
def BS:TO:=λ_ H Q=>Q none H
def Hy(t:TE):TO:=λσ H Q=>t σ H λx H1=>∃i,x=.int i/\Q (some i) H1
section
variable {X:Cx}{e:MR}{te:TE}{lo hi:NH}{tl th:TO}{pos p2:Pos}
def BU:PO X none BS:=by intro pins s σ H Q I h;rw[evalPart_none];exact M9 ⟨none,H,I,.none,h⟩
def BV(h:PE X e te):PO X (some e) (Hy te):=by intro pins s σ H Q I hw;rw[evalPart_some];refine thn (h pins s σ H _ I hw) λu s1 ⟨x,H1,I1,r1,q1⟩=>?_;obtain⟨i,rfl,q⟩:=q1;obtain⟨t,rfl⟩:=r1;exact⟨some i,H1,I1,.int i t,q⟩
def SlR(X:Cx)(r:V->Option Int->Option Int->Hp->VK->Prop):Prop:=
 ∀(pins:My)(s:MH)(σ:St)(H:Hp)(x:V)(v vl vu:Value)(lo hi:Nx) (sl:Addr) (Q:VK),Inv X pins σ H s->RelV x v->s.heap.IsSliceOf sl vl vu .none->IsPart vl lo->IsPart vu hi->r x lo hi H Q->
  ∃T id,typeLookup (.type T) "__getitem__"=pure (some (.builtin id))/\s.TypeIs v T/\wpAny (NO X) X.A (getItem v (.ref sl)) (EP X pins σ Q) X.xe s
def SlR.or(h:SlR X r)(h':SlR X r'):SlR X (λx lo hi H Q=>r x lo hi H Q\/r' x lo hi H Q):=by
 intro pins s σ H x v vl vu lo hi sl Q I rx hs pl pu q;rcases q with q|q
 .exact h pins s σ H x v vl vu lo hi sl Q I rx hs pl pu q
 .exact h' pins s σ H x v vl vu lo hi sl Q I rx hs pl pu q
def tSl(r:V->Option Int->Option Int->Hp->VK->Prop)(te:TE)(tl th:TO):TE:=λσ H Q=>te σ H λx H1=>tl σ H1 λl H2=>th σ H2 λu H3=>r x l u H3 Q
def gE(hr:SlR X r)(he:PE X e te)(hl:PO X lo tl)(hu:PO X hi th):PE X (.Subscript e (.Slice lo hi none p2) pos) (tSl r te tl th):=by intro pins s σ H Q I h;refine Subscript_ (thn (he pins s σ H _ I h) λv s1 ⟨x,H1,I1,r1,q1⟩=>?_);refine wpAny_Slice (thn (hl pins s1 σ H1 _ I1 q1) λvl s2 ⟨l,H2,I2,pl,q2⟩=>thn (hu pins s2 σ H2 _ I2 q2) λvu s3 ⟨u,H3,I3,pu,q3⟩=>?_);rw[evalPart_none];refine M9 ?_;have I4:Inv X pins σ H3 { s3 with heap:=s3.heap.push { cls:=.type "slice",data:=.fields #[vl,vu,.none] } }:=I3.kept (t':=s3.toks) λb ob q=>M6 _ q;obtain⟨T,id,hT,ht,hg⟩:=hr pins { s3 with heap:=s3.heap.push { cls:=.type "slice",data:=.fields #[vl,vu,.none] } } σ H3 x v vl vu l u s3.heap.objs.size Q I4 r1 (Heap.IsSliceOf.new ..) pl pu q3;show wpAny (NO X) X.A (subscriptTail e (.Slice lo hi none p2) v (.ref s3.heap.objs.size)) (EP X pins σ Q) X.xe { s3 with heap:=s3.heap.push { cls:=.type "slice",data:=.fields #[vl,vu,.none] } };exact tail_any (ops:=[.ref s3.heap.objs.size,v]) ht hT hg (by with_unfolding_all rfl)
def Aw(xs:ML)(lo hi:Nx):List V:=(xs.drop (HT.sIx xs.length 0 lo)).take (HT.sIx xs.length xs.length hi-HT.sIx xs.length 0 lo)
def eG(xs:ML)(lo hi:Nx):(Aw xs lo hi).length<=xs.length:=by unfold Aw;rw[a0c,a0U];omega
end
def ixN(n:Nat)(i:Int):Option Nat:=if 0<=i then(if i<n then some i.toNat else none)else if -(n:Int)<=i then some (i+n).toNat else none
def atI{α:Type}(xs:List α)(i:Int):Option α:=(ixN xs.length i).bind λj=>xs[j]?
def nZ(h:ixN n i=some j):seqIndex? i n=some j/\j<n/\-(n:Int)<=i/\i<n:=by
 unfold ixN at h;by_cases h0:0<=i
 .rw[if_pos h0]at h;by_cases h1:i<n
  .rw[if_pos h1]at h;have e:i.toNat=j:=T1 h;exact⟨by rw[a20 h0 h1,e],by omega,by omega,h1⟩
  .rw[if_neg h1]at h;cases h
 .rw[if_neg h0]at h;by_cases h1:-(n:Int)<=i
  .rw[if_pos h1]at h;have e:(i+n).toNat=j:=T1 h;exact⟨by rw[a2V (by omega) h1,e],by omega,h1,by omega⟩
  .rw[if_neg h1]at h;cases h
def eI{α:Type}{xs:List α}{v:α}(h:atI xs i=some v):∃j,seqIndex? i xs.length=some j/\xs[j]?=some v/\j<xs.length/\-(xs.length:Int)<=i/\i<xs.length:=by
 unfold atI at h;cases e:ixN xs.length i with
 |none=>rw[e]at h;cases h
 |some j=>rw[e]at h;obtain⟨h1,h2,h3,h4⟩:=nZ e;exact⟨j,h1,h,h2,h3,h4⟩
def V3(b:MR):Prop:=∀o i,subscripted b false o i=operate [o,i] (getItem o i)
def IxR(X:Cx)(r:R2):Prop:=
 ∀(value slice:MR)(pins:My)(s:MH)(σ:St)(H:Hp)(x y:V)(v u:Value) (Q:VK),Inv X pins σ H s->RelV x v->RelV y u->r x y H Q->
  subscripted slice false v u=operate [v,u] (getItem v u)->wpAny (NO X) X.A (subscriptTail value slice v u) (EP X pins σ Q) X.xe s
def MtR(X:Cx)(id:String)(r:V->List V->Hp->VK->Prop):Prop:=
 ∀(pins:My)(s:MH)(σ:St)(H:Hp)(x:V)(xs:ML)(v:Value) (us:MJ) (Q:VK),Inv X pins σ H s->RelV x v->Vals xs us->r x xs H Q->
  wpAny (NO X) X.A (call (.builtin id) (v::us)) (EP X pins σ Q) X.xe s
section
variable {X:Cx}{a b:MR}{ta tb:TE}{pos:Pos}
def IxR.or(h:IxR X r)(h':IxR X r'):IxR X (λx y H Q=>r x y H Q\/r' x y H Q):=by
 intro value slice pins s σ H x y v u Q I rx ry q hs;rcases q with q|q
 .exact h value slice pins s σ H x y v u Q I rx ry q hs
 .exact h' value slice pins s σ H x y v u Q I rx ry q hs
def BW(hr:IxR X r)(ha:PE X a ta)(hb:PE X b tb)(hs:V3 b):PE X (.Subscript a b pos) (tOp r ta tb):=by intro pins s σ H Q I h;exact Subscript_ (Hs ha hb I h λv u s2 x y H2 I2 rx ry q=>hr a b pins s2 σ H2 x y v u Q I2 rx ry q (hs _ _))
def Ld(K:MQ):R2:=λx y H Q=>∃p xs i v,x=.ref p/\y=.int i/\SqL K H p xs/\atI xs i=some v/\Q v H
def Le(K:MQ):R2:=λx y H Q=>∃p xs i v,x=.ref p/\y=.int i/\SqT K H p xs/\atI xs i=some v/\Q v H
def Lf:R2:=λx y H Q=>∃z i c,x=.str z/\y=.int i/\z.length<=sizeLine/\atI z.cps.toList i=some c/\Q (.str ⟨#[c]⟩) H
def BX:IxR X (Ld X.K):=by
 intro value slice pins s σ H x y v u Q I rx ry h hs;obtain⟨p,xs,i,z,rfl,rfl,hq,he,q⟩:=h;cases rx;obtain⟨t,rfl⟩:=ry;obtain⟨its,r,pl,hz⟩:=I.list hq;obtain⟨j,h1,h2,h3,h4,h5⟩:=eI he;obtain⟨w,ew,rw'⟩:=r.get h2;have hl:=r.length;have hn:=bS;have fin:EP X pins σ Q w s:=⟨z,H,I,rw',q⟩;by_cases h0:0<=i
 .have hj:i.toNat=j:=by rw[a20 h0 h5]at h1;exact T1 h1
  exact item_listR pl.isList h0 (by omega) (by rw[hj];simpa using ew) fin hs
 .have hj:(i+(its.toArray.size:Int)).toNat=j:=by rw[a2V (by omega) h4]at h1;rw[O4,<- hl];exact T1 h1
  exact a2o (x:=w) pl.isList.typeIs slot_list_getitem.lookup
   (wpAny_getItem_list_neg (Q:=λr s'=>r=w/\EP X pins σ Q r s') pl.isList (by omega) (by rw[O4]<;>omega) (by omega) (by rw[hj];simpa using ew) ⟨rfl,fin⟩) hs
def Ex:IxR X (Le X.K):=by
 intro value slice pins s σ H x y v u Q I rx ry h hs;obtain⟨p,xs,i,z,rfl,rfl,hq,he,q⟩:=h;cases rx;obtain⟨t,rfl⟩:=ry;obtain⟨its,r,pl,hz⟩:=I.tuple hq;obtain⟨j,h1,h2,h3,h4,h5⟩:=eI he;obtain⟨w,ew,rw'⟩:=r.get h2;have hl:=r.length;have hn:=bS;have fin:EP X pins σ Q w s:=⟨z,H,I,rw',q⟩;exact a2o (x:=w) pl.typeIs slot_tuple_getitem.lookup
  (getItem_tuple (j:=j) (Q:=λr s'=>r=w/\EP X pins σ Q r s') pl (by omega) (by omega) (by rw[O4,<- hl];exact h1) (by simpa using ew) ⟨rfl,fin⟩) hs
def gG:IxR X Lf:=by
 intro value slice pins s σ H x y v u Q I rx ry h hs;obtain⟨z,i,c,rfl,rfl,hz,he,q⟩:=h;obtain⟨t,rfl⟩:=rx;obtain⟨t',rfl⟩:=ry;obtain⟨j,h1,h2,h3,h4,h5⟩:=eI he;have hl:z.cps.toList.length=z.length:=by simp[Str.length]
 rw[hl]at h1 h4 h5;have hn:=bS;exact tail_any (typeIs_str s z t) slot_str_getitem.lookup (getItem_str (c:=c) (by
  have e1:decide (i < -(2 ^ 63:Int))=false:=N8 (by omega);have e2:decide (i ≥ 2 ^ 63)=false:=N8 (by omega);rw[e1,e2,Bool.or_false]) (by rw[h1];simpa using h2) ⟨.str ⟨#[c]⟩,H,I.tok _,⟨_,rfl⟩,q⟩) hs
def rIx(K:MQ):R2:=λx y H Q=>Ld K x y H Q\/Le K x y H Q\/Lf x y H Q
def Ax:IxR X (rIx X.K):=BX.or (Ex.or gG)
def l0(its:MJ)(n j:Nat)(u:Value):Obj.mapSeq (·.setIfInBounds j u) { cls:=.type "list",data:=.seq its.toArray n }={ cls:=.type "list",data:=.seq (its.set j u).toArray n }:=by simp[Obj.mapSeq]
def Inv.lst(I:Inv X pins σ H s)(h:H p=some (.lst xs)):
  ∃(its:MJ)(n:Nat),Vals xs its/\s.heap.get? p=some { cls:=.type "list",data:=.seq its.toArray n }/\xs.length<=sizeLine:=by
 obtain⟨z,its,n,r,e⟩:=I.hok p _ h;exact⟨its,n,r,e,z⟩
def Inv.Ey{pins:My}{σ:St}{H:Hp}{s:MH}{p:Addr}{xs ys:ML}{its its':MJ}{n n':Nat}{f:Obj->Obj}(I:Inv X pins σ H s)(h:H p=some (.lst xs))
  (ho:s.heap.get? p=some { cls:=.type "list",data:=.seq its.toArray n }) (hf:f { cls:=.type "list",data:=.seq its.toArray n }={ cls:=.type "list",data:=.seq its'.toArray n' }) (r:Vals ys its') (hz:ys.length<=sizeLine) (t:Nat):
  Inv X pins σ (upd H p (.lst ys)) { s with heap:=s.heap.update p f,toks:=t }:=by
 have e:(s.heap.update p f).get? p=some { cls:=.type "list",data:=.seq its'.toArray n' }:=by rw[a0j f ho (by rw[hf]<;>rfl),hf]
 refine I.write (x:=p) (e:=p) (by rw[h];trivial) (.inl rfl) (λb u hb q=>(P8 _ _ (Ne.symm hb)).trans q) ⟨_,e⟩ ?_;exact⟨hz,its',n',r,e⟩
def Hz:V->V->V->Hp->(Hp->Prop)->Prop:=λo i v H Q=>∃p xs k j,o=.ref p/\i=.int k/\H p=some (.lst xs)/\ixN xs.length k=some j/\Q (upd H p (.lst (xs.set j v)))
def set_list:I_ X Hz:=by
 intro pins s σ H o i v ov iv u Q I ro ri rv h;obtain⟨p,xs,k,j,rfl,rfl,hp,hj,q⟩:=h;cases ro;obtain⟨t,rfl⟩:=ri;obtain⟨its,n,r,ho,hz⟩:=I.lst hp;obtain⟨h1,h2,h3,h4⟩:=nZ hj;have hl:=r.length;have hn:=bS;have I':Inv X pins σ (upd H p (.lst (xs.set j v))) { s with heap:=s.heap.update p (Obj.mapSeq (·.setIfInBounds j u)) }:=
  I.Ey hp ho (l0 its n j u) (r.set rv j) (by rw[P1];exact hz) s.toks
 by_cases h0:0<=k
 .have hk:k.toNat=j:=by rw[a20 h0 h4]at h1;exact T1 h1
  exact PySem.W.ki_setAt ho h0 (by omega) (by rw[O4,<- hl];exact h4) (by rw[hk];exact⟨_,I',q⟩)
 .have hk:(k+(its.toArray.size:Int)).toNat=j:=by rw[a2V (by omega) h3]at h1;rw[O4,<- hl];exact T1 h1
  exact PySem.W.ki_setBack ho (by omega) (by rw[O4,<- hl];exact h3) (by omega) (by rw[hk];exact⟨_,I',q⟩)
def b7(lo hi:Nx)(n:Nat):(sliceBounds lo hi none n).1=((HT.sIx n 0 lo:Nat):Int)/\(sliceBounds lo hi none n).2.1=((HT.sIx n n hi:Nat):Int)/\(sliceBounds lo hi none n).2.2=1:=by
 refine⟨?_,?_,rfl⟩
 .cases lo with
  |none=>simp[sliceBounds,HT.sIx]
  |some i=>
   simp only[sliceBounds,HT.sIx,Option.getD_none,show(1:Int)>0 by decide,if_true];by_cases h:i<0
   .simp only[h,if_true]<;>omega
   .simp only[h,if_false]<;>omega
 .cases hi with
  |none=>simp[sliceBounds,HT.sIx]
  |some i=>
   simp only[sliceBounds,HT.sIx,Option.getD_none,show(1:Int)>0 by decide,if_true];by_cases h:i<0
   .simp only[h,if_true]<;>omega
   .simp only[h,if_false]<;>omega
def U4(its:MJ)(lo hi:Nx):slicePick its.toArray lo hi none=((its.drop (HT.sIx its.length 0 lo)).take (HT.sIx its.length its.length hi-HT.sIx its.length 0 lo)).toArray:=by obtain⟨h1,h2,h3⟩:=b7 lo hi its.toArray.size;unfold slicePick;rw[h1,h2,h3];simp only[sliceRange_one,pick_run,List.size_toArray]<;>rfl
def L7(K:MQ):V->Option Int->Option Int->Hp->VK->Prop:=λx lo hi H Q=>∃a xs,x=.ref a/\SqL K H a xs/\∀p,H p=none->Q (.ref p) (upd H p (.lst (Aw xs lo hi)))
def n4:SlR X (L7 X.K):=by intro pins s σ H x v vl vu lo hi sl Q I rx hs pl pu h;obtain⟨a,xs,rfl,hx,q⟩:=h;cases rx;obtain⟨its,r,ht,hz⟩:=I.list hx;have hlen:=r.length;refine⟨"list",_,slot_list_getitem.lookup,ht.isList.typeIs,?_⟩;refine wpAny_getItem_list_slice ht.isList hs pl pu .none (by simp) ?_ (by rw[List.size_toArray]<;>omega);rw[U4,<- hlen];refine⟨.ref s.heap.objs.size,_,I.laid (t':=s.toks) (o:=.lst (Aw xs lo hi)) (λb ob q=>M6 _ q) (M7 _) ?_,rfl,q _ (I.hok.fresh (M7 _))⟩;exact⟨P7 (eG xs lo hi) hz,_,0,(r.drop (HT.sIx xs.length 0 lo)).take (HT.sIx xs.length xs.length hi-HT.sIx xs.length 0 lo),O8 _ rfl⟩
def Vn:V->Bool
 |.non=>true
 |.bl _=>true
 |.int _=>true
 |.str _=>true
 |_=>false
def eqV:V->V->Bool
 |.non,.non=>true
 |.bl a,.bl b=>a==b
 |.bl a,.int b=>(if a then 1 else 0)==b
 |.int a,.bl b=>a==(if b then 1 else 0)
 |.int a,.int b=>a==b
 |.str a,.str b=>a==b
 |_,_=>false
def Ay(ry:RelV y u)(rx:RelV x v)(fy:Vn y=true)(fx:Vn x=true):SeqAt.EqAt A s u v (eqV y x):=by
 cases y with
 |non=>
  cases ry;cases x with
  |non=>cases rx;exact SeqAt.EqAt.same _
  |bl b=>cases rx;exact SeqAt.EqAt.none_bool b
  |int b=>obtain⟨t,rfl⟩:=rx;exact SeqAt.EqAt.none_int b t
  |str b=>obtain⟨t,rfl⟩:=rx;exact SeqAt.EqAt.none_str b t
  |_=>exact absurd (show false=true from fx) O2
 |bl a=>
  cases ry;cases x with
  |non=>cases rx;exact SeqAt.EqAt.bool_none a
  |bl b=>cases rx;exact SeqAt.EqAt.bool_bool a b
  |int b=>obtain⟨t,rfl⟩:=rx;exact SeqAt.EqAt.bool_int a b t
  |str b=>obtain⟨t,rfl⟩:=rx;exact SeqAt.EqAt.bool_str a b t
  |_=>exact absurd (show false=true from fx) O2
 |int a=>
  obtain⟨t',rfl⟩:=ry;cases x with
  |non=>cases rx;exact SeqAt.EqAt.int_none a t'
  |bl b=>cases rx;exact SeqAt.EqAt.int_bool a t' b
  |int b=>obtain⟨t,rfl⟩:=rx;exact SeqAt.EqAt.int_int a t' b t
  |str b=>obtain⟨t,rfl⟩:=rx;exact a2O a t' b t
  |_=>exact absurd (show false=true from fx) O2
 |str a=>
  obtain⟨t',rfl⟩:=ry;cases x with
  |non=>cases rx;exact SeqAt.EqAt.str_none a t'
  |bl b=>cases rx;exact SeqAt.EqAt.str_bool a t' b
  |int b=>obtain⟨t,rfl⟩:=rx;exact a2P a t' b t
  |str b=>obtain⟨t,rfl⟩:=rx;exact SeqAt.EqAt.str_str a t' b t
  |_=>exact absurd (show false=true from fx) O2
 |_=>exact absurd (show false=true from fy) O2
def eqU(x:V)(u:Value):Bool:=match u with
 |.none=>eqV .non x
 |.bool b=>eqV (.bl b) x
 |.int i _=>eqV (.int i) x
 |.str z _=>eqV (.str z) x
 |_=>false
def Az(r:RelV y u)(f:Vn y=true):eqU x u=eqV y x:=by
 cases y with
 |non=>cases r;rfl
 |bl b=>cases r;rfl
 |int i=>obtain⟨t,rfl⟩:=r;rfl
 |str z=>obtain⟨t,rfl⟩:=r;rfl
 |_=>exact absurd (show false=true from f) O2
def V4{x:V}:∀{xs:ML}{us:MJ},Vals xs us->xs.all Vn=true->us.any (eqU x)=xs.any λy=>eqV y x
 |_,_,.nil,_=>rfl
 |y::xs,u::us,.cons r t,f=>by rw[a1R,a1b]at f;rw[a0i,a0i,Az r f.1,V4 t f.2]
def Q2{A:Nb}{s:MH}{x:V}{v:Value}(rx:RelV x v)(fx:Vn x=true):∀{xs:ML}{us:MJ},Vals xs us->xs.all Vn=true->∀u∈us,SeqAt.EqAt A s u v (eqU x u)
 |_,_,.nil,_=>λu hu=>by cases hu
 |y::xs,u::us,.cons r t,f=>λu' hu=>by
  rw[a1R,a1b]at f;rcases O5.mp hu with rfl|hu
  .rw[Az r f.1];exact Ay r rx f.1 fx
  .exact Q2 rx fx t f.2 u' hu
def inV(x:V)(xs:ML):Bool:=xs.any λy=>eqV y x
def rIn(K:MQ)(neg:Bool):R2:=λx y H Q=>∃p xs,y=.ref p/\(SqL K H p xs\/SqT K H p xs)/\Vn x=true/\xs.all Vn=true/\Q (.bl (if neg then !inV x xs else inV x xs)) H
def n5:OpR X (compareOp .In) (rIn X.K false):=by
 intro pins s σ H x y v u Q I rx ry h;obtain⟨p,xs,rfl,hq,fx,fs,q⟩:=h;cases ry;rcases hq with hq|hq
 .obtain⟨its,r,pl,hz⟩:=I.list hq;refine SeqAt.in_listAt (eqU x) pl.isList (λw hw=>Q2 rx fx r fs w (by simpa using hw)) ⟨.bl _,H,I,rfl,?_⟩;rw[show its.toArray.any (eqU x)=its.any (eqU x) by simp,V4 r fs];exact q
 .obtain⟨its,r,pl,hz⟩:=I.tuple hq;refine SeqAt.in_tupleAt (eqU x) pl (λw hw=>Q2 rx fx r fs w (by simpa using hw)) ⟨.bl _,H,I,rfl,?_⟩;rw[show its.toArray.any (eqU x)=its.any (eqU x) by simp,V4 r fs];exact q
def b8:OpR X (compareOp .NotIn) (rIn X.K true):=by
 intro pins s σ H x y v u Q I rx ry h;obtain⟨p,xs,rfl,hq,fx,fs,q⟩:=h;cases ry;rcases hq with hq|hq
 .obtain⟨its,r,pl,hz⟩:=I.list hq;refine SeqAt.notIn_listAt (eqU x) pl.isList (λw hw=>Q2 rx fx r fs w (by simpa using hw)) ⟨.bl _,H,I,rfl,?_⟩;rw[show its.toArray.any (eqU x)=its.any (eqU x) by simp,V4 r fs];exact q
 .obtain⟨its,r,pl,hz⟩:=I.tuple hq;refine SeqAt.notIn_tupleAt (eqU x) pl (λw hw=>Q2 rx fx r fs w (by simpa using hw)) ⟨.bl _,H,I,rfl,?_⟩;rw[show its.toArray.any (eqU x)=its.any (eqU x) by simp,V4 r fs];exact q
def b9:OpR X (compareOp .NotIn) (λx y H Q=>∃i j,x=.str i/\y=.str j/\Q (.bl (!(!(Builtin.Str.occurrences j i 0 j.length 1).isEmpty))) H):=by intro pins s σ H x y v u Q I rx ry h;obtain⟨i,j,rfl,rfl,q⟩:=h;obtain⟨t,rfl⟩:=rx;obtain⟨t',rfl⟩:=ry;exact notIn_str ⟨.bl _,H,I,rfl,q⟩
def wq.or(h:wq X f r)(h':wq X f r'):wq X f (λxs H Q=>r xs H Q\/r' xs H Q):=by
 intro pins s σ H xs us Q I rs q;rcases q with q|q
 .exact h pins s σ H xs us Q I rs q
 .exact h' pins s σ H xs us Q I rs q
def b_:wq X (.type "list") (λxs H Q=>∃p ys,xs=[.ref p]/\(SqL X.K H p ys\/SqT X.K H p ys)/\∀l,H l=none->Q (.ref l) (upd H l (.lst ys))):=by
 intro pins s σ H xs us Q I r h;obtain⟨p,ys,rfl,hq,q⟩:=h;obtain⟨u,rfl,rx⟩:=vals1 r;cases rx;have fin:∀(its:MJ),Vals ys its->ys.length<=sizeLine->∀(h':Heap)(c':Nat),(∀b o',s.heap.get? b=some o'->h'.get? b=some o')->
   h'.get? s.heap.objs.size=some { cls:=.type "list",dict:=none,data:=.seq its.toArray c',slots:=#[] }->EP X pins σ Q (.ref s.heap.objs.size) { s with heap:=h' }:=λits r' hz h' c' kp e=>
  ⟨.ref s.heap.objs.size,_,I.laid (t':=s.toks) kp (M7 _) (show yF X.prog X.w _ h' _ (.lst ys)from⟨hz,its,c',r',e⟩),rfl,q _ (I.hok.fresh (M7 _))⟩
 rcases hq with hq|hq
 .obtain⟨its,r',pl,hz⟩:=I.list hq;have hlen:=r'.length;obtain⟨o,ho,hc,n,hd⟩:=pl.isList;exact call_list_seq p (.inl rfl) ho hc hd (λh' c' kp e=>fin its r' hz h' c' kp e) (by simp only[List.size_toArray]<;>omega)
 .obtain⟨its,r',pl,hz⟩:=I.tuple hq;have hlen:=r'.length;obtain⟨o,ho,hc,n,hd⟩:=pl;exact call_list_seq p (.inr rfl) ho hc hd (λh' c' kp e=>fin its r' hz h' c' kp e) (by simp only[List.size_toArray]<;>omega)
def tyV(K:MQ)(T:String)(x:V)(H:Hp):Prop:=match x with
 |.str _=>T="str"
 |.int _=>T="int"
 |.ref p=>(T="list" /\ ∃xs,SqL K H p xs)\/(T="tuple" /\ ∃o,K.lookup p=some o/\o.cls=.type "tuple"/\o.dict=none)\/
   (T="dict"/\((∃kvs,H p=some (.dK kvs))\/∃kvs,H p=some (.dT kvs)))\/(T="set" /\ ∃S n,H p=some (.set S n))
 |_=>False
def AA(I:Inv X pins σ H s)(r:RelV x v)(ty:tyV X.K T x H):
  s.TypeIs v T/\∀a,v=.ref a->∃ob,s.heap.get? a=some ob/\ob.dict=none:=by
 cases x with
 |str z=>obtain⟨t,rfl⟩:=r;cases(show T="str" from ty);exact⟨typeIs_str s z t,λ_ e=>nomatch e⟩
 |int i=>obtain⟨t,rfl⟩:=r;cases(show T="int" from ty);exact⟨typeIs_int s i t,λ_ e=>nomatch e⟩
 |ref p=>
  cases r;rcases ty with⟨rfl,xs,hq⟩|⟨rfl,o,hk,hc,hd⟩|⟨rfl,hk⟩|⟨rfl,S,n,hk⟩
  .obtain⟨its,_,pl,_⟩:=I.list hq;refine⟨pl.isList.typeIs,λa e=>?_⟩;cases e;obtain⟨o,n,e,c,hd,_⟩:=pl;exact⟨o,e,hd⟩
  .refine⟨⟨o,I.kIn p o hk,hc⟩,λa e=>?_⟩;cases e;exact⟨o,I.kIn _ o hk,hd⟩
  .have z:∃o,s.heap.get? p=some o/\o.ExactDict:=by
    rcases hk with⟨kvs,hk⟩|⟨kvs,hk⟩
    .obtain⟨_,_,_,_,o,_,_,e,ex,_⟩:=I.hok p _ hk;exact⟨o,e,ex⟩
    .obtain⟨_,_,_,_,o,_,_,e,ex,_⟩:=I.hok p _ hk;exact⟨o,e,ex⟩
   obtain⟨o,e,ex⟩:=z;refine⟨⟨o,e,ex.1⟩,λa e2=>?_⟩;cases e2;exact⟨o,e,ex.2.1⟩
  .obtain⟨o,_,_,_,e,ex,_⟩:=I.hok p _ hk;refine⟨⟨o,e,ex.1⟩,λa e2=>?_⟩;cases e2;exact⟨o,e,ex.2.1⟩
 |_=>exact False.elim ty
def L8(K:MQ)(T:String)(r:V->List V->Hp->VK->Prop)(to:TE):TE:=λσ H Q=>to σ H λx H1=>tyV K T x H1/\r x [] H1 Q
def tBM(K:MQ)(T:String)(r:V->List V->Hp->VK->Prop)(to:TE)(t:TA):TE:=λσ H Q=>to σ H λx H1=>tyV K T x H1/\t σ H1 λxs H2=>r x xs H2 Q
variable {o e:MR}{es:MK}{to:TE}{t:TA}{name:Str}{jo vz:Pos}{T id:String}{r:V->List V->Hp->VK->Prop}
def AB(pa:PlainAttrs T)(slot:Slot T name id)(hty:typeOf (.builtin id)=pure (.type "method_descriptor"))(hm:MtR X id r)(ho:PE X o to)
  (Xw:attributeBase o name X.env (eval o X.env)=eval o X.env:=by rfl) (Xv:(jo.endLine==vz.line)=true:=by rfl):PE X (.Call (.Attribute o name jo) [] [] vz) (L8 X.K T r to):=by
 intro pins s σ H Q I h;refine wpAny_Call_method0_late Xw Xv (thn (ho pins s σ H _ I h) λv s1 ⟨x,H1,I1,r1,ty,q1⟩=>?_);obtain⟨h1,h2⟩:=AA I1 r1 ty;exact⟨T,id,pa,slot,hty,h1,h2,a04 rfl (PySem.evalArgs_none (hm pins s1 σ H1 x [] v [] Q I1 r1 .nil q1))⟩
def Ez(pa:PlainAttrs T)(slot:Slot T name id)(hty:typeOf (.builtin id)=pure (.type "method_descriptor"))(hm:MtR X id r)(ho:PE X o to)(ha:PA X (e::es) t)
  (Xw:attributeBase o name X.env (eval o X.env)=eval o X.env:=by rfl)
  (GV:((backTo vz (starEach (e::es) X.env)).all (λx=>!x.1)&&(backToKw vz (keywordEach [] X.env)).all (λx=>x.1.isSome)
   && decide ((e::es).length+([]:List Keyword).length+(if([]:List Keyword).isEmpty then 0 else 1)<30))=true:=by rfl)
  (Xv:(jo.endLine==vz.line)=true:=by rfl) (hs:starEach (e::es) X.env=(false,eval e X.env)::starEach es X.env:=by rfl) (hplain:(backTo vz (starEach es X.env)).any (·.1)=false:=by rfl):
  PE X (.Call (.Attribute o name jo) (e::es) [] vz) (tBM X.K T r to t):=by
 intro pins s σ H Q I h;refine wpAny_Call_method_late Xw GV Xv rfl (thn (ho pins s σ H _ I h) λv s1 ⟨x,H1,I1,r1,ty,q1⟩=>?_);obtain⟨h1,h2⟩:=AA I1 r1 ty;refine⟨T,id,pa,slot,hty,h1,h2,?_⟩;have hA:=ha vz pins s1 σ H1 _ I1 q1;rw[hs]at hA ⊢;refine a04 (by show(false||(backTo vz (starEach es X.env)).any (·.1))=false;rw[hplain]<;>rfl) (a1B ?_);exact thn hA λus s2 ⟨vs,H2,I2,r2,q2⟩=>hm pins s2 σ H2 x vs v us Q I2 r1 r2 q2
end
def MtM(X:Cx)(id:String)(r:V->List V->Hp->VK->Prop):Prop:=
 ∀(pins:My)(s:MH)(σ:St)(H:Hp)(x:V)(xs:ML)(v:Value) (us:MJ) (Q:VK),Inv X pins σ H s->RelV x v->Vals xs us->r x xs H Q->
  wpAny (NO X) X.A (call (.builtin id) (v::us)) (EP X pins σ Q) X.xe s
def Vals.one:∀{x:V}{us:MJ},Vals [x] us->∃u,us=[u]/\RelV x u
 |_,_,.cons r .nil=>⟨_,rfl,r⟩
def Vals.zero:∀{us:MJ},Vals [] us->us=[]
 |_,.nil=>rfl
def Vals.rep{xs:ML}{us:MJ}(h:Vals xs us):∀k:Nat,Vals (List.replicate k xs).flatten (List.replicate k us).flatten
 |0=>.nil
 |k+1=>by rw[a0q,a0q,a0Q,a0Q];exact Vals.append h (Vals.rep h k)
def foldl_rep(its:MJ):∀(k:Nat)(acc:MJ),
  List.foldl (λx1 x2=>x1++x2) acc.toArray (List.replicate k its.toArray)=(acc++(List.replicate k its).flatten).toArray
 |0,acc=>by simp
 |k+1,acc=>by
  have e:acc.toArray++its.toArray=(acc++its).toArray:=by simp
  have e2:(acc++its)++(List.replicate k its).flatten=acc++(List.replicate (k+1) its).flatten:=by rw[a0q,a0Q,T9]
  rw[<- e2,<- foldl_rep its k (acc++its),<- e,a0q,a0z]
def Inv.Lg{its its':MJ}{n:Nat}{f:Array Value->Array Value}{t':Nat}(I:Inv X pins σ H s)(hH:H l=some (.lst xs))
  (e:s.heap.get? l=some { cls:=.type "list",data:=.seq its.toArray n }) (hf:f its.toArray=its'.toArray) (hv:Vals ys its') (hz:ys.length<=sizeLine):
  Inv X pins σ (upd H l (.lst ys)) { s with heap:=s.heap.update l (Obj.mapSeq f),toks:=t' }:=by
 have q:=PySem.IsL.update e f;rw[hf]at q;refine I.write (x:=l) (e:=l) (by rw[hH];exact trivial) (.inl rfl) (λb' u hb hu=>(P8 s.heap (Obj.mapSeq f) (Ne.symm hb)).trans hu) ⟨_,q⟩ ?_;exact⟨hz,its',_,hv,q⟩
def Inv.HB(I:Inv X pins σ H s)(hv:Vals ys its)(hz:ys.length<=sizeLine):
  Inv X pins σ (upd H s.heap.objs.size (.lst ys)) { s with heap:=s.heap.push { cls:=.type "list",data:=.seq its.toArray },toks:=t' }:=
 I.laid (λ_ _ q=>M6 _ q) (M7 _) ⟨hz,its,0,hv,O8 _ rfl⟩
def Inv.fresh(I:Inv X pins σ H s):H s.heap.objs.size=none:=I.hok.fresh (M7 _)
def Inv.EA(I:Inv X pins σ H s)(hH:H l=some (.lst xs)):xs.length<=sizeLine/\∃(its:MJ)(n:Nat),Vals xs its/\xs.length=its.length/\s.heap.get? l=some { cls:=.type "list",data:=.seq its.toArray n }:=by obtain⟨z,its,n,r,e⟩:=I.hok l _ hH;exact⟨z,its,n,r,r.length,e⟩
def t_(h:n<=sizeLine):Builtin.List.listTooLong n=false:=by unfold Builtin.List.listTooLong;exact N8 (by omega)
section
variable {X:Cx}
def BY:V->List V->Hp->VK->Prop:=λx vs H Q=>∃l xs y,x=.ref l/\vs=[y]/\H l=some (.lst xs)/\xs.length<sizeLine/\Q .non (upd H l (.lst (xs++[y])))
def cb:MtM X "list.append" BY:=by intro pins s σ H x vs v us Q I rx rv h;obtain⟨l,xs,y,rfl,rfl,hH,hz,q⟩:=h;cases rx;obtain⟨u,rfl,ru⟩:=rv.one;obtain⟨z,its,n,r,hl,e⟩:=I.EA hH;refine a2D F.slot_list_append ⟨_,e,rfl⟩ F.entry_list_append (F.args_list_append_2 _ _) (PySem.list_append l its.toArray n u (by rw[O4];omega)) ⟨e,?_⟩;refine⟨.non,_,I.Lg (its':=its++[u]) hH e (by simp) (r.append (.cons ru .nil)) ?_,rfl,q⟩;rw[O6,a08];omega
def EB:V->List V->Hp->VK->Prop:=λx vs H Q=>∃l xs,x=.ref l/\vs=[]/\H l=some (.lst xs)/\Q .non (upd H l (.lst []))
def ua:MtM X "list.clear" EB:=by intro pins s σ H x vs v us Q I rx rv h;obtain⟨l,xs,rfl,rfl,hH,q⟩:=h;cases rx;have hus:=rv.zero;subst hus;obtain⟨z,its,n,r,hl,e⟩:=I.EA hH;refine a2D F.slot_list_clear ⟨_,e,rfl⟩ F.entry_list_clear (F.args_list_clear_1 _) (AutoSeq1.list_clear_list_0 l its.toArray n (by rw[O4];omega)) ⟨e,?_⟩;exact⟨.non,_,I.Lg (its':=[]) (ys:=[]) hH e rfl .nil (S7 _),rfl,q⟩
def Lh:R2:=λx y H Q=>∃l b xs zs,x=.ref l/\y=.ref b/\H l=some (.lst xs)/\H b=some (.lst zs)/\xs.length+zs.length<=sizeLine/\∀p,H p=none->Q (.ref p) (upd H p (.lst (xs++zs)))
def AD:OpR X (binaryOp .Add) Lh:=by
 intro pins s σ H x y v u Q I rx ry h;obtain⟨l,b,xs,zs,rfl,rfl,hH,hB,hz,q⟩:=h;cases rx;cases ry;obtain⟨z,its,n,r,hl,e⟩:=I.EA hH;obtain⟨z2,its2,n2,r2,hl2,e2⟩:=I.EA hB;refine PySem.P.add_list e e2 ?_ (by rw[O4,O4];omega);have ea:its.toArray++its2.toArray=(its++its2).toArray:=by simp
 rw[ea];exact⟨.ref _,_,I.HB (t':=s.toks) (r.append r2) (by rw[O6];omega),rfl,q _ I.fresh⟩
def Li:R2:=λx y H Q=>∃l k xs,x=.ref l/\y=.int k/\H l=some (.lst xs)/\-(2 ^ 63)<=k/\k<2 ^ 63/\xs.length*k.toNat<=sizeLine/\
 ∀p,H p=none->Q (.ref p) (upd H p (.lst (List.replicate k.toNat xs).flatten))
def len_rep{α:Type}(xs:List α)(k:Nat):(List.replicate k xs).flatten.length=k*xs.length:=by
 induction k with
 |zero=>simp
 |succ k ih=>rw[a0q,a0Q,O6,ih,Nat.succ_mul,Nat.add_comm]
def EC:OpR X (binaryOp .Mult) Li:=by
 intro pins s σ H x y v u Q I rx ry h;obtain⟨l,k,xs,rfl,rfl,hH,h1,h2,hz,q⟩:=h;cases rx;obtain⟨t,rfl⟩:=ry;obtain⟨z,its,n,r,hl,e⟩:=I.EA hH;have hlen:its.toArray.size*k.toNat<=sizeLine:=by rw[O4,<- hl];exact hz
 have hcap:¬its.toArray.size*k.toNat>(2 ^ 63-1) / 8:=by
  have:(sizeLine:Nat)<=(2 ^ 63-1) / 8:=by decide
  omega
 have hfit:¬(!Builtin.List.listFitsIndex k)=true:=by rw[fitsIndex_both h1 h2];exact O2
 have hlong:¬Builtin.List.listTooLong (its.toArray.size*k.toNat)=true:=by rw[t_ hlen];exact O2
 have hnew:List.foldl (λx1 x2=>x1++x2) #[] (List.replicate (if its.toArray.isEmpty=true then 0 else k.toNat) its.toArray)=(List.replicate k.toNat its).flatten.toArray:=by
  have f0:∀m:Nat,List.foldl (λx1 x2=>x1++x2) #[] (List.replicate m its.toArray)=(List.replicate m its).flatten.toArray:=λm=>by have:=foldl_rep its m [];rw[a0A]at this;exact this
  rw[f0];cases its with
  |nil=>simp
  |cons a r'=>rw[if_neg (by simp)]
 refine wpAny_binaryOp_repeat_ref (T:="list") (U:="int") (by decide) ⟨_,e,rfl⟩ (λs'=>typeIs_int s' k t) noFill_list_mul F.fills_int_mul F.slot_int_rmul repeat_list F.slot_int_index.lookup
  (a2D F.slot_int_rmul (typeIs_int s k t) F.entry_int_rmul (F.args_int_rmul_2 _ _) (int___rmul___int_list k t l its.toArray n)
   ⟨e,rfl,⟨_,e,rfl⟩,a2D F.slot_list_mul ⟨_,e,rfl⟩ F.entry_list_mul (F.args_list_mul_2 _ _) (AutoListH.list___mul___list_int_3 l its.toArray n k t hfit hcap hlong) ⟨e,?_⟩⟩)
 rw[hnew];exact⟨.ref _,_,I.HB (t':=s.toks) (r.rep k.toNat) (by rw[len_rep,Nat.mul_comm];exact hz),rfl,q _ I.fresh⟩
end
section
variable {prog:MV}{w:M_}{A:Nb}{E:MC}{s:MH}
end
section
variable {X:Cx}
end
section
variable {κ:Type}[DecidableEq κ]
def KA(kvs:List (κ×V))(k:κ):Option V:=(kvs.find? λkv=>decide (kv.1=k)).map (·.2)
def putK(kvs:List (κ×V))(k:κ)(v:V):List (κ×V):=
 if(kvs.any λkv=>decide (kv.1=k))=true then kvs.map (λkv=>if kv.1=k then(kv.1,v)else kv)else kvs++[(k,v)]
def VH{p:κ×V}{r:List (κ×V)}{k:κ}(e:p.1=k):KA (p::r) k=some p.2:=by simp[KA,List.find?_cons,e]
def VI{p:κ×V}{r:List (κ×V)}{k:κ}(e:¬p.1=k):KA (p::r) k=KA r k:=by simp[KA,List.find?_cons,e]
def U5(k:κ):∀kvs:List (κ×V),(kvs.any λkv=>decide (kv.1=k))=(KA kvs k).isSome
 |[]=>rfl
 |p::r=>by
  rw[a0i];by_cases e:p.1=k
  .simp only[VH e,decide_eq_true e,Bool.true_or,Option.isSome_some]
  .rw[VI e,N8 e,Bool.false_or];exact U5 k r
def QJ(kvs:List (κ×V))(k:κ)(v:V):(putK kvs k v).length<=kvs.length+1:=by
 unfold putK;split
 .rw[u8];omega
 .rw[O6,v4,a1h];omega
def ub{kvs:List (κ×V)}{k:κ}(v:V)(h:KA kvs k=none):putK kvs k v=kvs++[(k,v)]:=by unfold putK;rw[U5,h];exact if_neg (by decide)
def Vm.ZP(r:Vm o u):o.isSome=u.isSome:=by
 cases o with
 |none=>cases u with
  |none=>rfl
  |some _=>exact(show False from r).elim
 |some _=>cases u with
  |none=>exact(show False from r).elim
  |some _=>rfl
def Vm.getD(r:Vm o u)(rd:RelV d d'):RelV (o.getD d) (u.getD d'):=by
 cases o with
 |none=>cases u with
  |none=>exact rd
  |some _=>exact(show False from r).elim
 |some _=>cases u with
  |none=>exact(show False from r).elim
  |some _=>exact r
def KV.val{kvs:List (κ×V)}{vs:List (κ×Value)}(r:KV kvs vs)(k:κ):Vm (KA kvs k) (valueAt vs k):=by
 unfold KV at r
 induction r with
 |nil=>exact True.intro
 |@cons p q ps qs h t ih=>
  obtain⟨h1,h2⟩:=h;by_cases e:p.1=k
  .have e':q.1=k:=h1.symm.trans e;have b:valueAt (q::qs) k=some q.2:=by simp[valueAt,List.find?_cons,e']
   rw[VH e,b];exact h2
  .have e':¬q.1=k:=λz=>e (h1.trans z);have b:valueAt (q::qs) k=valueAt qs k:=by simp[valueAt,List.find?_cons,e']
   rw[VI e,b];exact ih
def KV.any{kvs:List (κ×V)}{vs:List (κ×Value)}(r:KV kvs vs)(k:κ):(kvs.any λkv=>decide (kv.1=k))=vs.any λkv=>decide (kv.1=k):=by
 unfold KV at r
 induction r with
 |nil=>rfl
 |cons h t ih=>rw[a0i,a0i,ih,h.1]
def KV.HD{kvs:List (κ×V)}{vs:List (κ×Value)}(r:KV kvs vs)(k:κ)(ry:RelV y u):
  KV (kvs.map λkv=>if kv.1=k then(kv.1,y)else kv) (vs.map λkv=>if kv.1=k then(kv.1,u)else kv):=by
 unfold KV at r ⊢
 induction r with
 |nil=>exact .nil
 |@cons p q ps qs h t ih=>
  rw[N5,N5];refine .cons ?_ ih;obtain⟨h1,h2⟩:=h;by_cases e:p.1=k
  .rw[if_pos e,if_pos (h1.symm.trans e)];exact⟨h1,ry⟩
  .rw[if_neg e,if_neg (λz=>e (h1.trans z))];exact⟨h1,h2⟩
def KV.put{kvs:List (κ×V)}{vs:List (κ×Value)}(r:KV kvs vs)(k:κ)(ry:RelV y u):KV (putK kvs k y) (stored vs k u):=by
 unfold putK stored;rw[r.any k];by_cases e:(vs.any λkv=>decide (kv.1=k))=true
 .rw[if_pos e,if_pos e];exact r.HD k ry
 .rw[if_neg e,if_neg e];exact Paired.snoc r ⟨rfl,ry⟩
def KV.length{kvs:List (κ×V)}{vs:List (κ×Value)}(r:KV kvs vs):kvs.length=vs.length:=a0o r
end
def U6(r:RelV (kV k) u):(z4 P w).is k u=true:=by
 cases k with
 |inl i=>obtain⟨t,e⟩:=(show ∃t,u=Value.int i t from r);subst e;exact ej P w i t
 |inr x=>obtain⟨t,e⟩:=(show ∃t,u=Value.str x t from r);subst e;exact eA P w x t
def cf{P:MV}{w:M_}:∀{ks:Nt}{us:MJ},Vals (ks.map kV) us->ItemsAre (z4 P w) ks us
 |[],_,r=>by rw[a1C]at r;cases r;exact .nil
 |k::ks,_,r=>by
  rw[N5]at r;cases r with
  |cons h t=>exact .cons (U6 h) (cf t)
abbrev KT(H:Hp):List (List Key×V)->List (List Key×Addr×Value)->Prop:=Paired λp q=>p.1=q.1/\H q.2.1=some (.tup (p.1.map kV))/\RelV p.2 q.2.2
def KT.val(r:KT H kvs xs)(k:Nt):Vm (KA kvs k) ((atKey xs k).map (·.2)):=by
 induction r with
 |nil=>exact True.intro
 |@cons p q ps qs h t ih=>
  obtain⟨h1,_,h2⟩:=h;by_cases e:p.1=k
  .have e':q.1=k:=h1.symm.trans e;have b:atKey (q::qs) k=some q.2:=by simp[atKey,List.find?_cons,e']
   rw[VH e,b];exact h2
  .have e':¬q.1=k:=λz=>e (h1.trans z);have b:atKey (q::qs) k=atKey qs k:=by simp[atKey,List.find?_cons,e']
   rw[VI e,b];exact ih
def KT.HD(r:KT H kvs xs)(k:Nt)(ry:RelV y u):
  KT H (kvs.map λkv=>if kv.1=k then(kv.1,y)else kv) (xs.map (putAt k u)):=by
 induction r with
 |nil=>exact .nil
 |@cons p q ps qs h t ih=>
  rw[N5,N5];refine .cons ?_ ih;obtain⟨h1,h2,h3⟩:=h;unfold putAt;by_cases e:p.1=k
  .rw[if_pos e,if_pos (h1.symm.trans e)];exact⟨h1,h2,ry⟩
  .rw[if_neg e,if_neg (λz=>e (h1.trans z))];exact⟨h1,h2,h3⟩
def KT.put(r:KT H kvs xs)(k:Nt)(hb:H b=some (.tup (k.map kV)))(ry:RelV y u):
  KT H (putK kvs k y) (storedH xs k b u):=by
 have e:(kvs.any λkv=>decide (kv.1=k))=(atKey xs k).isSome:=by rw[U5,(r.val k).ZP,a06]
 unfold putK storedH;rw[e];by_cases q:(atKey xs k).isSome=true
 .rw[if_pos q,if_pos q];exact r.HD k ry
 .rw[if_neg q,if_neg q];exact Paired.snoc r ⟨rfl,hb,ry⟩
def KT.keeps(r:KT H kvs xs)(ht:∀b ys,H b=some (.tup ys)->H' b=some (.tup ys)):KT H' kvs xs:=
 Paired.Hk r λ_ _ z=>⟨z.1,ht _ _ z.2.1,z.2.2⟩
def ED(ok:HOk P w H h)(e:Rd H a u):yF P w H h a u:=e.ok ok
def Y1(ok:HOk P w H h)(e:Rd H a (.dK kvs)):kvs.length<=sizeLine/\(a==sysModules)=false/\∃vs,KV kvs vs/\h.DictOf (z4 P w) a vs:=
 show yF P w H h a (.dK kvs)from ED ok e
def BZ(ok:HOk P w H h)(e:H a=some (.dK kvs)):kvs.length<=sizeLine/\(a==sysModules)=false/\∃vs,KV kvs vs/\h.DictOf (z4 P w) a vs:=Y1 ok (.inl e)
def V5(ok:HOk P w H h)(e:H a=some (.tup (ks.map kV))):(tupleKind (z4 P w)).is h ks a:=by obtain⟨_,its,r,o,h1,h2,n,h3⟩:=(show yF P w H h a (.tup (ks.map kV))from ok a _ e);exact⟨o,its.toArray,n,h1,h2,h3,by simpa using cf r⟩
def cg(ok:HOk P w H h)(e:Rd H a (.dT kvs)):kvs.length<=sizeLine/\(a==sysModules)=false/\
  ∃xs,KT H kvs xs/\h.DictOfH (tupleKind (z4 P w)) a xs:=by
 obtain⟨z,y,xs,r,o,es,ep,h1,h2,h3,h4,h5⟩:=(show yF P w H h a (.dT kvs)from ED ok e);refine⟨z,y,xs,r,o,es,ep,h1,h2,h3,h4,λx hx=>?_,h5⟩;have all:∀{l:NB}{m:List (List Key×Addr×Value)},KT H l m->∀x∈m,(tupleKind (z4 P w)).is h x.1 x.2.1:=by
  intro l m q
  induction q with
  |nil=>intro x hx;exact nomatch hx
  |@cons p q ps qs hq t ih=>
   intro x hx;rcases O5.mp hx with e|hx
   .subst e;exact V5 ok (by rw[<- hq.1];exact hq.2.1)
   .exact ih x hx
 exact all r x hx
def HF(ok:HOk P w H h)(e:H a=some (.dT kvs)):kvs.length<=sizeLine/\(a==sysModules)=false/\
  ∃xs,KT H kvs xs/\h.DictOfH (tupleKind (z4 P w)) a xs:=cg ok (.inl e)
def d8(H:Hp)(a:Addr)(y:V)(r:Option V):Prop:=
 (∃kvs k,Rd H a (.dK kvs)/\y=kV k/\r=KA kvs k)\/∃kvs k b,Rd H a (.dT kvs)/\y=.ref b/\H b=some (.tup (k.map kV))/\r=KA kvs k
def uc(H:Hp)(a:Addr)(y v:V)(H':Hp):Prop:=
 (∃kvs k,H a=some (.dK kvs)/\y=kV k/\kvs.length<sizeLine/\H'=upd H a (.dK (putK kvs k v)))\/
 ∃kvs k b,H a=some (.dT kvs)/\y=.ref b/\H b=some (.tup (k.map kV))/\kvs.length<sizeLine/\H'=upd H a (.dT (putK kvs k v))
def uc.k{H:Hp}{a:Addr}{kvs:MM}{k:Key}{v:V}(e:H a=some (.dK kvs))(hl:kvs.length<sizeLine):uc H a (kV k) v (upd H a (.dK (putK kvs k v))):=.inl ⟨kvs,k,e,rfl,hl,rfl⟩
def uc.t{H:Hp}{a b:Addr}{kvs:NB}{k:Nt}{v:V}(e:H a=some (.dT kvs))(eb:H b=some (.tup (k.map kV)))(hl:kvs.length<sizeLine):
  uc H a (.ref b) v (upd H a (.dT (putK kvs k v))):=.inr ⟨kvs,k,b,e,rfl,eb,hl,rfl⟩
def Inv.big(I:Inv X pins σ H s):sysModules<s.heap.objs.size:=by have h:mainGlobals<s.heap.objs.size:=(I.mod.glob.keeps I.bk).lt;exact a1D (by decide) h
def n6(hu:A.units+1<cLine)(I:Inv X pins σ H s)(g:d8 H a y (some v))(ry:RelV y u)(h:∀w' s',Inv X pins σ H s'->RelV v w'->Q w' s'):
  wpAny (NO X) A (getItem (.ref a) u) Q E s:=by
 rcases g with⟨kvs,k,e,ey,l⟩|⟨kvs,k,b,e,ey,eb,l⟩
 .subst ey;obtain⟨z,hd,vs,rel,dd⟩:=Y1 I.hok e;obtain⟨w',hw,rw'⟩:=Vm.some_of (v:=v) (o:=valueAt vs k) (by rw[l];exact rel.val k);exact wpAny_getItem_of (U6 ry) dd.mapOf hw (h w' _ (I.tok _) rw')
 .subst ey;cases(show u=Value.ref b from ry);obtain⟨z,hd,xs,rel,dd⟩:=cg I.hok e;obtain⟨w',hw,rw'⟩:=Vm.some_of (v:=v) (o:=(atKey xs k).map (·.2)) (by rw[l];exact rel.val k);obtain⟨p,hp,hp2⟩:=t0.mp hw;refine wpAny_getItem_heap (a0K hu) (V5 I.hok eb) dd hp ?_;rw[hp2];exact h w' _ (I.tok _) rw'
def L9(hu:A.units+1<cLine)(I:Inv X pins σ H s)(g:d8 H a y o)(ry:RelV y u)(h:∀s',Inv X pins σ H s'->Q (.bool o.isSome) s'):
  wpAny (NO X) A (compareOp .In u (.ref a)) Q E s:=by
 rcases g with⟨kvs,k,e,ey,l⟩|⟨kvs,k,b,e,ey,eb,l⟩
 .subst ey;obtain⟨z,hd,vs,rel,dd⟩:=Y1 I.hok e;refine wpAny_in_of (U6 ry) hd dd.mapOf ?_;rw[<- (rel.val k).ZP,<- l];exact h _ (I.tok _)
 .subst ey;cases(show u=Value.ref b from ry);obtain⟨z,hd,xs,rel,dd⟩:=cg I.hok e;refine wpAny_in_heap (a0K hu) (V5 I.hok eb) hd dd ?_;have q:=(rel.val k).ZP;rw[a06]at q;rw[<- q,<- l];exact h _ (I.tok _)
def B0(hu:A.units+1<cLine)(I:Inv X pins σ H s)(g:d8 H a y o)(ry:RelV y u)(h:∀s',Inv X pins σ H s'->Q (.bool (!o.isSome)) s'):
  wpAny (NO X) A (compareOp .NotIn u (.ref a)) Q E s:=by
 rcases g with⟨kvs,k,e,ey,l⟩|⟨kvs,k,b,e,ey,eb,l⟩
 .subst ey;obtain⟨z,hd,vs,rel,dd⟩:=Y1 I.hok e;refine wpAny_notIn_of (U6 ry) hd dd.mapOf ?_;rw[<- (rel.val k).ZP,<- l];exact h _ (I.tok _)
 .subst ey;cases(show u=Value.ref b from ry);obtain⟨z,hd,xs,rel,dd⟩:=cg I.hok e;refine wpAny_notIn_heap (a0K hu) (V5 I.hok eb) hd dd ?_;have q:=(rel.val k).ZP;rw[a06]at q;rw[<- q,<- l];exact h _ (I.tok _)
def U7(I:Inv X pins σ H s)(mu:Mut (H a))(hs:Heap.SameBut a s.heap h')(he:∃q,h'.get? a=some q)(new:yF X.prog X.w (upd H a ob) h' a ob):
  Inv X pins σ (upd H a ob) { s with heap:=h',toks:=t' }:=
 I.write (x:=a) (e:=a) mu (.inl rfl) (λb q hb z=>(hs.2 b hb).trans z) he new
def cj(z:kvs.length<=sizeLine)(hd:(a==sysModules)=false)(rel:KV kvs vs)(dd:h'.DictOf (z4 P w) a vs):
  yF P w H' h' a (.dK kvs):=⟨z,hd,vs,rel,dd⟩
def n8(hu:A.units+1<cLine)(I:Inv X pins σ H s)(g:uc H a y v H')(ry:RelV y u)(rv:RelV v r)(h:∀s',Inv X pins σ H' s'->Q () s'):
  wpAny (NO X) A (setItem (.ref a) u r) Q E s:=by
 rcases g with⟨kvs,k,e,ey,l,eH⟩|⟨kvs,k,b,e,ey,eb,l,eH⟩
 .subst ey eH;obtain⟨z,hd,vs,rel,dd⟩:=BZ I.hok e;have hz:vs.length<=sizeLine:=by rw[<- rel.length];exact z
  have hl:(putK kvs k v).length<=sizeLine:=by have:=QJ kvs k v;omega
  refine wpAny_setItem_pairs (hsz:=hz) (U6 ry) dd λh' dd' hs=>h _ ?_;have he:∃q,h'.get? a=some q:=let⟨q,_,_,hq,_⟩:=dd';⟨q,hq⟩
  exact U7 I (by rw[e];exact True.intro) hs he (cj hl hd (rel.put k rv) dd')
 .subst ey eH;cases(show u=Value.ref b from ry);obtain⟨z,hd,xs,rel,dd⟩:=HF I.hok e;have hz:xs.length<=sizeLine:=by rw[<- a0o rel];exact z
  have hl:(putK kvs k v).length<=sizeLine:=by have:=QJ kvs k v;omega
  refine wpAny_setItem_heap (hsz:=hz) (a0K hu) (V5 I.hok eb) dd λh' dd' hs=>h _ ?_;obtain⟨q,es,ep,hq,h2,h3,h4,_,h5⟩:=dd';refine U7 I (by rw[e];exact True.intro) hs ⟨q,hq⟩ ⟨hl,hd,_,(rel.put k eb rv).keeps λc ys ec=>?_,q,es,ep,hq,h2,h3,h4,h5⟩;rw[zg (Hj ec e (λz=>nomatch z))];exact ec
def B3(I:Inv X pins σ H s)(e:H a=some (.dK kvs))(h:∀s',Inv X pins σ (upd H a (.dK [])) s'->Q .none s'):wpAny (NO X) A (call (.builtin "dict.clear") [.ref a]) Q E s:=by
 obtain⟨z,hd,vs,rel,dd⟩:=BZ I.hok e;refine a1E a2f dd.typeIs PySem.F.entry_dict_clear (PySem.F.args_dict_clear_1 _) (meets_dict_clear (z4 X.prog X.w) a) ⟨vs,dd,by rw[<- rel.length];exact z,λh' dd' hs=>h _ ?_⟩;have he:∃q,h'.get? a=some q:=let⟨q,_,_,hq,_⟩:=dd';⟨q,hq⟩
 exact U7 (t':=s.toks) I (by rw[e];exact True.intro) hs he (cj (S7 _) hd .nil dd')
def HI(I:Inv X pins σ H s)(e:Rd H a (.dK kvs))(h:∀t s',Inv X pins σ H s'->Q (.int kvs.length t) s'):wpAny (NO X) A (call (.builtin "len") [.ref a]) Q E s:=by obtain⟨z,hd,vs,rel,dd⟩:=Y1 I.hok e;refine call_len_dict hd dd (by rw[<- rel.length];rw[a0e]at z;omega) ?_;rw[<- rel.length];exact h _ _ (I.tok _)
def eJ(I:Inv X pins σ H s)(g:d8 H a y o):s.TypeIs (.ref a) "dict":=by
 rcases g with⟨kvs,k,e,_,_⟩|⟨kvs,k,b,e,_,_,_⟩
 .obtain⟨_,_,vs,_,dd⟩:=Y1 I.hok e;exact dd.typeIs
 .obtain⟨_,_,xs,_,dd⟩:=cg I.hok e;exact dd.typeIs
def HJ(td ty tv:TE):TS:=λD σ H=>tv σ H λv H1=>td σ H1 λx H2=>ty σ H2 λy H3=>∃a H4,x=.ref a/\uc H3 a y v H4/\D.nx σ H4
def eK(hu:X.A.units+1<cLine)(ho:PE X o td)(hi:PE X i ty)(hv:PE X value tv)(hs:swapsWith value (some (.Subscript o i pos')) pos.line X.env=pure false):
  PS X (.Assign [.Subscript o i pos'] value pos) (HJ td ty tv):=by
 intro pins s σ H D I h;refine wpAny_Assign_Subscript (thn (hv pins s σ H _ I h) λr s1 ⟨v,H1,I1,rv,q1⟩=>thn (ho pins s1 σ H1 _ I1 q1) λu s2 ⟨x,H2,I2,rx,q2⟩=>thn (hi pins s2 σ H2 _ I2 q2) λiv s3 ⟨y,H3,I3,ry,a,H4,ex,g,q3⟩=>?_) hs;subst ex;obtain rfl:u=Value.ref a:=rx;exact n8 hu I3 g ry rv λs4 I4=>⟨σ,H4,I4,q3⟩
def gH(h:Heap)(hb:sysModules<h.objs.size):yF P w H (h.push { cls:=.type "dict",data:=.dict #[] }) h.objs.size (.dK []):=
 ⟨S7 _,T7.mpr (Ne.symm (O1 hb)),[],.nil,Heap.DictOf.new h⟩
def ud(h:Heap)(hb:sysModules<h.objs.size):yF P w H (h.push { cls:=.type "dict",data:=.dict #[] }) h.objs.size (.dT []):=
 ⟨S7 _,T7.mpr (Ne.symm (O1 hb)),[],.nil,_,#[],0,O8 _ rfl,⟨rfl,rfl,rfl⟩,rfl,rfl,a2t⟩
def EE:TE:=λ_ H Q=>∀p,H p=none->Q (.ref p) (upd H p (.dK []))
def EF:TE:=λ_ H Q=>∀p,H p=none->Q (.ref p) (upd H p (.dT []))
def ue:PE X (.Dict [] [] pos) EE:=λpins s σ H Q I h=>
 wpAny_Dict_empty ⟨.ref s.heap.objs.size,_,I.laid (a:=s.heap.objs.size) (o:=.dK []) (t':=s.toks) (λ_ _ q=>M6 _ q) (M7 _) (gH s.heap I.big),rfl,h _ (I.hok.fresh (M7 _))⟩
def uf:PE X (.Dict [] [] pos) EF:=λpins s σ H Q I h=>
 wpAny_Dict_empty ⟨.ref s.heap.objs.size,_,I.laid (a:=s.heap.objs.size) (o:=.dT []) (t':=s.toks) (λ_ _ q=>M6 _ q) (M7 _) (ud s.heap I.big),rfl,h _ (I.hok.fresh (M7 _))⟩
def n_:List (TE×TE)->St->Hp->(List (V×V)->Hp->Prop)->Prop
 |[],_,H,Q=>Q [] H
 | (tk,tv)::r,σ,H,Q=>tk σ H λx H1=>tv σ H1 λy H2=>n_ r σ H2 λps H3=>Q ((x,y)::ps) H3
abbrev VV:List (V×V)->List (Value×Value)->Prop:=Paired λp q=>RelV p.1 q.1/\RelV p.2 q.2
def PPs(X:Cx)(pos:Pos)(keys:List (Option Expr))(values:MK)(trs:List (TE×TE)):Prop:=
 ∀(pins:My)(s:MH)(σ:St)(H:Hp)(Q:List (V×V)->Hp->Prop),Inv X pins σ H s->n_ trs σ H Q->
  wpAny (NO X) X.A (evalPairs (pairTrees keys values X.env pos)) (λvs s'=>∃ps H',Inv X pins σ H' s'/\VV ps vs/\Q ps H') X.xe s
def B4:PPs X pos [] [] []:=λpins s σ H Q I h=>pairTrees_nil_walk ⟨[],H,I,.nil,h⟩
def ug(hk:PE X k tk)(hv:PE X v tv)(hr:PPs X pos ks vs trs):
  PPs X pos (some k::ks) (v::vs) ((tk,tv)::trs):=λpins s σ H Q I h=>
 pairTrees_cons_walk (thn (hk pins s σ H _ I h) λu s1 ⟨x,H1,I1,rx,q1⟩=>thn (hv pins s1 σ H1 _ I1 q1) λw2 s2 ⟨y,H2,I2,ry,q2⟩=>
  thn (hr pins s2 σ H2 _ I2 q2) λws s3 ⟨ps,H3,I3,rel,q3⟩=>⟨(x,y)::ps,H3,I3,.cons ⟨rx,ry⟩ rel,q3⟩)
def ck(kvs more:MM):List (Key×V):=more.foldl (λacc kv=>putK acc kv.1 kv.2) kvs
def KV.merge:∀{more:MM}{rs:Nv}{kvs:MM}{vs:Nv},KV more rs->KV kvs vs->KV (ck kvs more) (merged vs rs):=by
 intro more rs kvs vs r;unfold KV at r
 induction r generalizing kvs vs with
 |nil=>intro q;exact q
 |@cons p q ps qs h t ih=>
  intro r0;have e:KV (putK kvs p.1 p.2) (stored vs q.1 q.2):=by have:=r0.put p.1 h.2;rw[<- h.1];exact this
  exact ih e
def Q3:∀(more kvs:MM),(ck kvs more).length<=kvs.length+more.length
 |[],kvs=>by show kvs.length<=kvs.length+0;omega
 |p::r,kvs=>by have h1:=Q3 r (putK kvs p.1 p.2);have h2:=QJ kvs p.1 p.2;show(ck (putK kvs p.1 p.2) r).length<=_;rw[v4];omega
def Um{P:MV}{w:M_}:∀{kvs:MM}{ws:List (Value×Value)},VV (kvs.map λkv=>(kV kv.1,kv.2)) ws->∃rs,Carries (z4 P w) ws rs/\KV kvs rs
 |[],_,r=>by rw[a1C]at r;cases r;exact⟨[],True.intro,.nil⟩
 |p::kvs,_,r=>by
  rw[N5]at r;cases r with
  |@cons a b as bs h t=>obtain⟨rs,c,q⟩:=Um (P:=P) (w:=w) t;obtain⟨b1,b2⟩:=b;exact⟨(p.1,b2)::rs,⟨U6 h.1,rfl,c⟩,.cons ⟨rfl,h.2⟩ q⟩
def HK(trs:List (TE×TE)):TE:=λσ H Q=>∀p,H p=none->n_ trs σ (upd H p (.dK [])) λps H2=>H2 p=some (.dK [])/\∃kvs:List (Key×V),ps=kvs.map (λkv=>(kV kv.1,kv.2))/\kvs.length<=15/\Q (.ref p) (upd H2 p (.dK (ck [] kvs)))
def B5(h:PPs X pos keys values trs)(hall:keys.all (·.isSome)=true)(hl:keys.length=values.length)(h0:keys≠[])
  (h15:keys.length<=15):PE X (.Dict keys values pos) (HK trs):=by
 intro pins s σ H Q I q;have hn:=I.hok.fresh (M7 s.heap.objs.size);have I1:=I.laid (a:=s.heap.objs.size) (o:=.dK []) (h':=s.heap.push { cls:=.type "dict",data:=.dict #[] }) (t':=s.toks) (λ_ _ q=>M6 _ q) (M7 _) (gH s.heap I.big);refine wpAny_Dict_walk (knd:=z4 X.prog X.w) hall hl h0 h15 (thn (h pins _ σ _ _ I1 (q _ hn)) λws s2 ⟨ps,H2,I2,rel,e,kvs,ep,lk,q2⟩=>?_);subst ep;obtain⟨rs,c,rk⟩:=Um (P:=X.prog) (w:=X.w) rel;obtain⟨z,hd,vs0,r0,dd⟩:=BZ I2.hok e;cases r0;refine⟨rs,c,dd,λh' dd' hs=>⟨.ref s.heap.objs.size,_,?_,rfl,q2⟩⟩;have hz:(ck [] kvs).length<=sizeLine:=by have h1:=Q3 kvs [];rw[a1h]at h1;rw[a0e];omega
 have he:∃q,h'.get? s.heap.objs.size=some q:=let⟨q,_,_,hq,_⟩:=dd';⟨q,hq⟩
 exact U7 I2 (by rw[e];exact True.intro) hs he (cj hz hd (rk.merge .nil) dd')
structure M1(X:Cx)(o:MR)(m:Str)(jo:Pos)(e:MR)(vz:Pos):Prop where
 base:attributeBase o m X.env (eval o X.env)=eval o X.env
 few:((backTo vz (starEach [e] X.env)).all (λx=>!x.1)&&(backToKw vz (keywordEach [] X.env)).all (λx=>x.1.isSome)
  && decide (([e]:List Expr).length+([]:List Keyword).length+(if([]:List Keyword).isEmpty then 0 else 1)<30))=true
 line:(jo.endLine==vz.line)=true
 trees:backTo vz (starEach [e] X.env)=[(false,eval e X.env)]
structure M2(X:Cx)(o:MR)(m:Str)(jo:Pos)(e f:MR)(vz:Pos):Prop where
 base:attributeBase o m X.env (eval o X.env)=eval o X.env
 few:((backTo vz (starEach [e,f] X.env)).all (λx=>!x.1)&&(backToKw vz (keywordEach [] X.env)).all (λx=>x.1.isSome)
  && decide (([e,f]:List Expr).length+([]:List Keyword).length+(if([]:List Keyword).isEmpty then 0 else 1)<30))=true
 line:(jo.endLine==vz.line)=true
 trees:backTo vz (starEach [e,f] X.env)=[(false,eval e X.env),(false,eval f X.env)]
def IsD(H:Hp)(a:Addr):Prop:=(∃kvs,Rd H a (.dK kvs))\/∃kvs,Rd H a (.dT kvs)
def AE(I:Inv X pins σ H s)(d:IsD H a):
  s.TypeIs (.ref a) "dict"/\(∀b,Value.ref a=.ref b->∃ob,s.heap.get? b=some ob/\ob.dict=none)/\(a==sysModules)=false:=by
 rcases d with⟨kvs,e⟩|⟨kvs,e⟩
 .obtain⟨_,hd,vs,_,dd⟩:=Y1 I.hok e;refine⟨dd.typeIs,λb q=>?_,hd⟩;cases q;obtain⟨ob,_,_,h1,h2,_⟩:=dd;exact⟨ob,h1,h2.2.1⟩
 .obtain⟨_,hd,xs,_,dd⟩:=cg I.hok e;refine⟨dd.typeIs,λb q=>?_,hd⟩;cases q;obtain⟨ob,_,_,h1,h2,_⟩:=dd;exact⟨ob,h1,h2.2.1⟩
def EG(hu:A.units+1<cLine)(I:Inv X pins σ H s)(g:d8 H a y o)(ry:RelV y u)(h:∀w' s',Inv X pins σ H s'->RelV (o.getD .non) w'->Q w' s'):
  wpAny (NO X) A (call (.builtin "dict.get") [.ref a,u]) Q E s:=by
 rcases g with⟨kvs,k,e,ey,l⟩|⟨kvs,k,b,e,ey,eb,l⟩
 .subst ey;obtain⟨z,hd,vs,rel,dd⟩:=Y1 I.hok e;refine a1E a0v dd.typeIs a05 (a2g _ _) (meets_dict_get (z4 X.prog X.w) a (U6 ry) hd) ⟨_,dd.mapOf,h _ _ (I.tok _) ?_⟩;rw[l];exact(rel.val k).getD rfl
 .subst ey;cases(show u=Value.ref b from ry);obtain⟨z,hd,xs,rel,dd⟩:=cg I.hok e;refine a1E a0v dd.typeIs a05 (a2g _ _) (meetsH_dict_get (tupleKind (z4 X.prog X.w)) a b hd) ⟨a0K hu,k,xs,V5 I.hok eb,dd,h _ _ (I.tok _) ?_⟩;rw[l];exact(rel.val k).getD rfl
def EH(hu:A.units+1<cLine)(I:Inv X pins σ H s)(g:d8 H a y o)(ry:RelV y u)(rd:RelV d r)(h:∀w' s',Inv X pins σ H s'->RelV (o.getD d) w'->Q w' s'):
  wpAny (NO X) A (call (.builtin "dict.get") [.ref a,u,r]) Q E s:=by
 rcases g with⟨kvs,k,e,ey,l⟩|⟨kvs,k,b,e,ey,eb,l⟩
 .subst ey;obtain⟨z,hd,vs,rel,dd⟩:=Y1 I.hok e;refine a1E a0v dd.typeIs a05 (a2h _ _ _) (meets_dict_get_default (z4 X.prog X.w) a (U6 ry) hd r) ⟨_,dd.mapOf,h _ _ (I.tok _) ?_⟩;rw[l];exact(rel.val k).getD rd
 .subst ey;cases(show u=Value.ref b from ry);obtain⟨z,hd,xs,rel,dd⟩:=cg I.hok e;refine a1E a0v dd.typeIs a05 (a2h _ _ _) (meetsH_dict_get_default (tupleKind (z4 X.prog X.w)) a b hd r) ⟨a0K hu,k,xs,V5 I.hok eb,dd,h _ _ (I.tok _) ?_⟩;rw[l];exact(rel.val k).getD rd
def EI(td ty:TE):TE:=λσ H Q=>td σ H λx H1=>∃a,x=.ref a/\IsD H1 a/\ty σ H1 λy H2=>∃o,d8 H2 a y o/\Q (o.getD .non) H2
def EJ(td ty tx:TE):TE:=λσ H Q=>td σ H λx H1=>∃a,x=.ref a/\IsD H1 a/\ty σ H1 λy H2=>tx σ H2 λz H3=>∃o,d8 H3 a y o/\Q (o.getD z) H3
def uh(hu:X.A.units+1<cLine)(ho:PE X o td)(he:PE X e ty)(m:M1 X o "get" jo e vz):PE X (.Call (.Attribute o "get" jo) [e] [] vz) (EI td ty):=by intro pins s σ H Q I h;refine wpAny_Call_method m.base m.few m.line a1n a0v a2u (thn (ho pins s σ H _ I h) λu s1 ⟨x,H1,I1,rx,a,ex,d,q1⟩=>?_);subst ex;obtain rfl:u=Value.ref a:=rx;obtain⟨t1,t2,_⟩:=AE I1 d;refine⟨t1,t2,?_⟩;rw[m.trees];refine a04 rfl (a1B (a01 (thn (he pins s1 σ H1 _ I1 q1) λiv s2 ⟨y,H2,I2,ry,ov,g,q2⟩=>a1p ?_)));exact EG hu I2 g ry λw' s3 I3 rw'=>⟨_,H2,I3,rw',q2⟩
def ui(hu:X.A.units+1<cLine)(ho:PE X o td)(he:PE X e ty)(hf:PE X f tx)(m:M2 X o "get" jo e f vz):PE X (.Call (.Attribute o "get" jo) [e,f] [] vz) (EJ td ty tx):=by
 intro pins s σ H Q I h;refine wpAny_Call_method m.base m.few m.line a1n a0v a2u (thn (ho pins s σ H _ I h) λu s1 ⟨x,H1,I1,rx,a,ex,d,q1⟩=>?_);subst ex;obtain rfl:u=Value.ref a:=rx;obtain⟨t1,t2,_⟩:=AE I1 d;refine⟨t1,t2,?_⟩;rw[m.trees];refine a04 rfl (a1B (a01 (thn (he pins s1 σ H1 _ I1 q1) λiv s2 ⟨y,H2,I2,ry,q2⟩=>
  a01 (thn (hf pins s2 σ H2 _ I2 q2) λfv s3 ⟨z,H3,I3,rz,ov,g,q3⟩=>a1p ?_))))
 exact EH hu I3 g ry rz λw' s4 I4 rw'=>⟨_,H3,I4,rw',q3⟩
def uj(I:Inv X pins σ H s)(e:Rd H a (.dK kvs))(h:∀p s',H p=none->Inv X pins σ (upd H p (.dK kvs)) s'->Q (.ref p) s'):wpAny (NO X) A (call (.type "dict") [.ref a]) Q E s:=by obtain⟨z,hd,vs,rel,dd⟩:=Y1 I.hok e;refine kt_call_dict hd dd (by rw[<- rel.length];exact z) λh' dd' hs=>?_;refine h _ _ (I.hok.fresh (M7 _)) (I.laid (a:=s.heap.objs.size) (o:=.dK kvs) (t':=s.toks) (λb q hq=>?_) (M7 _) (cj z (T7.mpr (Ne.symm (O1 I.big))) rel dd'));exact(hs.2 b (O1 (N4 hq))).trans (M6 _ hq)
section
variable {X:Cx}{pins:My}{σ:St}{H:Hp}{s:MH}{a:Addr}{y:V}{u:Value}{A:Nb}{E:MC}
end
end L2
namespace Att
open PySem PySem.W PySem.Calls PyProof.Rows
def V6:∀(ns:Nc)(vs:MJ),WellAll P h vs (ns.map WData.int)->IntsAre vs ns:=by
 intro ns
 induction ns with
 |nil=>intro vs w;rw[a1C]at w;cases w;exact .nil
 |cons n ns ih=>
  intro vs w;rw[N5]at w;cases w with
  |cons a b=>cases a;exact .cons _ _ (ih _ b)
def oa{l:OpenLaw}{n:Nat}(hn:l.most=some n){P:Params}{h:Heap}{args:List WData}{vals:MJ}
  (hpre:l.row.toRowW.claim.pre args=true) (hwl:WellAll P h vals args):
  ∃a vs ns,vals=[Value.ref a]/\args=[WData.list (ns.map WData.int)]/\h.get? a=some { cls:=.type "list",data:=.seq vs.toArray }/\IntsAre vs ns/\ns.length<=n:=by
 have hsh:WShape.hasAll [] args [.list .int]=true:=(pre_splitW hpre).1;have hc:l.pre.holds [] { args:=args }=true:=(pre_splitW hpre).2;obtain⟨d,r,rfl,h1,h2⟩:=hasAllW_cons hsh;obtain rfl:=hasAllW_nil h2;obtain⟨xs,rfl,h3⟩:=hasW_list h1;obtain⟨ns,rfl⟩:=items_int h3;have hlen:ns.length<=n:=by
  unfold OpenLaw.pre at hc;have h4:(WTm.not (.lt (.lit (.int (n:Int))) (.len (.arg 0)))).holds [] { args:=[.list (ns.map .int)] }=true:=by have h4:=(holds_andW hc).1;rw[hn]at h4;exact h4
  have h5:=condW_of h4 (w_not (w_lt w_lit (w_len_list (w_arg rfl))));rw[u8]at h5;refine Nat.le_of_not_lt λq=>?_;have q':(n:Int)<((ns.length:Nat):Int):=by omega
  first
   | (rw[O0 q']at h5;exact absurd h5 (by decide))
   | (simp at h5;omega)
 cases hwl with
 |cons w1 w2=>
  cases w2;cases w1 with
  |list ho hall=>exact⟨_,_,ns,rfl,rfl,ho,V6 ns _ hall,hlen⟩
def og(l:OpenLaw)(args:List WData):l.row.toRowW.claim.post args (.bool true) args=true:=
 postW_of (r:=l.row.toRowW) (X:=(true==true))
  (show WShape.has [] (.bool true) .bool=true by first|rfl|decide|simp[WShape.has,WShape.arms,WShape.armsAll])
  (show(WTm.eq .res (.lit (.bool true))).value [] { args:=args,res:=some (.bool true),after:=args }=some (.bool (true==true))from w_eq_bool (w_res rfl) w_lit) rfl
def eM{l:OpenLaw}{n:Nat}{q:MV}{loose:MD}{XP:(Str->Option Value)->Heap->Prop}{YP:World->Heap->Prop}{d:DefRec}
  (hn:l.most=some n) (hdf:d.params.defaults=[])
  (call:∀(w:M_)(s₀ s₁:MH)(mg mb:Mz)(fa:Addr)(o:Obj)(pm cd doc:Value)(a:Addr) (vs:MJ) (ns:Nc),
   Ground q loose [] XP w s₀ mg mb s₁.heap->YP w s₁.heap->
   s₁.heap.get? fa=some o->o.data=.func (docDef d.name d.params d.body d.scope pm cd doc)->s₁.heap.CodeRec cd d.name->mg d.name=some (.ref fa)->
   s₁.heap.get? a=some { cls:=.type "list",data:=.seq vs.toArray }->IntsAre vs ns->ns.length<=n->s₁.gens = #[]->
   codeAny (model l.prog w) callerA (.call (.ref fa) ⟨[.ref a],[]⟩) (λr s'=>r=.ok (.ret (.bool true))/\OldK s₁.heap s'.heap/\s'.os=s₁.os/\AllBare s'.gens) s₁):
  WalkO q loose XP YP l.row.toRowW d [] (λf vs=>PySem.call f vs):=by
 intro w s₀ s₁ mg mb G Y fa o pm cd doc dV kV ho hd hcd hD hmg hg args vals as hpre hlay hrd hwl hlo;obtain rfl:dV=.none:=Dflts.none hD hdf;obtain rfl:kV=.none:=Dflts.noKw hD;obtain⟨a,vs,ns,rfl,rfl,hobj,hints,hlen⟩:=oa hn hpre hwl;refine enter_call (a0J (call w s₀ s₁ mg mb fa o pm cd doc a vs ns G Y ho (fd_plain hd) hcd hmg hobj hints hlen hg) λr s' hq=>?_);obtain⟨rfl,h2,h3,h4⟩:=hq;exact⟨.inl ⟨.bool true,.bool true,[],rfl,λ_=>rfl,.bool true,og l _,λ_=>⟨List.Pairwise.nil,λ_ hm=>(nomatch hm)⟩⟩,h2,h3,h4⟩
section
variable {prog:MV}{w:M_}{A:Nb}{E:MC}{s:MH}{K:Nh}
end
end Att
namespace L2
open PySem PySem.Spec PyProof.Rows
def cn:∀{vs:MJ}{ns:Nc},IntsAre vs ns->Vals (ns.map V.int) vs
 |_,_,.nil=>.nil
 |_,_,.cons n t h=>.cons ⟨t,rfl⟩ (cn h)
def inClass(s:Nq)(j:Nat):Stmt:=match s with
 |.ClassDef _ _ _ body _ _ _ _ _ _ _=>body.getD j (.Pass ⟨0,0,0,0⟩)
 |_=>.Pass ⟨0,0,0,0⟩
def V7(s:Nq):Arguments:=match s with
 |.FunctionDef _ a _ _ _ _ _ _ _ _=>a
 |_=>{ posonlyargs:=[],args:=[],vararg:=none,kwonlyargs:=[],kw_defaults:=[],kwarg:=none,defaults:=[] }
def vA(s:Nq):List Stmt:=match s with
 |.FunctionDef _ _ b _ _ _ _ _ _ _=>b
 |_=>[]
def zi(s:Nq):Scope:=match s with
 |.FunctionDef _ _ _ _ _ _ sc _ _ _=>sc
 |_=>{ kind:=.function,names:=[],isGenerator:=false,isCoroutine:=false }
abbrev E0:XK:=λ_ _ _=>False
structure Fun(K:MQ)(x qual:Str)(st:Nq)(f:Addr)(fd:Na):Prop where
 ex:∃(oc:Value)(od:Np)(kV doc pm:Value)(an:Np)(cdv ct:Value)(osl:Ng),
  fd=PySem.W.fnOf x qual (V7 st) (vA st) (zi st) .none kV doc pm an cdv ct/\K.lookup f=some ⟨oc,od,.func fd,osl⟩/\PySem.W.codeIn K cdv qual=true
 kp:PySem.W.keepIn K (.ref f)=true
section
variable {P:MV}{w:M_}{K:MQ}{mg:Mz}{base:Heap}
def Fun.binds{x qual:Str}{st:Nq}{f:Addr}{fd:Na}{ps:MD}(F:Fun K x qual st f fd)
  (h:∀(kV doc pm:Value)(an:Np)(cdv ct:Value)(us:MJ),us.length=ps.length->bindArgs (PySem.W.fnOf x qual (V7 st) (vA st) (zi st) .none kV doc pm an cdv ct) ⟨us,[]⟩=pure (ps.zip us)):Binds K fd ps []:=by
 obtain⟨oc,od,kV,doc,pm,an,cdv,ct,osl,rfl,lk,hcd⟩:=F.ex;exact .all (h kV doc pm an cdv ct)
def AF{x qual:Str}{st:Nq}{f:Addr}{oc:Value}{od an:Np}{osl:Ng}{kV doc pm cdv ct:Value}(l:K.lookup f=some ⟨oc,od,.func (PySem.W.fnOf x qual (V7 st) (vA st) (zi st) .none kV doc pm an cdv ct),osl⟩)
  (c:PySem.W.codeIn K cdv qual=true) (k:PySem.W.keepIn K (.ref f)=true):Fun K x qual st f (PySem.W.fnOf x qual (V7 st) (vA st) (zi st) .none kV doc pm an cdv ct):=⟨⟨oc,od,kV,doc,pm,an,cdv,ct,osl,rfl,l,c⟩,k⟩
end
def qO(hr:qQ k A):A.units+1<cLine:=a0L (a2L (by decide:1<=64) _) hr.units
def pv(i:Nat)(hN:X.N[i]?=some x:=by rfl)(hv:Vis X.env.scope x:=by first|exact Or.inl rfl|exact Or.inr (Or.inl rfl)|exact Or.inr (Or.inr rfl))(hd:(x==("__debug__":Str))=false:=by decide)
  (hcd:(x==("__classdict__":Str))=false:=by decide):PE X (.Name x pos) (eC i):=Eb hN hv hd hcd
def AG{A B:Prop}(h:B):if false=true then A else B:=by rw[if_neg O2];exact h
def AI{A B:Prop}(h:A):if true=true then A else B:=by rw[if_pos rfl];exact h
def zl(H H':Hp):Prop:=∀b o,H b=some o->H' b=some o
def zl.refl(H:Hp):zl H H:=λ_ _ h=>h
def zl.trans(a:zl H H1)(b:zl H1 H2):zl H H2:=λc o h=>b c o (a c o h)
section
variable {κ:Type}[DecidableEq κ]
end
end L2
set_option maxHeartbeats 4000000
namespace L2
open PySem PySem.Spec PyProof.Rows PySem.W
def jT:List Value:=[.type "ValueError",.type "Exception",.type "BaseException",.type "object"]
def cq:List Value->List Value
 |.ref _::r=>cq r
 |l=>l
structure ZQ(K:Nh)(C:Addr):Prop where
 over:(clsIn K C).any (λcd=>cq cd.mro==jT && !cd.mro.isEmpty&&cd.hasDict)=true
 sa:findIn K (.ref C) "__setattr__"=some (some (.builtin "object.__setattr__"))
 ga:findIn K (.ref C) "__getattribute__"=some (some (.builtin "BaseException.__getattribute__"))
 gn:findIn K (.ref C) "__getattr__"=some none
 ty:typeIn K (.ref C)=some (.type "type")
def KD(self:Value):∀l:List Value,cq l=jT->refuseLoop self "__setattr__" l=pure ()
 |[],e=>by cases e
 |.ref c::r,e=>by rw[refuseLoop_ref];exact KD self r e
 |.type n::r,e=>by rw[show Value.type n::r=jT from e];exact PySem.F.store_ValueError.passes self
 |.none::r,e=>by cases e
 |.bool _::r,e=>by cases e
 |.int _ _::r,e=>by cases e
 |.str _ _::r,e=>by cases e
 |.bytes _ _::r,e=>by cases e
 |.float _ _::r,e=>by cases e
 |.builtin _::r,e=>by cases e
 |.ellipsis::r,e=>by cases e
 |.notImplemented::r,e=>by cases e
def cu{x:String}(hx:jT.contains (.type x)=true):∀l:List Value,cq l=jT->l.contains (.type x)=true
 |[],e=>by cases e
 |.ref c::r,e=>by rw[List.contains_cons,cu hx r e,Bool.or_true]
 |.type n::r,e=>by rw[show Value.type n::r=jT from e];exact hx
 |.none::r,e=>by cases e
 |.bool _::r,e=>by cases e
 |.int _ _::r,e=>by cases e
 |.str _ _::r,e=>by cases e
 |.bytes _ _::r,e=>by cases e
 |.float _ _::r,e=>by cases e
 |.builtin _::r,e=>by cases e
 |.ellipsis::r,e=>by cases e
 |.notImplemented::r,e=>by cases e
def ZQ.cd{K:Nh}{C:Addr}(c:ZQ K C):∃cd,clsIn K C=some cd/\cq cd.mro=jT/\cd.mro.isEmpty=false/\cd.hasDict=true:=by obtain⟨cd,hc,h⟩:=any_some c.over;simp only[Bool.and_eq_true,beq_iff_eq,Bool.not_eq_true']at h;exact⟨cd,hc,h.1.1,h.1.2,h.2⟩
def ZQ.sub{K:Nh}{C:Addr}(c:ZQ K C){x:String}(hx:jT.contains (.type x)=true):mroIn K C (.type x)=some true:=by obtain⟨cd,hc,h1,h2,_⟩:=c.cd;unfold mroIn;rw[hc,Option.bind_some,if_neg (by rw[h2];decide),cu hx _ h1]
def yA(C:Addr)(od:Np)(t:Addr)(T:Value)(sl:Ng):Obj:=⟨.ref C,od,.fields #[.ref t,T,.none,.none,.bool false,.none],sl⟩
section
variable {prog:MV}{w:M_}{A:Nb}{E:MC}{s:MH}{K:Nh}{x dx C t:Addr}{T:Value}{sl:Ng}{mA:Mz}{name:Str}{v:Value}{R:Result->Shared->Prop}
def gI(X:K.In s.heap)(c:ZQ K C)(I:InstAt s.heap x (yA C od t T sl) C oo)(ht:takerIn K C name=some none)
  (h:∀b,wpAny (model prog w) A.in1 (Builtin.ObjectAttr.storeInOwnDict (.ref x) (.ref C) (.str name tk) name v b)
   (λfin s'=>match fin with | .done f=>R (.ok f) s' | .again c'=>c'.quiet=true/\codeAny (model prog w) A c' R s') (λe s'=>R (.error e) s') s):
  codeAny (model prog w) A (.call (.builtin "object.__setattr__") ⟨[.ref x,.str name tk,v],[]⟩) R s:=by
 have SF:=PySem.F.store_object;obtain⟨cd,hc,ho,ne,_⟩:=c.cd;have sub:Looks (model prog w) s.heap (isInstance (.ref x) (.type "object")) true:=I.type.andThen (a1N X (c.sub (x:="object") (by decide)));refine a1c SF.slot.plain SF.entry (@check_slot (model prog w) _ _ s "object.__setattr__" "object" "__setattr__" (.ref x) [.str name tk,v] [] _ SF.kind SF.split sub (SF.args (.ref x) (.str name tk) v) ?_);obtain⟨attr,ha,hr⟩:=O9.mp ht;have hm:Looks (model prog w) s.heap (mroOf (.ref C)) cd.mro:=(a21 X hc).andThen .now;have L3:Looks (model prog w) s.heap (Builtin.ObjectAttr.storeTaker? attr) none:=by
  cases attr with
  |none=>exact .now
  |some a=>
   obtain⟨b,hb,e⟩:=t0.mp hr;refine(looks_takesIn X hb).andThen ?_;cases b with
   |true=>cases e
   |false=>exact .now
 rw[osa_eq,refuse_eq];refine f8 (f8 (I.type.here (f8 (hm.here ?_))));rw[KD _ _ ho];refine M9 (f8 (I.type.here (f8 ((a1k X ha).here (f8 (L3.here ?_))))));exact h _
def l4(X:K.In s.heap)(c:ZQ K C)(hx:s.heap.get? x=some (yA C none t T sl))(ht:takerIn K C name=some none)
  (h:∀h',h'.get? x=some (yA C (some s.heap.objs.size) t T sl)->h'.Ns1 s.heap.objs.size (λy=>if y=name then some v else none)->
   (∀b o,b≠x->s.heap.get? b=some o->h'.get? b=some o)->Q () { s with heap:=h',toks:=s.toks+2 }):
  wpAny (model prog w) A (setAttr (.ref x) name v) Q E s:=by
 have I:InstAt s.heap x (yA C none t T sl) C none:=⟨hx,rfl,rfl,trivial⟩;refine set_plain X I c.sa (gI (s:={ s with toks:=s.toks+1 }) X c I ht λb=>?_);obtain⟨cd,hc,_,_,hd⟩:=c.cd;have hxs:x≠s.heap.objs.size:=O1 (N4 hx);have hx1:(s.heap.push emptyDict).get? x=some (yA C none t T sl):=M6 _ hx;refine f8 (M9 (f8 (f8 (a07 hx (f8 (Looks.here (s:={ s with toks:=s.toks+1 }) (a21 X hc) ?_))))));rw[hd];refine f8 (wpAny_alloc' (f8 (wpAny_update' hx1 (M9 ?_))));have hgx:((s.heap.push emptyDict).update x λo=>{ o with dict:=some s.heap.objs.size }).get? x=some (yA C (some s.heap.objs.size) t T sl):=a0j _ hx1 rfl;have hgd:((s.heap.push emptyDict).update x λo=>{ o with dict:=some s.heap.objs.size }).get? s.heap.objs.size=some emptyDict:=(a1L _ _ _ _ hxs.symm).trans (Heap.get?_push_at rfl rfl);have hnd:((s.heap.push emptyDict).update x λo=>{ o with dict:=some s.heap.objs.size }).Ns s.heap.objs.size (λ_=>none):=⟨_,#[],_,hgd,rfl,λe he=>absurd he (by simp),λ_=>rfl⟩;refine f8 (M9 (f8 ?_));refine a2T (s:={ s with heap:=(s.heap.push emptyDict).update x λo=>{ o with dict:=some s.heap.objs.size },toks:=s.toks+1 }) (Heap.Ns1.of_empty hnd) λh' hn' hs=>?_;obtain⟨oD,esD,epD,hoD,hdD,hcD⟩:=hn'.count (a1Y name v PySem.Within.nil);refine f8 (a15 hoD (by rw[hdD];exact a16 (P7 hcD (by rw[v4,a1h,a0e];omega))) ?_);refine M9 (h _ ((hs.2 _ hxs).trans hgx) hn' λb o hb e=>?_);exact(hs.2 _ (O1 (N4 e))).trans ((a1L _ _ _ _ hb).trans (M6 _ e))
def oh(X:K.In s.heap)(c:ZQ K C)(hx:s.heap.get? x=some (yA C (some dx) t T sl))(hn:s.heap.Ns1 dx mA)(hne:dx≠x)(ht:takerIn K C name=some none)
  (hw:PySem.Within mA ns) (hsz:ns.length<=sizeLine)
  (h:∀h',h'.Ns1 dx (λy=>if y=name then some v else mA y)->Heap.SameBut dx s.heap h'->Q () { s with heap:=h',toks:=s.toks+2 }):
  wpAny (model prog w) A (setAttr (.ref x) name v) Q E s:=by
 obtain⟨od,hod,_⟩:=Q1 hn;have I:InstAt s.heap x (yA C (some dx) t T sl) C (some od):=⟨hx,rfl,rfl,hod⟩;refine set_plain X I c.sa (gI (s:={ s with toks:=s.toks+1 }) X c I ht λb=>?_);obtain⟨cd,hc,_,_,hd⟩:=c.cd;refine f8 (M9 (f8 (f8 (a07 hx (f8 (Looks.here (s:={ s with toks:=s.toks+1 }) (a21 X hc) ?_))))));rw[hd];refine M9 (a:=some dx) (f8 (M9 (f8 ?_)));refine a2T (s:={ s with toks:=s.toks+1 }) hn λh' hn2 hs2=>?_;obtain⟨oD,esD,epD,hoD,hdD,hcD⟩:=hn2.count (a1Y name v hw);refine f8 (a15 hoD (by rw[hdD];exact a16 (P7 hcD (by rw[v4];omega))) ?_);exact M9 (h _ hn2 hs2)
def L_(X:K.In s.heap)(c:ZQ K C)(hx:s.heap.get? x=some (yA C (some dx) t T sl))(hn:s.heap.Ns1 dx mA)(ha:findIn K (.ref C) name=some none)
  (hv:mA name=some v) (hh:handedIn v=true) (h:Q v { s with toks:=s.toks+1 }):wpAny (model prog w) A (getAttr (.ref x) name expr) Q E s:=by
 obtain⟨od,hod,hl⟩:=Q1 hn;have I:InstAt s.heap x (yA C (some dx) t T sl) C (some od):=⟨hx,rfl,rfl,hod⟩;obtain⟨cd,hc,ho,ne,hdct⟩:=c.cd;obtain⟨hp,g,d,tk,os⟩:=s;have L0:=I.type (M:=model prog w);have L1:=a1k (M:=model prog w) X c.ga;have L2:=a1k (M:=model prog w) X c.gn;have Lb:Looks (model prog w) hp (isInstance (.ref x) (.type "BaseException")) true:=L0.andThen (a1N X (c.sub (x:="BaseException") (by decide)));have L3:=looks_find (M:=model prog w) X I (findObj_own (by unfold hasDictIn;rw[hc];exact hdct) ha rfl (by rw[hl,hv]));have ga:=PySem.F.excAttr_ValueError.ga;have f3:=ga.bind (.ref x);unfold getAttr getAttrBy;refine f8 (a17 (T8 (f8 (L0.at (f8 (L1.at ?_))))));dsimp only;rw[show(onTheHeap (Value.ref C)&&Value.builtin "BaseException.__getattribute__"==Value.builtin "object.__getattribute__")=false from by
  rw[show(Value.builtin "BaseException.__getattribute__"==Value.builtin "object.__getattribute__")=false from by decide +kernel];rfl]
 show wpAny _ _ (getAttrByItsOwn _ _ _ _ _ _) _ _ _;unfold getAttrByItsOwn;refine f8 (show wpAny _ _ (typeLookup (.ref C) "__getattr__") _ _ _ from L2.at ?_);unfold callGetattribute boundAndCalled;rw[show(expr&&onTheHeap (Value.builtin "BaseException.__getattribute__"))=false from by cases expr<;>rfl];refine f8 (a1f (T8 ?_));show wpAny _ _ (bindSpecial _ _ >>= _) _ _ _;rw[f3];refine f8 (M9 (a0G (a1c ga.plain F.entry_bexc_ga ?_)));have hk:builtinKind "BaseException.__getattribute__"=some .slot:=by decide +kernel
 have hs:splitId "BaseException.__getattribute__"=some ("BaseException","__getattribute__"):=by decide +kernel
 refine @check_slot (model prog w) _ _ ⟨hp,g,d,tk+1,os⟩ "BaseException.__getattribute__" "BaseException" "__getattribute__" (.ref x) [.str name tk] [] _ hk hs Lb (F.args_bexc_ga (.ref x) (.str name tk)) ?_;unfold Builtin.«object.__getattribute__»
 repeat lk
 show wpAny _ _ (handedOut v) _ _ _;rw[handedOut_of hh];exact M9 h
end
def strKeys(es:Array DictEntry):Bool:=es.toList.all λe=>match e.key with | .str _ _=>true|_=>false
def cw(K:Nh):List Value->Bool
 |.ref a::r=>(match K.lookup a with
   |some ⟨_,_,.cls cd,_⟩=>(match K.lookup cd.ns with
     |some ⟨_,_,.dict es _,_⟩=>strKeys es&&(es.toList.all λe=>!e.key.isStr "__init__")
     |_=>false)
   |_=>false)&&cw K r
 |l=>l==jT
def l6{h:Heap}{N:Addr}{c:Value}{dd:Np}{es:Array DictEntry}{ep:Nat}{sl:Ng}(e:h.get? N=some ⟨c,dd,.dict es ep,sl⟩)(k:strKeys es=true)
  (hi:(es.toList.all λe=>!e.key.isStr "__init__")=true):∃m,h.Ns N m/\m "__init__"=none:=by
 refine⟨λn=>nsFind es n,⟨_,es,ep,e,rfl,λx hx=>?_,λ_=>rfl⟩,?_⟩
 .have q:=a0D.mp k x (a2C.mpr hx);split at q
  .rename_i n t hk;exact⟨n,t,hk⟩
  .cases q
 .show nsFind es "__init__"=none;unfold nsFind findBy;rw[<- a2S,List.find?_eq_none.mpr λx hx=>by simpa using a0D.mp hi x hx];rfl
def oi{K:Nh}{h:Heap}(X:K.In h):∀l:List Value,cw K l=true->OwnTail h jT l
 |.ref a::r,e=>by
  unfold cw at e;obtain⟨e1,e2⟩:=a2E.mp e;split at e1
  .rename_i c dd cd sl hl;split at e1
   .rename_i c2 dd2 es ep sl2 hl2;obtain⟨k1,k2⟩:=a2E.mp e1;obtain⟨m,hm,hm0⟩:=l6 (X _ _ hl2) k1 k2;exact .own (X _ _ hl) hm hm0 (oi X r e2)
   .cases e1
  .cases e1
 |[],e=>by cases e
 |.type n::r,e=>by rw[show Value.type n::r=jT from R8.mp e];exact .base
 |.none::r,e=>by rw[show Value.none::r=jT from R8.mp e];exact .base
 |.bool _::r,e=>by rw[R8.mp e];exact .base
 |.int _ _::r,e=>by rw[R8.mp e];exact .base
 |.str _ _::r,e=>by rw[R8.mp e];exact .base
 |.bytes _ _::r,e=>by rw[R8.mp e];exact .base
 |.float _ _::r,e=>by rw[R8.mp e];exact .base
 |.builtin _::r,e=>by rw[R8.mp e];exact .base
 |.ellipsis::r,e=>by rw[R8.mp e];exact .base
 |.notImplemented::r,e=>by rw[R8.mp e];exact .base
structure XMk(K:Nh)(C f:Addr):Prop where
 cls:∃nm q N bs bm sn sub ab col dd k0 k1 k2 k3 k5,K.lookup C=some (excClassObj nm q C N bs bm true sn sub ab col dd k0 k1 k2 k3 k5 "ValueError.__new__")/\cw K bm=true
 init:findIn K (.ref C) "__init__"=some (some (.ref f))
 fn:typeIn K (.ref f)=some (.type "function")
 kp:keepIn K (.ref C)=true
section
variable {prog:MV}{w:M_}{A:Nb}{E:MC}{K:Nh}{C f:Addr}{h:Heap}{g:Array GenState}{d:Drawn}{t:Nat}{os:OsState}
def AJ(rest:MJ):Obj:={ cls:=.type "tuple",data:=.seq rest.toArray }
def HL{rest:MJ}{Q:MC}(M:XMk K C f)(X:K.In h)(hrest:rest.length<=sizeLine)
  (hq:codeAny (model prog w) (A.under (.builtin "type.__call__" ⟨.ref C::rest,[]⟩)) (.call (.ref f) ⟨.ref (h.objs.size+1)::rest,[]⟩) (λr s'=>match r with | .ok (.ret v)=>v=.none/\Q (.ref (h.objs.size+1)) s' | .ok _=>False | .error e=>E e s')
   ⟨(h.push (AJ rest)).push (yA C none h.objs.size .none #[]),g,d,t,os⟩):
  wpAny (model prog w) A (call (.ref C) rest) Q E ⟨h,g,d,t,os⟩:=by
 obtain⟨nm,q,N,bs,bm,sn,sub,ab,col,dd,k0,k1,k2,k3,k5,hK,hT⟩:=M.cls;have hC:=X _ _ hK;have T:=oi X _ hT;have F:=PySem.F.excBase_ValueError;have f1:=tc_lookup;have f2:=tc_bind (.ref C);have hTy:(⟨h,g,d,t,os⟩:Shared).TypeIs (.ref C) "type":=⟨_,hC,rfl⟩;refine a0G (codeAny_of_tree ?_);show wpAny _ _ (callAny (.ref C) _) _ _ _
 repeat(any_goals(first|assumption|with_reducible refine wpAny_loadPart_at hC ?_|wp_step))
 refine And.intro rfl (codeAny_call_builtin_at (a2W _ (by decide +kernel)) entry_typeCall (wpAny_check_type_call_sub hC ?_))
 repeat(first|with_reducible refine wpAny_loadPart_at hC ?_|with_reducible refine wpAny_madeBy_exc hC ?_|wp_step)
 refine codeAny_call_builtin_code (a2W _ F.quiet) (wpAny_check_new_subT F T hC (codeAny_exc_new_subT F T hC ?_ hrest));show wpAny _ _ _ _ _ ⟨(h.push (AJ rest)).push (yA C none h.objs.size .none #[]),g,d,t,os⟩;have kp:∀b o,h.get? b=some o->((h.push (AJ rest)).push (yA C none h.objs.size .none #[])).get? b=some o:=λb o e=>M6 _ (M6 _ e);have hx:((h.push (AJ rest)).push (yA C none h.objs.size .none #[])).get? (h.objs.size+1)=some (yA C none h.objs.size .none #[]):=by heap_get
 have X1:K.In ((h.push (AJ rest)).push (yA C none h.objs.size .none #[])):=X.keeps kp;have t1:Looks (model prog w) ((h.push (AJ rest)).push (yA C none h.objs.size .none #[])) (typeOf (.ref (h.objs.size+1))) (.ref C):=(Looks.ld hx).andThen .now;have s1:Looks (model prog w) ((h.push (AJ rest)).push (yA C none h.objs.size .none #[])) (isSubtype (.ref C) (.ref C)) true:=a1N X1 (by
  unfold mroIn clsIn;rw[hK];simp)
 have i1:=a1k (M:=model prog w) X1 M.init;have b1:=bind_fn (M:=model prog w) X1 (.ref (h.objs.size+1)) M.fn;unfold isInstance callSpecial? specialOf
 repeat(first|with_reducible refine a0G ?_|lk)
 refine a0J hq λr s' z=>?_;rcases r with e|(v|_|_|_)<;>first|exact z|exact z.elim|skip
 obtain⟨rfl,z⟩:=z;exact M9 (M9 z)
end
def XO(e C:Addr)(od:Np)(T:Value):HO:=.ext λh=>∃t sl,h.get? e=some (yA C od t T sl)
def XD(dx:Addr)(fs:Nd):HO:=.ext λh=>∃mA,h.Ns1 dx mA/\(∀f,Vm (fs.lookup f) (mA f))/\PySem.Within mA (fs.map (·.1))/\fs.length<=1000
def XO.ok(x:h.get? e=some (yA C od t T sl)):yF P w H h e (XO e C od T):=
 ⟨⟨t,sl,x⟩,⟨_,x⟩,λ_ _ ⟨t',sl',p⟩ k=>⟨t',sl',k _ p⟩⟩
def XO.get(x:yF P w H h e (XO e C od T)):∃t sl,h.get? e=some (yA C od t T sl):=x.1
def XD.ok(n:h.Ns1 dx mA)(r:∀f,Vm (fs.lookup f) (mA f))(wi:PySem.Within mA (fs.map (·.1)))(l:fs.length<=1000):yF P w H h dx (XD dx fs):=by refine⟨⟨mA,n,r,wi,l⟩,?_,λh1 h2 ⟨m,⟨o,es,ep,ho,q⟩,r1⟩ k=>⟨m,⟨o,es,ep,k _ ho,q⟩,r1⟩⟩;obtain⟨o,es,ep,ho,_⟩:=n;exact⟨o,ho⟩
def XD.get(x:yF P w H h dx (XD dx fs)):∃mA,h.Ns1 dx mA/\(∀f,Vm (fs.lookup f) (mA f))/\PySem.Within mA (fs.map (·.1))/\fs.length<=1000:=x.1
def Inv.B6(I:Inv X pins σ H s)(he:H e=some (XO e C od T))(ch:Nf)(hch:∀b∈ch,X.s₀.heap.objs.size<=b/\H b=none/\b≠X.env.locals/\(∀x c,X.env.cells.lookup x=some c->c≠b)/\∀p∈X.pn++pins,p.1≠b)
  (keep:∀b o,b≠e->b∉ch->b∉frs X.stack->s.heap.get? b=some o->h'.get? b=some o)
  (slot:∀b o,b∈frs X.stack->s.heap.get? b=some o->∃sl,h'.get? b=some { o with slots:=sl })
  (hx:∃t sl,h'.get? e=some (yA C od t T' sl)):Inv X pins σ (upd H e (XO e C od T')) { s with heap:=h' }:=by
 have ne:∀b,H b=none->b≠e:=λb n z=>by rw[z,he]at n;cases n
 have nf:∀b o,H b=some o->b∉frs X.stack:=λb o q z=>by rw[I.UX b z]at q;cases q
 have nc:∀b o,H b=some o->b∉ch:=λb o q z=>by rw[(hch b z).2.1]at q;cases q
 obtain⟨t',sl',hx'⟩:=hx;have any:∀b o,b∉ch->b≠e->s.heap.get? b=some o->∃sl,h'.get? b=some { o with slots:=sl }:=λb o hb hne q=>by
  by_cases hf:b∈frs X.stack
  .exact slot b o hf q
  .exact⟨o.slots,keep b o hne hb hf q⟩
 refine I.step (g':=s.gens) (d':=s.drawn) (t':=s.toks) (ch:=ch) (λb hb=>⟨.inr (hch b hb).1,(hch b hb).2.2⟩) (λb o hL hb hc q n=>keep b o (ne b n) hc (λz=>?_) q) (λb o _ _ hc q n=>any b o hc (ne b n) q)
  (λb o _ _ n=>by rw[zg (ne b n)];exact n) (λb o hc q=>?_) (λb xs q=>?_) (λb o u q=>?_) (λb ps q=>⟨#[],?_⟩) (λm hm=>?_) (λb u q=>?_) I.bare
 .rcases O5.mp (I.Uj b z)with z|z
  .exact hL z
  .exact hb z
 .by_cases hbe:b=e
  .exact⟨_,hbe▸hx'⟩
  .obtain⟨sl,q'⟩:=any b o hc hbe q;exact⟨_,q'⟩
 .have:b≠e:=λz=>by rw[z,he]at q;cases q
  rw[zg this];exact q
 .have:b≠e:=λz=>by rw[z,he]at q;cases q
  rw[zg this];exact q
 .have:b≠e:=λz=>by rw[z,he]at q;cases q
  rw[zg this,q];simp
 .obtain⟨o,es,ep,ho,r⟩:=hm;have hL:H X.env.locals=none:=I.free;obtain⟨sl,q'⟩:=any _ o (λz=>(hch _ z).2.2.1 rfl) (ne _ hL) ho;exact⟨_,es,ep,q',r⟩
 .by_cases hbe:b=e
  .subst hbe;rw[zd]at q;cases q;exact XO.ok hx'
  .rw[zg hbe]at q;refine(I.hok b u q).nj (λc v hc r=>?_) (λc r=>?_) λc xs r=>?_
   .rcases hc with z|z
    .subst z;exact keep c v hbe (nc c u q) (nf c u q) r
    .have:c≠e:=λz2=>by rw[z2,he]at z;cases z
     exact keep c v this (nc c _ z) (nf c _ z) r
   .have:c≠e:=λz2=>by rw[z2,he]at r;cases r
    rw[zg this];exact r
   .have:c≠e:=λz2=>by rw[z2,he]at r;cases r
    rw[zg this];exact r
structure Tb(X:Cx)(pins:My)(H:Hp)(s:MH)(Ta:Addr)(fl:Value):Prop where
 tbk:∃oT ts,s.heap.get? Ta=some oT/\oT.data=.fields ts/\ts[3]?=some fl
 new:X.s₀.heap.objs.size<=Ta
 free:H Ta=none
 pin:∀p∈X.pn++pins,p.1≠Ta
def Own(X:Cx):Prop:=X.stack=X.env::X.outer/\X.env.frame=some X.env.locals
def Tb.ok(I:Inv X pins σ H s)(b:Tb X pins H s Ta fl):Ta≠X.env.locals/\(∀x c,X.env.cells.lookup x=some c->c≠Ta)/\Ta∉frs X.stack:=by
 obtain⟨oT,ts,h1,h2,_⟩:=b.tbk;have nL:Ta≠X.env.locals:=λz=>by obtain⟨m,⟨o,es,ep,ho,hd,_⟩,_⟩:=I.loc;rw[z]at h1;rw[h1]at ho;cases ho;rw[h2]at hd;cases hd
 refine⟨nL,λx c q z=>?_,λz=>?_⟩
 .obtain⟨v,o,ho,hd⟩:=I.cell x c q;rw[z,h1]at ho;cases ho;rw[h2]at hd;cases hd
 .rcases O5.mp (I.Uj _ z)with z|z
  .exact nL z
  .obtain⟨_,o,ho,hn⟩:=I.eB.mem z;rw[h1]at ho;cases ho;exact hn _ h2
def U8(I:Inv X pins σ H s)(he:H e=some (XO e C od (.ref Ta)))(b:Tb X pins H s Ta fl)
  (hQ:∀h',Inv X pins σ (upd H e (XO e C od (.ref Ta))) { s with heap:=h' }->Tb X pins (upd H e (XO e C od (.ref Ta))) { s with heap:=h' } Ta (f.elim .none λf=>rawInt f)->Q () { s with heap:=h' }):
  wpAny M A (setFlight (.ref e) f) Q E s:=by
 obtain⟨t,sl,hx⟩:=XO.get (I.hok e _ he);obtain⟨oT,ts,h1,h2,h3⟩:=id b.tbk;obtain⟨n1,n2,n3⟩:=b.ok I;have nTe:Ta≠e:=λz=>by have:=b.free;rw[z,he]at this;cases this
 have sz:=(a1g.mp h3).1;unfold setFlight;refine f8 (a1O hx rfl (x:=.ref Ta) rfl ?_);rw[if_pos (show(Value.ref Ta != Value.none)=true from by simp)];refine a2v h1 h2 sz ?_;have oth:∀c,c≠Ta->(s.heap.update Ta (Obj.mapFields (·.setIfInBounds 3 (f.elim .none λf=>rawInt f)))).get? c=s.heap.get? c:=λc hc=>P8 _ _ (Ne.symm hc);refine hQ _ (I.B6 he [Ta] (λc hc=>?_) (λc o _ hc _ q=>(oth c (by simpa using hc)).trans q) (λc o hc q=>⟨o.slots,(oth c (λz=>n3 (z▸hc))).trans q⟩) ⟨t,sl,(oth e (Ne.symm nTe)).trans hx⟩) ⟨⟨_,_,Heap.get?_update_self _ h1 (Obj.isFreed_of_fields (Obj.data_mapFields h2 _)),Obj.data_mapFields h2 _,by simp[sz]⟩,b.new,by rw[zg nTe];exact b.free,b.pin⟩;obtain rfl:c=Ta:=by simpa using hc
 exact⟨b.new,b.free,n1,n2,b.pin⟩
def uk(I:Inv X pins σ H s)(he:H e=some (XO e C od .none))(hQ:Q () s):wpAny M A (setFlight (.ref e) f) Q E s:=by obtain⟨t,sl,hx⟩:=XO.get (I.hok e _ he);unfold setFlight;refine f8 (a1O hx rfl (x:=.none) rfl ?_);exact M9 hQ
def cy(own:Own X)(hA:A.frames=some X.stack)(I:Inv X pins σ H s)(he:H e=some (XO e C od T))
  (hQ:∀Tn h',Inv X pins σ (upd H e (XO e C od (.ref Tn))) { s with heap:=h' }->Tb X pins (upd H e (XO e C od (.ref Tn))) { s with heap:=h' } Tn (rawInt X.env.locals)->Q () { s with heap:=h' }):
  wpAny M A (do setField (.ref e) 1 (<- EntryCells.newEntry head (<- frameOf X.env) .none (rawInt X.env.locals) .none (<- entryPlaceOf X.env.locals hadNext))) Q E s:=by
 obtain⟨t,sl,hx⟩:=XO.get (I.hok e _ he);have hst:=I.stack;rw[own.1]at hst hA;refine f8 (wpAny_frameOf_fun hA hst own.2 λh1 hs1=>?_);refine f8 (wpAny_entryPlaceOf λpl hpl=>?_);unfold EntryCells.newEntry newFields;refine f8 (a1q ?_ (hpl.sizeOk5 _ _ _ _ _));have nef:e∉frs (X.env::X.outer):=λz=>by have:=I.UX e (by rw[own.1];exact z);rw[he]at this;cases this
 have hx1:h1.get? e=some (yA C od t T sl):=(hs1.2.1 e nef).trans hx;have hnT:e≠h1.objs.size:=O1 (N4 hx1);refine a2v (M6 _ hx1) rfl (by show 1<6;decide) ?_;have hold:∀c o,c≠e->h1.get? c=some o->∀tb:Obj,((h1.push tb).update e (Obj.mapFields (·.setIfInBounds 1 (Value.ref h1.objs.size)))).get? c=some o:=λc o hc q tb=>
  (P8 _ _ (Ne.symm hc)).trans (M6 _ q)
 have hfr:H h1.objs.size=none:=I.hok.fresh (a1A hs1.1.symm);refine hQ h1.objs.size _ (I.B6 he [] (λ_ z=>nomatch z) (λc o hc _ hf q=>hold c o hc ((hs1.2.1 c (by rw[own.1]at hf;exact hf)).trans q) _) (λc o hf q=>?_) ⟨t,sl,?_⟩) ⟨⟨_,_,(P8 _ _ hnT).trans (O8 _ rfl),rfl,?_⟩,?_,?_,λp hp z=>?_⟩
 .obtain⟨sl',q'⟩:=hs1.2.2 c o q;exact⟨sl',hold c _ (λz=>nef (by rw[own.1]at hf;exact z▸hf)) q' _⟩
 .exact a0j _ (M6 _ hx1) rfl
 .rcases hpl with rfl|⟨_,_,_,_,_,_,_,rfl⟩<;>simp
 .rw[hs1.1];exact I.sz
 .rw[zg (Ne.symm hnT)];exact hfr
 .have q:=(I.pin p hp).1;exact absurd (N4 q) (by rw[z,hs1.1];exact a0k _)
structure XIs(K:Nh)(C:Addr):Prop where
 ha:findIn K (.ref C) "__class__"=some (some (.builtin "object.__class__"))
 hn:specialIn K (.builtin "object.__class__") "__get__"=some (some (.builtin "getset_descriptor.__get__"))
 htk:takesIn K (.builtin "object.__class__")=some true
section
variable {prog:MV}{w:M_}{A:Nb}{E:MC}{s:MH}{K:Nh}{x dx C t:Addr}{T:Value}{sl:Ng}{mA:Mz}{name:Str}{v:Value}{R:Result->Shared->Prop}
def EK(X:K.In s.heap)(c:ZQ K C)(z:XIs K C)(I:InstAt s.heap x ox C (some od))
  (h:Q (some (.ref C)) { s with toks:=s.toks+1 }):wpAny (model prog w) A (getAttr? (.ref x) "__class__") Q E s:=by
 obtain⟨cd,hc,ho,ne,hdct⟩:=c.cd;have hm:=c.sub (x:="object") (by decide);obtain⟨hp,g,d,tk,os⟩:=s;have L0:=I.type (M:=model prog w);have L1:=a1k (M:=model prog w) X c.ga;have L2:=a1k (M:=model prog w) X c.gn;have Lb:Looks (model prog w) hp (isInstance (.ref x) (.type "BaseException")) true:=L0.andThen (a1N X (c.sub (x:="BaseException") (by decide)));have hf:findObj K C (some od) "__class__"=some (.bind (.builtin "getset_descriptor.__get__") (.builtin "object.__class__")):=findObj_data (by rw[hc];rfl) z.ha z.hn z.htk;have L3:=looks_find (M:=model prog w) X I hf;have ga:=PySem.F.excAttr_ValueError.ga;have f3:=ga.bind (.ref x);unfold getAttr? getAttrBy? getAttrBy;refine f8 (a17 (f8 (a1f (T8 (f8 (L0.at (f8 (L1.at ?_))))))));dsimp only;rw[show(onTheHeap (Value.ref C)&&Value.builtin "BaseException.__getattribute__"==Value.builtin "object.__getattribute__")=false from by
  rw[show(Value.builtin "BaseException.__getattribute__"==Value.builtin "object.__getattribute__")=false from by decide +kernel];rfl]
 show wpAny _ _ (getAttrByItsOwn _ _ _ _ _ _) _ _ _;unfold getAttrByItsOwn;refine f8 (show wpAny _ _ (typeLookup (.ref C) "__getattr__") _ _ _ from L2.at ?_);refine f8 (a1f (T8 ?_));show wpAny _ _ (bindSpecial _ _ >>= _) _ _ _;rw[f3];refine f8 (M9 (a0G (a1c ga.plain F.entry_bexc_ga ?_)));have hk:builtinKind "BaseException.__getattribute__"=some .slot:=by decide +kernel
 have hs:splitId "BaseException.__getattribute__"=some ("BaseException","__getattribute__"):=by decide +kernel
 refine @check_slot (model prog w) _ _ ⟨hp,g,d,tk+1,os⟩ "BaseException.__getattribute__" "BaseException" "__getattribute__" (.ref x) [.str "__class__" tk] [] _ hk hs Lb (F.args_bexc_ga (.ref x) (.str "__class__" tk)) ?_;unfold Builtin.«object.__getattribute__»
 repeat(first|with_reducible refine a0G ?_|lk)
 refine class_get (s:=⟨hp,g,d,tk+1,os⟩) (ox:=ox) (od:=some od) X I hm ?_;exact M9 (M9 (M9 h))
def um{ox od:Obj}(c:ZQ K C)(z:XIs K C):KitX K (.ref x) (.ref C) (λh=>InstAt h x ox C (some od))where
 ty:=λ_ _ _ I=>I.type
 it:=λ_ _ X _=>by
  obtain⟨cd,hc,_⟩:=c.cd;unfold clsIn at hc;split at hc
  .rename_i c' d' cd' sl' hl;intro A' Q' E' s' k q;unfold isType loadHead;exact f8 (a07 (k _ _ (X _ _ hl)) (M9 q))
  .cases hc
 ne:=λh tp dd its n sl X htp=>by
  obtain⟨cd,hc,_⟩:=c.cd;refine Bool.eq_false_iff.mpr λq=>?_;obtain rfl:C=tp:=Value.ref.inj (R8.mp q);unfold clsIn at hc;split at hc
  .rename_i c' d' cd' sl' hl;cases(X _ _ hl).symm.trans htp
  .cases hc
 ca:=λX I k=>EK X c z I k
end
def U9(h:H a=some o):upd H a o=H:=by
 funext b;unfold upd;split
 .rename_i e;rw[e,h]
 .rfl
def XC(e C dx:Addr):HO:=.ext λh=>∃t T sl,h.get? e=some (yA C (some dx) t T sl)
def XC.ok(x:h.get? e=some (yA C (some dx) t T sl)):yF P w H h e (XC e C dx):=
 ⟨⟨t,T,sl,x⟩,⟨_,x⟩,λ_ _ ⟨t',T',sl',p⟩ k=>⟨t',T',sl',k _ p⟩⟩
def XC.get(x:yF P w H h e (XC e C dx)):∃t T sl,h.get? e=some (yA C (some dx) t T sl):=x.1
section
variable {X:Cx}{pins:My}{σ:St}{H:Hp}{s:MH}{e C dx Ta:Addr}{od:Np}{T fl:Value}{M:Model}{A:Nb}{E:MC}{Q:Unit->Shared->Prop}
def Inv.oj(I:Inv X pins σ H s)(he:H e=some (XO e C (some dx) T)):Inv X pins σ (upd H e (XC e C dx)) s:=by
 obtain⟨t,sl,hx⟩:=XO.get (I.hok e _ he);refine I.un (h':=s.heap) (t':=s.toks) ⟨λb o q _ _ _=>q,λb o q _ _ _=>⟨o.slots,q⟩,λb o _ n _=>?_,λb o q _=>⟨o,q⟩,λb xs q=>?_,λb o u q=>?_,λb ps q=>⟨#[],?_⟩⟩ λb u q=>?_
 .have:b≠e:=λz=>by rw[z,he]at n;cases n
  rw[zg this];exact n
 .have:b≠e:=λz=>by rw[z,he]at q;cases q
  rw[zg this];exact q
 .have:b≠e:=λz=>by rw[z,he]at q;cases q
  rw[zg this];exact q
 .have:b≠e:=λz=>by rw[z,he]at q;cases q
  rw[zg this,q];simp
 .by_cases hb:b=e
  .subst hb;rw[zd]at q;cases q;exact XC.ok hx
  .rw[zg hb]at q;refine(I.hok b u q).nj (λ_ _ _ r=>r) (λc r=>?_) λc xs r=>?_
   .have:c≠e:=λz2=>by rw[z2,he]at r;cases r
    rw[zg this];exact r
   .have:c≠e:=λz2=>by rw[z2,he]at r;cases r
    rw[zg this];exact r
def Fl(X:Cx)(pins:My)(H:Hp)(s:MH)(e C:Addr)(od:Np):Prop:=
 ∃T,H e=some (XO e C od T)/\(T=.none\/∃Ta fl,T=.ref Ta/\Tb X pins H s Ta fl/\(fl=.none\/∃n:Int,fl=rawInt n))
def U_(own:Own X)(hA:A.frames=some X.stack)(I:Inv X pins σ H s)(f:Fl X pins H s e C od)
  (hQ:∀Tn h',Inv X pins σ (upd H e (XO e C od (.ref Tn))) { s with heap:=h' }->Tb X pins (upd H e (XO e C od (.ref Tn))) { s with heap:=h' } Tn (rawInt X.env.locals)->Q () { s with heap:=h' }):
  wpAny M A (noteFrame (.ref e) X.env) Q E s:=by
 obtain⟨T,he,hT⟩:=f;obtain⟨t,sl,hx⟩:=XO.get (I.hok e _ he);unfold noteFrame;simp only[own.2];refine f8 (a1O hx rfl (x:=T) rfl ?_);rcases hT with rfl|⟨Ta,fl,rfl,b,hfl⟩
 .rw[if_neg (by decide)];exact cy own hA I he hQ
 .rw[if_pos (show(Value.ref Ta != Value.none)=true from by simp)];obtain⟨oT,ts,h1,h2,h3⟩:=id b.tbk;refine f8 (a1O h1 h2 h3 ?_);by_cases hq:¬(fl==rawInt X.env.locals)=true
  .rw[if_neg hq];obtain⟨n1,n2,n3⟩:=b.ok I;have nTe:Ta≠e:=λz=>by have:=b.free;rw[z,he]at this;cases this
   have sz:=(a1g.mp h3).1;refine f8 (a2v h1 h2 sz ?_);have oth:∀c,c≠Ta->(s.heap.update Ta (Obj.mapFields (·.setIfInBounds 3 .none))).get? c=s.heap.get? c:=λc hc=>P8 _ _ (Ne.symm hc);have I2:Inv X pins σ H { s with heap:=s.heap.update Ta (Obj.mapFields (·.setIfInBounds 3 .none)) }:=by
    have:=I.B6 (T':=.ref Ta) he [Ta] (h':=s.heap.update Ta (Obj.mapFields (·.setIfInBounds 3 .none))) (λc hc=>by
     obtain rfl:c=Ta:=by simpa using hc
     exact⟨b.new,b.free,n1,n2,b.pin⟩) (λc o _ hc _ q=>(oth c (by simpa using hc)).trans q) (λc o hc q=>⟨o.slots,(oth c (λz=>n3 (z▸hc))).trans q⟩) ⟨t,sl,(oth e (Ne.symm nTe)).trans hx⟩
    rwa [U9 he]at this
   exact cy own hA I2 he λTn h'=>hQ Tn h'
  .have hq:=Classical.not_not.mp hq;rw[if_pos hq];obtain rfl:fl=rawInt X.env.locals:=eq_of_beq hq;refine M9 ?_;have:=hQ Ta s.heap (by rw[U9 he];exact I) (by rw[U9 he];exact b);exact this
end
def HN(X:Cx)(E:XK)(v:Value)(s':MH):Prop:=∃σ H' e C dx,v=.ref e/\Inv X.nox [] σ H' s'/\Fl X.nox [] H' s' e C (some dx)/\E (.ref e) (some dx) (upd H' e (XC e C dx))
def CXe(P:MV)(w:M_):CXT:=λouter H s E v s'=>∃e C dx Ta oT ts H',v=.ref e/\s'.os=s.os/\AllBare s'.gens/\Un (frs outer) [] H H' s.heap s'.heap/\HOk P w H' s'.heap/\
 H' e=some (XO e C (some dx) (.ref Ta))/\s'.heap.get? Ta=some oT/\oT.data=.fields ts/\ts[3]?=some .none/\H' Ta=none/\s.heap.objs.size<=Ta/\E (.ref e) (some dx) (upd H' e (XC e C dx))
abbrev thr(X:Cx)(E:XK):Cx:=X.VX (HN X E)
def Inv.thrown(I:Inv X pins σ H s)(h:CXe X.prog X.w X.stack H s E v s'):
  ∃H' e C dx,v=.ref e/\Inv X pins σ H' s'/\Fl X pins H' s' e C (some dx)/\E (.ref e) (some dx) (upd H' e (XC e C dx)):=by
 obtain⟨e,C,dx,Ta,oT,ts,H',rfl,os,bare,un,hok,he,h1,h2,h3,hn,hs,q⟩:=h;have I2:Inv X pins σ H' s':=I.Ea os un hok bare λb z=>absurd z (by simp);refine⟨H',e,C,dx,rfl,I2,⟨_,he,.inr ⟨Ta,_,rfl,⟨⟨oT,ts,h1,h2,h3⟩,P7 I.sz hs,hn,λp hp z=>?_⟩,.inl rfl⟩⟩,q⟩;have:=N4 (I.pin p hp).1;rw[z]at this;exact absurd hs (Nat.not_le.mpr this)
def Inv.gJ(I:Inv X pins σ H s):Inv X [] σ H s:=I.VW λ_ h=>nomatch h
def Fl.gJ(f:Fl X pins H s e C od):Fl X [] H s e C od:=by obtain⟨T,he,h⟩:=f;refine⟨T,he,h.imp id λ⟨Ta,fl,e1,b,h2⟩=>⟨Ta,fl,e1,⟨b.tbk,b.new,b.free,λp hp=>b.pin p ?_⟩,h2⟩⟩;rw[P4]at hp;exact a0R _ hp
def Fl.VX(f:Fl X pins H s e C od):Fl (X.VX E) pins H s e C od:=by obtain⟨T,he,h⟩:=f;exact⟨T,he,h.imp id λ⟨Ta,fl,e1,b,h2⟩=>⟨Ta,fl,e1,⟨b.tbk,b.new,b.free,b.pin⟩,h2⟩⟩
def zR:Passes (CXe X.prog X.w) (thr X E) E:=λpins σ H s v s' I h=>by obtain⟨H',e,C,dx,rfl,I2,f,q⟩:=Inv.thrown (X:=thr X E) I h;exact⟨σ,H',e,C,dx,rfl,(I2.j7.VX _).gJ,(Fl.VX (X:=thr X E) f.gJ),q⟩
def gK:Passes (CXe P w) X E0:=λpins σ H s v s' I h=>by obtain⟨e,C,dx,Ta,oT,ts,H',_,_,_,_,_,_,_,_,_,_,_,q⟩:=h;exact False.elim q
def zB(own:Own X):PassesOwn (NO X) X.A X.env (HN X E):=λv s' ⟨σ,H',e,C,dx,hv,I,f,q⟩=>by
 subst hv;have hA:X.A.frames=some X.nox.stack:=I.ok.frames;refine U_ (X:=X.nox) own hA I f λTn h' I2 b=>?_;obtain⟨t,sl,hx⟩:=XO.get (I2.hok e _ zd);refine f8 (a1O hx rfl (x:=.ref Tn) rfl ?_);rw[if_neg (show ¬((Value.ref Tn==Value.none)=true)from by simp)];refine U8 I2 zd b λh2 I3 b3=>?_;rw[wJ]at I3 b3;refine⟨σ,_,e,C,dx,rfl,I3,⟨_,zd,.inr ⟨Tn,_,rfl,b3,.inr ⟨(X.env.locals:Int),?_⟩⟩⟩,?_⟩
 .rw[own.2];rfl
 .rw[wJ];exact q
def AK{P:MV}{w:M_}{K:Nh}{mg:Mz}{base:Heap}{N:MD}{qual:Str}{scope:Scope}{f:Addr}{cd:Value}{A:Nb}{outer:List Env}{s:MH}{H:Hp}{E:XK}{v:Value}{s':MH}
  (h:HN (U3 (CXe P w) P w K mg base N qual scope f cd A outer s H E) E v s'):(U3 (CXe P w) P w K mg base N qual scope f cd A outer s H E).xe v s':=by
 obtain⟨σ,H',e,C,dx,hv,I,fl,q⟩:=h;subst hv;have own:Own (U3 (CXe P w) P w K mg base N qual scope f cd A outer s H E):=⟨rfl,rfl⟩;show wpAny (model P w) _ (leaving _ (.ref e)) _ _ s';unfold leaving;refine f8 (U_ (X:=(U3 (CXe P w) P w K mg base N qual scope f cd A outer s H E).nox) own I.ok.frames I fl λTn h' I2 b=>?_);refine U8 I2 zd b λh2 I3 b3=>?_;rw[wJ]at I3 b3;obtain⟨oT,ts,h1,h2',h3⟩:=b3.tbk;exact⟨e,C,dx,Tn,oT,ts,_,rfl,I3.os,I3.bare,I3.base,I3.hok,zd,h1,h2',h3,b3.free,b3.new,by rw[wJ];exact q⟩
def PSs.EL{X:Cx}{E:MC}{st:Nk}{t:TS}(h:PSs (X.VX E) st t)(hE:∀v s,E v s->X.xe v s):PSs X st t:=λpins s σ H D I hw=>
 T2 (h pins s σ H D (I.VX E) hw) (λ_ _ q=>q.j7) hE
section
variable {P:MV}{w:M_}{K:Nh}{mg:Mz}{base:Heap}
def Fun.okX{x qual:Str}{st:Nq}{f:Addr}{fd:Na}{N ps:MD}{k:Nat}{sp:Sp}(F:Fun K x qual st f fd)(S:zk N ps (zi st))(len:∀vs H Q E,sp vs H Q E->vs.length=ps.length)
  (J3:∀(cdv:Value)(A:Nb)(outer:List Env)(s:MH)(H:Hp)(vs:ML)(Q:VK) (E:XK),qQ k (A.deeper (envOfC qual (zi st) s.heap.objs.size f cdv))->sp vs H Q E->
   ∃t,PSs (thr (U3 (CXe P w) P w K mg base N qual (zi st) f cdv A outer s H E) E) (vA st) t/\t { nx:=λ_ H'=>Q .non H',rt:=Q } (start N vs) H):y8 P w K mg base (CXe P w) (k+1) f fd ps sp:=by
 obtain⟨oc,od,kV,doc,pm,an,cdv,ct,osl,rfl,lk,hcd⟩:=F.ex;refine Ew lk hcd S len λA outer s H vs Q E hr hsp=>?_;obtain⟨t,h,q⟩:=J3 cdv A outer s H vs Q E hr hsp;exact⟨t,h.EL λv s h=>AK h,q⟩
end
def EO(C:Addr)(sp:Sp)(E:XK)(t:TA):TE:=λσ H Q=>t σ H λvs H1=>vs.length<=1000/\∀x,H1 x=none->sp (.ref x::vs) (upd H1 x (XO x C none .none)) (λv H2=>v=.non/\Q (.ref x) H2) E
def Inv.HP(I:Inv X pins σ H s):
  Inv X pins σ (upd H (s.heap.objs.size+1) (XO (s.heap.objs.size+1) C none .none)) { s with heap:=(s.heap.push (AJ us)).push (yA C none s.heap.objs.size .none #[]) }:=
 I.laid (t':=s.toks) (λb u e=>M6 _ (M6 _ e)) (a0x _) (XO.ok (t:=s.heap.objs.size) (sl:=#[]) (by heap_get))
def om(M:XMk X.K C f)(F:y8 X.prog X.w X.K X.mg X.base CX k f fd ps sp)(hr:qQ (k+1) X.A)(hb:Binds X.K fd ps [])
  (hx:Passes CX X E) (I:Inv X pins σ H s) (r:Vals vs us) (hl:vs.length<=1000) (h:∀x,H x=none->sp (.ref x::vs) (upd H x (XO x C none .none)) (λv H2=>v=.non/\Q (.ref x) H2) E):
  wpAny (NO X) X.A (call (.ref C) us) (EP X pins σ Q) X.xe s:=by
 have hq:=h (s.heap.objs.size+1) (I.hok.fresh (a0x _));have I2:=Inv.HP (C:=C) (us:=us) I;have r2:Vals (V.ref (s.heap.objs.size+1)::vs) (Value.ref (s.heap.objs.size+1)::us):=.cons rfl r;have hl2:(Value.ref (s.heap.objs.size+1)::us++[]).length=ps.length:=by have e:=r2.length;rw[F.len _ _ _ _ hq]at e;rw[P4];exact e.symm
 have bd:=hb _ (Value.ref (s.heap.objs.size+1)::us) I2.kIn hl2;rw[P4]at bd;obtain⟨hh,g,d,tk,os⟩:=s;refine HL M I.kIn (by rw[<- r.length,a0e];omega) (a0J (F.run _ X.stack _ _ ⟨_::us,[]⟩ _ _ _ E (hr.make C us []) (I2.nr.make C us []) bd r2 hq) λr s' hq'=>?_);cases r with
 |error e=>exact hx pins σ _ _ e s' I2 hq'
 |ok fl=>
  cases fl with
  |ret u=>obtain⟨v,H',I3,rv,ev,q3⟩:=I2.after hq';subst ev;exact⟨rv,⟨V.ref (hh.objs.size+1),H',I3,rfl,q3⟩⟩
  |next=>exact False.elim hq'
  |brk=>exact False.elim hq'
  |cont=>exact False.elim hq'
def uo(M:XMk X.K C f)(F:y8 X.prog X.w X.K X.mg X.base CX k f fd ps sp)(hr:qQ (k+1) X.A)(hg:Gl X x)(hm:X.mg x=some (.ref C))(hb:Binds X.K fd ps [])(hx:Passes CX X E)
  (ha:PA X (e::es) t) (hdb:(x==("__debug__":Str))=false:=by decide) (he:starEach (e::es) X.env=(false,eval e X.env)::starEach es X.env:=by rfl) (hpl:(backTo pos (starEach es X.env)).any (·.1)=false:=by rfl):
  PE X (.Call (.Name x p) (e::es) [] pos) (EO C sp E t):=by
 intro pins s σ H Q I h;refine a0h (J_ I hg hm ?_ hdb);refine a02 (h₀:=X.base) I.ok.mod.kin M.kp (thn (ha pos pins s σ H _ I h) λus s1 ⟨vs,H1,I1,r,hl,q⟩=>⟨I1.kIn,?_⟩) he hpl;exact om M F hr hb hx I1 r hl q
def HQ(K:Nh)(ta tv:TE)(f:Str):TS:=λD σ H=>tv σ H λy H1=>ta σ H1 λx H2=>∃e C T,x=.ref e/\ZQ K C/\takerIn K C f=some none/\
  ((H2 e=some (XO e C none T)/\∀dx,H2 dx=none->D.nx σ (upd (upd H2 dx (XD dx [(f,y)])) e (XO e C (some dx) T)))\/
   (∃dx fs,H2 e=some (XO e C (some dx) T)/\H2 dx=some (XD dx fs)/\dx≠e/\fs.length<1000/\D.nx σ (upd H2 dx (XD dx (J6 f y fs)))))
def HU(K:Nh)(ta:TE)(f:Str):TE:=λσ H Q=>ta σ H λx H1=>∃e C dx fs v,x=.ref e/\ZQ K C/\findIn K (.ref C) f=some none/\(H1 e=some (XC e C dx)\/∃T,H1 e=some (XO e C (some dx) T))/\H1 dx=some (XD dx fs)/\fs.lookup f=some v/\Q v H1
section
variable {X:Cx}{o value:MR}{f:Str}{pos pos':Pos}{ta tv:TE}
def vB(ha:PE X o ta)(hv:PE X value tv)(hs:swapsWith value (some (.Attribute o f pos')) pos.line X.env=pure false):PS X (.Assign [.Attribute o f pos'] value pos) (HQ X.K ta tv f):=by
 intro pins s σ H D I h;refine a1z (thn (hv pins s σ H _ I h) λu s1 ⟨y,H1,I1,ry,q⟩=>thn (ha pins s1 σ H1 _ I1 q) λov s2 ⟨x,H2,I2,rx,e,C,T,ex,c,tk,q2⟩=>?_) hs;subst ex;obtain rfl:ov=Value.ref e:=rx;rcases q2 with⟨he,q2⟩|⟨dx,fs,he,hd,ne,l,q2⟩
 .obtain⟨t,sl,hx⟩:=XO.get (I2.hok e _ he);have hne:s2.heap.objs.size≠e:=a0l (N4 hx);have hfr:H2 s2.heap.objs.size=none:=I2.hok.fresh (M7 _);refine l4 I2.kIn c hx tk λh' hx' hn' kp=>⟨σ,_,?_,q2 _ hfr⟩;have lt:∀b o,s2.heap.get? b=some o->b≠s2.heap.objs.size:=λb o q=>O1 (N4 q);have ltH:∀b o,H2 b=some o->b≠s2.heap.objs.size:=λb o q z=>by rw[z,hfr]at q;cases q
  refine I2.un (h':=h') (t':=s2.toks+2) ⟨λb o q n _ _=>kp b o (λz=>by rw[z,he]at n;cases n) q,λb o q n _ _=>⟨o.slots,kp b o (λz=>by rw[z,he]at n;cases n) q⟩,λb o q n _=>?_,λb o q _=>?_,λb xs q=>?_,λb o u q=>?_,λb ps q=>⟨#[],?_⟩⟩ λb ob q=>?_
  .rw[zg (λz=>by rw[z,he]at n;cases n),zg (lt b o q)];exact n
  .by_cases hb:b=e
   .exact⟨_,hb▸hx'⟩
   .exact⟨o,kp b o hb q⟩
  .rw[zg (λz=>by rw[z,he]at q;cases q),zg (ltH b _ q)];exact q
  .rw[zg (λz=>by rw[z,he]at q;cases q),zg (ltH b _ q)];exact q
  .rw[zg (λz=>by rw[z,he]at q;cases q),zg (ltH b _ q),q];simp
  .by_cases hb:b=e
   .subst hb;rw[zd]at q;cases q;exact XO.ok hx'
   .rw[zg hb]at q;by_cases hb2:b=s2.heap.objs.size
    .subst hb2;rw[zd]at q;cases q;refine XD.ok hn' (λg=>?_) (λg hg=>?_) (by show 1<=1000;decide)
     .show Vm (List.lookup g [(f,y)]) (if g=f then some u else none);by_cases z:g=f
      .subst z;rw[if_pos rfl];simp only[List.lookup,beq_self_eq_true];exact ry
      .rw[if_neg z];simp only[List.lookup,beq_eq_false_iff_ne.mpr z];exact True.intro
     .by_cases z:g=f
      .subst z;exact O7.mpr rfl
      .exact absurd (if_neg z) hg
    .rw[zg hb2]at q;refine(I2.hok b ob q).nj (λc v hc r=>kp c v ?_ r) (λc r=>?_) λc xs r=>?_
     .rcases hc with z|z
      .rw[z];exact hb
      .intro z2;rw[z2,he]at z;cases z
     .rw[zg (λz=>by rw[z,he]at r;cases r),zg (ltH c _ r)];exact r
     .rw[zg (λz=>by rw[z,he]at r;cases r),zg (ltH c _ r)];exact r
 .obtain⟨t,sl,hx⟩:=XO.get (I2.hok e _ he);obtain⟨mA,hn,r,wi,l1⟩:=XD.get (I2.hok dx _ hd);refine oh I2.kIn c hx hn ne tk wi (by rw[u8,a0e];omega) λh' hn' sb=>⟨σ,_,?_,q2⟩;have hdx:∃u,h'.get? dx=some u:=let⟨o,_,_,e',_⟩:=hn';⟨o,e'⟩
  refine I2.write (x:=dx) (e:=dx) (t':=s2.toks+2) (by rw[hd];exact True.intro) (.inl rfl) (λb u hb z=>(sb.2 b hb).trans z) hdx (XD.ok hn' (λg=>?_) (λg hg=>?_) ?_)
  .show Vm ((J6 f y fs).lookup g) (if g=f then some u else mA g);rw[QH];by_cases q:g=f
   .rw[if_pos q,if_pos q];exact ry
   .rw[if_neg q,if_neg q];exact r g
  .by_cases q:g=f
   .rw[q];exact(ZO f y fs).1
   .refine(ZO f y fs).2 g (wi g λz=>hg ?_);show(if g=f then some u else mA g)=none;rw[if_neg q];exact z
  .have:=QI f y fs;omega
def ER(I:Inv X pins σ H s)(he:H e=some (XC e C dx)\/∃T,H e=some (XO e C (some dx) T)):∃t T sl,s.heap.get? e=some (yA C (some dx) t T sl):=by
 rcases he with he|⟨T,he⟩
 .exact XC.get (I.hok e _ he)
 .obtain⟨t,sl,h⟩:=XO.get (I.hok e _ he);exact⟨t,T,sl,h⟩
def B7(he:PE X e ta)(hb:attributeBase e f X.env (eval e X.env)=eval e X.env):PE X (.Attribute e f pos) (HU X.K ta f):=by intro pins s σ H Q I h;refine nV hb (thn (he pins s σ H _ I h) λu s1 ⟨x,H1,I1,rx,a,C,dx,fs,v,ex,c,n,ea,ed,l,q⟩=>?_);subst ex;obtain rfl:u=Value.ref a:=rx;obtain⟨t,T,sl,hx⟩:=ER I1 ea;obtain⟨mA,hn,r,_,_⟩:=XD.get (I1.hok dx _ ed);obtain⟨u,hu,ru⟩:=Vm.some_of (v:=v) (o:=mA f) (by rw[<- l];exact r f);exact L_ I1.kIn c hx hn n hu (bT ru) ⟨v,H1,I1.tok _,ru,q⟩
def ES(K:Nh)(E:XK)(te:TE):TS:=λ_ σ H=>te σ H λv H1=>∃e C dx,v=.ref e/\ZQ K C/\H1 e=some (XO e C (some dx) .none)/\E (.ref e) (some dx) (upd H1 e (XC e C dx))
def uq(hh:X.calm=true)(he:PE (thr X E) e te):PS (thr X E) (.Raise (some e) none pos) (ES X.K E te):=by
 intro pins s σ H D I h;rw[arm_exec_Raise];refine f8 (a0Y ?_);show wpAny _ _ (raiseStmt X.env (some (do let v<-eval e X.env;standAt pos;pure v)) none) _ _ s;unfold raiseStmt;refine f8 (f8 (thn (he pins s σ H _ I h) λu s1 ⟨v,H1,I1,rv,a,C,dx,ev,c,hx,q⟩=>f8 (a0Y (M9 ?_))));subst ev;obtain rfl:u=Value.ref a:=rv;obtain⟨t,sl,ho⟩:=XO.get (I1.hok a _ hx);obtain⟨cd,hcd,_⟩:=c.cd;have L0:Looks (NO X) s1.heap (typeOf (.ref a)) (.ref C):=(Looks.ld ho).andThen .now;have Lb:Looks (NO X) s1.heap (isSubtype (.ref C) (.type "BaseException")) true:=a1N I1.kIn (c.sub (x:="BaseException") (by decide));have LI:Looks (NO X) s1.heap (isInstance (.ref a) (.type "BaseException")) true:=L0.andThen Lb;have fin:(thr X E).xe (.ref a) s1:=⟨σ,H1,a,C,dx,rfl,(I1.j7.VX _).gJ,⟨.none,hx,.inl rfl⟩,q⟩;have hd:(thr X E).A.handled=none:=I1.ok.hd hh;have LT:Looks (NO X) s1.heap (isType (.ref a)) false:=by intro A' Q' E' s' k q;unfold isType loadHead;exact f8 (a07 (k _ _ ho) (M9 q))
 have LE:Looks (NO X) s1.heap (isExcClass (.ref a)) false:=LT.andThen .now;refine f8 (M9 ?_);dsimp only;refine f8 (T8 ?_);unfold excFromValue;refine f8 (LE.here ?_);simp only[Bool.false_eq_true,if_false];refine f8 (LI.here ?_);simp only[if_true];refine M9 (f8 (LT.here ?_));simp only[Bool.false_eq_true,if_false];have LC:Looks (NO X) s1.heap (typeOf (.ref C)) (.type "type"):=looks_typeIn I1.kIn c.ty;have LR:Looks (NO X) s1.heap (raisedInstance (.ref a)) (.ref a):=by unfold raisedInstance;refine L0.andThen (LC.andThen ?_);rw[if_pos (by simp)];exact .now
 refine f8 (LR.here (f8 (uk I1 hx ?_)));exact wpAny_raiseNew_none hd fin
end
def TyX(K:Nh)(H:Hp)(x:V)(t:Value):Prop:=nq K H x t\/
 ∃e C dx fs,x=.ref e/\t=.ref C/\ZQ K C/\XIs K C/\(H e=some (XC e C dx)\/∃T,H e=some (XO e C (some dx) T))/\H dx=some (XD dx fs)
def HW:V->Option Value
 |.ref a=>some (.ref a)
 |.ty n=>some (.type n)
 |_=>none
def ur(r:RelV c u)(e:HW c=some v):u=v:=by
 cases c with
 |ref a=>cases e;exact r
 |ty n=>cases e;exact r
 |_=>cases e
def eN(I:Inv X pins σ H s)(rx:RelV x u)(ty:TyX X.K H x t):∃P,KitX X.K u t P/\P s.heap/\u≠.builtin "__main__.__loader__#opaque":=by
 rcases ty with ty|⟨e,C,dx,fs,rfl,rfl,c,z,he,hd⟩
 .cases ty with
  |non=>cases(show u=Value.none from rx);exact⟨_,kitx_none,True.intro,λz=>nomatch z⟩
  |bl y=>cases(show u=Value.bool y from rx);exact⟨_,kitx_bool,True.intro,λz=>nomatch z⟩
  |int i=>obtain⟨t,q⟩:=(show ∃t,u=Value.int i t from rx);cases q;exact⟨_,kitx_int,True.intro,λz=>nomatch z⟩
  |str y=>obtain⟨t,q⟩:=(show ∃t,u=Value.str y t from rx);cases q;exact⟨_,kitx_str,True.intro,λz=>nomatch z⟩
  |flt y=>obtain⟨t,q⟩:=(show ∃t,u=Value.float y t from rx);cases q;exact⟨_,kitx_float,True.intro,λz=>nomatch z⟩
  |@lst a xs ea=>cases(show u=Value.ref a from rx);obtain⟨_,_,n,_,h1⟩:=(show yF X.prog X.w H s.heap a (.lst xs)from I.hok a _ ea);exact⟨_,kitx_list,⟨_,h1,rfl⟩,λz=>nomatch z⟩
  |@frz a ob xs ea=>cases(show u=Value.ref a from rx);obtain⟨_,_,_,n,_,h1⟩:=(show yF X.prog X.w H s.heap a (.frz ob (.lst xs))from I.hok a _ ea);exact⟨_,kitx_list,⟨_,h1,rfl⟩,λz=>nomatch z⟩
  |@tup a xs ea=>cases(show u=Value.ref a from rx);obtain⟨_,_,_,p⟩:=(show yF X.prog X.w H s.heap a (.tup xs)from I.hok a _ ea);obtain⟨o,h1,h2,_⟩:=p;exact⟨_,kitx_tuple,⟨o,h1,h2⟩,λz=>nomatch z⟩
  |@dK a kvs ea=>cases(show u=Value.ref a from rx);obtain⟨_,_,vs,_,p⟩:=(show yF X.prog X.w H s.heap a (.dK kvs)from I.hok a _ ea);obtain⟨o,es,ep,h1,h2,_⟩:=p;exact⟨_,kitx_dict,⟨o,h1,h2.1⟩,λz=>nomatch z⟩
  |@dT a kvs ea=>cases(show u=Value.ref a from rx);obtain⟨_,_,xs,_,o,es,ep,h1,h2,_⟩:=(show yF X.prog X.w H s.heap a (.dT kvs)from I.hok a _ ea);exact⟨_,kitx_dict,⟨o,h1,h2.1⟩,λz=>nomatch z⟩
  |@ins a C dx fs ea cl ha hn htk hm=>cases(show u=Value.ref a from rx);obtain⟨mA,O,_⟩:=U2 I.hok ea;obtain⟨od,J,_⟩:=O.look;exact⟨_,kitx_own (cl.get _) cl.hd ha hn htk hm,J,λz=>nomatch z⟩
 .cases(show u=Value.ref e from rx);obtain⟨t,T,sl,hx⟩:=ER I he;obtain⟨mA,hn,_⟩:=XD.get (I.hok dx _ hd);obtain⟨od,hod,_⟩:=Q1 hn;exact⟨_,um c z,⟨hx,rfl,rfl,hod⟩,λz=>nomatch z⟩
def XP(X:Cx)(pins:My)(σ:St)(Z:XK)(v:Value)(s':MH):Prop:=∃H' e C dx,v=.ref e/\Inv X pins σ H' s'/\Fl X pins H' s' e C (some dx)/\Z (.ref e) (some dx) (upd H' e (XC e C dx))
abbrev TEx:=St->Hp->VK->XK->Prop
abbrev TSx:=Ends->XK->St->Hp->Prop
def PEx(X:Cx)(e:MR)(t:TEx):Prop:=
 ∀(pins:My)(s:MH)(σ:St)(H:Hp)(Q:VK)(Z:XK),Inv X pins σ H s->t σ H Q Z->wpAny (NO X) X.A (eval e X.env) (EP X pins σ Q) (XP X pins σ Z) s
def PSx(X:Cx)(st:Nq)(t:TSx):Prop:=
 ∀(pins:My)(s:MH)(σ:St)(H:Hp)(D:Ends)(Z:XK),Inv X pins σ H s->t D Z σ H->wpAny (NO X) X.A (exec st X.env) (SP X pins D) (XP X pins σ Z) s
def HY(X:Cx)(st:Nk)(t:TSx):Prop:=
 ∀(pins:My)(s:MH)(σ:St)(H:Hp)(D:Ends)(Z:XK),Inv X pins σ H s->t D Z σ H->wpAny (NO X) X.A (execs st X.env) (SP X pins D) (XP X pins σ Z) s
def B8(F:y8 X.prog X.w X.K X.mg X.base (CXe X.prog X.w) k f fd ps sp)(hr:qQ k X.A)(hb:Binds X.K fd ps [])
  (I:Inv X pins σ H s) (r:Vals vs us) (h:sp vs H Q Z):wpAny (NO X) X.A (call (.ref f) us) (EP X pins σ Q) (XP X pins σ Z) s:=by
 have hl:(us++[]).length=ps.length:=by rw[P4,<- r.length];exact F.len _ _ _ _ h
 have bd:=hb s us I.kIn hl;rw[P4]at bd;refine a0G (a0J (F.run X.A X.stack s H ⟨us,[]⟩ us vs Q Z hr I.nr bd r h) λr s' hq=>?_);cases r with
 |error e=>exact I.thrown hq
 |ok fl=>
  cases fl with
  |ret u=>exact I.after hq
  |next=>exact False.elim hq
  |brk=>exact False.elim hq
  |cont=>exact False.elim hq
def PA.nox(h:PA X.nox es t)(pos:Pos)(I:Inv X pins σ H s)(hw:t σ H Q):
  wpAny (NO X) X.A (spliced (backTo pos (starEach es X.env))) (AP X pins σ Q) E s:=
 T2 (h pos pins s σ H Q (I.VX _) hw) (λ_ _ ⟨vs,H',I',r,q⟩=>⟨vs,H',I'.j7,r,q⟩) λ_ _ z=>False.elim z
def uu(F:y8 X.prog X.w X.K X.mg X.base (CXe X.prog X.w) k f fd ps sp)(hr:qQ k X.A)(hg:Gl X x)(hm:X.mg x=some (.ref f))(hk:keepIn X.K (.ref f)=true)(hb:Binds X.K fd ps [])
  (ha:PA X.nox (e::es) t) (hdb:(x==("__debug__":Str))=false:=by decide) (he:starEach (e::es) X.env=(false,eval e X.env)::starEach es X.env:=by rfl) (hpl:(backTo pos (starEach es X.env)).any (·.1)=false:=by rfl):
  PEx X (.Call (.Name x p) (e::es) [] pos) (λσ H Q Z=>t σ H λvs H1=>sp vs H1 Q Z):=by
 intro pins s σ H Q Z I h;refine a0h (J_ I hg hm ?_ hdb);refine a02 (h₀:=X.base) I.ok.mod.kin hk (thn (PA.nox ha pos I h) λus s1 ⟨vs,H1,I1,r,q⟩=>⟨I1.kIn,?_⟩) he hpl;exact B8 F hr hb I1 r q
def uv(he:PEx X e tx)(hs:swapsWith e none pos.line X.env=pure false:=by rfl):PSx X (.Expr e pos) (λD Z σ H=>tx σ H (λ_ H1=>D.nx σ H1) Z):=by intro pins s σ H D Z I h;exact wpAny_Expr_any (thn (he pins s σ H _ Z I h) λv s1 ⟨x,H1,I1,r1,q1⟩=>⟨σ,H1,I1,q1⟩) I.quiet hs
def uw{st:Nq}{t:TSx}(h1:PSx X st t):HY X [st] t:=by
 intro pins s σ H D Z I h;refine a14 (thn (h1 pins s σ H D Z I h) λf s1 q=>?_);cases f with
 |next=>exact a00 q
 |ret v=>exact q
 |brk=>exact q
 |cont=>exact q
abbrev Cx.held(X:Cx)(v:Value):Cx:={ X with A:=X.A.mark (some v),calm:=false,xe:=λ_ _=>False }
def Inv.held(I:Inv X pins σ H s)(v:Value):Inv (X.held v) pins σ H s:=
 ⟨⟨I.ok.mod,I.ok.kind,I.ok.glob,I.ok.blt,I.ok.above,I.ok.inj,I.ok.has,I.ok.cab,λz=>Bool.noConfusion z,I.ok.frames,I.ok.stk,I.ok.exf,I.ok.bs,I.ok.bsz,I.ok.D5,I.ok.D6,I.ok.eB,I.ok.frf⟩,I.os,I.bare,I.base,I.loc,I.cell,I.free,I.QY,I.pin,I.hok,I.len⟩
def Inv.ET(I:Inv (X.held v) pins σ H s)(ok:X.Ok):Inv X pins σ H s:=
 ⟨ok,I.os,I.bare,I.base,I.loc,I.cell,I.free,I.QY,I.pin,I.hok,I.len⟩
def Inv.blank(I:Inv X pins σ H s)(hn:h'.Ns X.env.locals m')(hs:Heap.SameBut X.env.locals s.heap h'):Inv X pins (List.replicate X.N.length none) H { s with heap:=h',toks:=t' }:=by
 have ne:∀b o,X.s₀.heap.get? b=some o->b≠X.env.locals:=λb o e=>O1 (N9 (N4 e) I.ok.above);have neH:∀b o,H b=some o->b≠X.env.locals:=λb o q z=>by rw[z,I.free]at q;cases q
 refine⟨I.ok,I.os,I.bare,⟨λb o e n hb hx=>(hs.2 b (ne b o e)).trans (I.base.keep b o e n hb hx),λb o e n hb hx=>?_,λb o e n hx=>I.base.free b o e n hx,λb o e hx=>?_,I.base.mI,I.base.nB,I.base.sQ⟩,⟨m',hn,λi x v _ e2 _=>?_⟩,λx c e=>?_,I.free,I.QY,λp hp=>?_,λb u e=>?_,by simp⟩
 .obtain⟨sl,q⟩:=I.base.slot b o e n hb hx;exact⟨sl,(hs.2 b (ne b o e)).trans q⟩
 .obtain⟨o',q⟩:=I.base.there b o e hx;exact⟨o',(hs.2 b (ne b o e)).trans q⟩
 .rw[a0B]at e2;split at e2<;>cases e2
 .obtain⟨v,o,ho,hd⟩:=I.cell x c e;exact⟨v,o,(hs.2 c (I.cne x c e)).trans ho,hd⟩
 .obtain⟨e,n,nL,nf,d⟩:=I.pin p hp;exact⟨(hs.2 p.1 nL).trans e,n,nL,nf,d⟩
 .refine(I.hok b u e).nj (λc w hc r=>(hs.2 c ?_).trans r) (λ_ r=>r) λ_ _ r=>r;rcases hc with z|z
  .rw[z];exact neH b u e
  .exact neH c _ z
def name_goes(I:Inv X pins σ H s)(hl:X.env.kindOf n=some .local)
  (hQ:∀s',Inv X pins (List.replicate X.N.length none) H s'->Q () s'):wpAny M A (do bindName X.env n .none;unbindBehindTheSuite X.env n pos) Q E s:=by
 obtain⟨m,hn,_⟩:=id I.loc;exact wpAny_nameGoes hl hn (by rw[I.ok.kind];rfl) λh' m' hn' hs=>hQ _ (I.blank hn' hs)
structure Catch(K:Nh)(C F:Addr)(b:Bool):Prop where
 ty:typeIn K (.ref F)=some (.type "type")
 cl:(clsIn K F).isSome=true
 ex:subIn K (.ref F) (.type "BaseException")=some true
 su:subIn K (.ref C) (.ref F)=some b
def eO{K:Nh}{M:Model}{h:Heap}{e C F:Addr}{b:Bool}{o:Obj}(X:K.In h)(he:h.get? e=some o)(hc:o.cls=.ref C)(k:Catch K C F b):Looks M h (excMatches (.ref e) (.ref F)) b:=by
 have L0:Looks M h (typeOf (.ref e)) (.ref C):=hc▸(Looks.ld he).andThen .now;have L1:Looks M h (typeOf (.ref F)) (.type "type"):=looks_typeIn X k.ty;have L2:Looks M h (isInstance (.ref F) (.type "tuple")) false:=L1.andThen (Looks.of_pure tc_notTuple);have L3:Looks M h (isType (.ref F)) true:=by
  have hcl:=k.cl;unfold clsIn at hcl;split at hcl
  .rename_i c' d' cd' sl' hl;intro A' Q' E' s' kk q;unfold isType loadHead;exact f8 (a07 (kk _ _ (X _ _ hl)) (M9 q))
  .cases hcl
 have L4:Looks M h (isExcClass (.ref F)) true:=L3.andThen (looks_subIn X k.ex);have L5:=looks_subIn (M:=M) X k.su;intro A Q E s kk q;obtain⟨hp,g,d,tk,os⟩:=s;have M0:=L0.keeps kk;have M2:=L2.keeps kk;have M4:=L4.keeps kk;have M5:=L5.keeps kk;clear L0 L1 L2 L3 L4 L5;unfold excMatches;cases b with
 |true=>(repeat lk);exact q
 |false=>(repeat lk);exact q
def Ma(K:Nh)(F:Addr)(tb:TSx)(i:Nat)(ts:Addr->TS):TS:=λD σ H=>
 tb D (λv o H'=>∃e C dx,v=.ref e/\o=some dx/\H' e=some (XC e C dx)/\Catch K C F true/\ts e { nx:=λ_ _=>False,rt:=D.rt } (σ.set i (some (.ref e))) H') σ H
def EU(own:Own X)(hb:HY X body tb)(hg:Gl X cx)(hm:X.mg cx=some (.ref F))
  (hN:X.N.Nodup) (hi:X.N[i]?=some n) (hx:Loc X.env.scope n) (hl:X.env.kindOf n=some .local) (hs:∀e,PSs (X.held (.ref e)) (b₀::suite) (ts e))
  (hdb:(cx==("__debug__":Str))=false:=by decide) (hf:X.fn n=true\/X.env.scope.names.lookup n=some .local:=by first|exact .inl rfl|exact .inr rfl|assumption):
  PS X (.Try body [.ExceptHandler (some (.Name cx np)) (some n) (b₀::suite) hp] [] [] pos) (Ma X.K F tb i ts):=by
 intro pins s σ H D I h;refine wpAny_Try_except (T2 (hb pins s σ H D _ I h) (λf s1 q=>?_) λv s1 q=>?_)
 .cases f with
  |next=>exact a00 q
  |ret u=>exact q
  |brk=>exact q
  |cont=>exact q
 .obtain⟨H',e,C,dx,rfl,I1,fl,e',C',dx',ee,ed,hC,kc,q⟩:=q;cases ee;cases ed;refine U_ own I1.ok.frames I1 fl λTn h2 I2 b2=>?_;refine U8 I2 zd b2 λh3 I3 b3=>?_;rw[wJ]at I3 b3;have fA:∀(h:Heap),Inv X pins σ (upd H' e (XO e C (some dx) (.ref Tn))) { s1 with heap:=h }->∃o,h.get? e=some o/\o.cls=.ref C':=λh I'=>by have J:=I'.oj zd;rw[wJ]at J;obtain⟨t,T,sl,ho⟩:=XC.get (J.hok e _ hC);exact⟨_,ho,rfl⟩
  refine wpAny_handleBy_cons (codeAny_handlers_test ?_) (λz=>by cases z);refine J_ (X:=X.held (.ref e)) (I3.held _) hg hm ?_ hdb;obtain⟨o,ho,hoc⟩:=fA _ I3;refine(eO I3.kIn ho hoc kc).here ?_;refine codeAny_handlers_suite_as ?_;refine U8 I3 zd b3 λh4 I4 b4=>?_;rw[wJ]at I4 b4;refine UY (X:=X) I4 hN hi hx (v:=.ref e) rfl (λs5 I5=>?_) hf;have J5:=(I5.oj zd).held (.ref e);rw[wJ]at J5;refine T2 (hs e pins s5 _ _ _ J5 q) (λf s6 z=>?_) λ_ _ z=>False.elim z;cases f with
  |ret u=>obtain⟨v,σ',H6,I6,rv,q6⟩:=z;exact name_goes (X:=X) (I6.ET I.ok) hl λs7 I7=>⟨v,_,H6,I7,rv,q6⟩
  |next=>obtain⟨_,_,_,z⟩:=z;exact False.elim z
  |brk=>obtain⟨_,_,_,z⟩:=z;exact False.elim z
  |cont=>obtain⟨_,_,_,z⟩:=z;exact False.elim z
def ux(i j:Int):Prop:=i.natAbs<2 ^ 8192/\j.natAbs<2 ^ 8192
def ux.ok(h:ux i j):IntMulOk i j:=IntMulOk.of_le (intBits_le_iff.mpr h.1) (intBits_le_iff.mpr h.2) (by decide)
def B9:OpR X (binaryOp .Mult) (rI ux λi j=>.int (i*j)):=opI λ_ _ _ _ _ _ _ hc q=>mul_int q hc.ok
section
variable {H:Hp}{Q:VK}{i j:Int}{x y:Str}{v:V}{o:Option V}{r:St}{n:Nat}
end
section
variable {K:Nh}{C:Addr}{f g:Str}{E E':XK}{D:Ends}{σ:St}{H:Hp}{v u:V}{te tu:TE}
end
def zl.upd{H:Hp}{p:Addr}{o:HO}(h:H p=Option.none):zl H (upd H p o):=λb q e=>by rw[zg (yd e h)];exact e
def eR(cells:Ni):List (Str×NameKind)->List (Str×Addr)->List (Str×Addr)
 |[],cs=>cs
 | (n,k)::r,cs=>eR cells r (if k == .free then(match cells.lookup n with|some c=>(n,c)::cs|none=>cs)else cs)
def KG{env:Env}:∀(names:Nl)(cs:Ni),(∀y∈names,y.2=.free->(env.cells.lookup y.1).isSome=true)->
  (forIn names cs λx r=>if(x.2==NameKind.free)=true then do let a<-cellOf env x.1;pure (ForInStep.yield ((x.1,a)::r))else pure (ForInStep.yield r))=(pure (eR env.cells names cs):Sem _)
 |[],cs,_=>rfl
 | (n,k)::r,cs,h=>by
  rw[List.forIn_cons];have ih:=λcs=>KG (env:=env) r cs λy hy=>h y (M8 _ hy);unfold eR;by_cases hk:(k==NameKind.free)=true
  .have hs:=h (n,k) M3 (R8.mp hk);obtain⟨c,hc⟩:=a0m.mp hs;have hc':List.lookup n env.cells=some c:=hc;simp only[hk,if_true,cellOf,hc',pure_bind];exact ih _
  .have hk':(k==NameKind.free)=false:=by simpa using hk
   simp only[hk',Bool.false_eq_true,if_false,pure_bind];exact ih _
def l7(h:∀y∈scope.names,y.2=.free->(env.cells.lookup y.1).isSome=true):closureFor scope env=pure (eR env.cells scope.names []):=by have:=KG scope.names [] h;simp only[closureFor];rw[this];rfl
def YQ{cells:Ni}{x:Str}{c:Addr}:∀(names:Nl)(cs:Ni),(∀d,cs.lookup x=some d->cells.lookup x=some d)->(eR cells names cs).lookup x=some c->cells.lookup x=some c
 |[],cs,h,e=>h c e
 | (n,k)::r,cs,h,e=>by
  unfold eR at e;refine YQ r _ (λd hd=>?_) e;by_cases hk:(k==NameKind.free)=true
  .rw[if_pos hk]at hd;split at hd
   .rename_i c' hc';rw[S5]at hd;split at hd
    .rename_i hx;cases hd;rw[R8.mp hx];exact hc'
    .exact h d hd
   .exact h d hd
  .rw[if_neg hk]at hd;exact h d hd
def aa{cells:Ni}{x:Str}:∀(names:Nl)(cs:Ni),((cs.lookup x).isSome=true\/((x,NameKind.free)∈names/\(cells.lookup x).isSome=true))->((eR cells names cs).lookup x).isSome=true
 |[],cs,h=>by
  rcases h with h|⟨h,_⟩
  .exact h
  .cases h
 | (n,k)::r,cs,h=>by
  unfold eR;refine aa r _ ?_;rcases h with h|⟨h,hc⟩
  .left;by_cases hk:(k==NameKind.free)=true
   .rw[if_pos hk];split
    .rw[S5];split
     .rfl
     .exact h
    .exact h
   .rw[if_neg hk];exact h
  .rcases O5.mp h with e|e
   .left;cases e;rw[if_pos (by rfl)];obtain⟨c,hc⟩:=a0m.mp hc;rw[hc,S5];simp
   .exact .inr ⟨e,hc⟩
def B_{x:Str}{c:Addr}:∀(names:Nl)(h:Heap)(cs:Ni),(cellsFrom h.objs.size names cs).lookup x=some c->cs.lookup x=some c\/(h.objs.size<=c/\∃v,(pushCells h names).IsCell c v)
 |[],_,_,e=>.inl e
 | (n,k)::r,h,cs,e=>by
  unfold cellsFrom at e;unfold pushCells;split at e
  .rename_i hk;rw[if_pos hk];have e':(cellsFrom (h.push { cls:=.type "cell",data:=.cell none }).objs.size r ((n,h.objs.size)::cs)).lookup x=some c:=by rw[a0T];exact e
   rcases B_ r _ _ e' with z|⟨z,v⟩
   .rw[S5]at z;split at z
    .cases z;exact .inr ⟨M7 _,none,_,a2m r _ _ _ (O8 _ rfl),rfl⟩
    .exact .inl z
   .rw[a0T]at z;exact .inr ⟨a1Z z,v⟩
  .rename_i hk;rw[if_neg hk];exact B_ r h cs e
def oq:∀(names:Nl)(lo:Nat)(cs:Ni),(∀x y c,cs.lookup x=some c->cs.lookup y=some c->x=y)->(∀x c,cs.lookup x=some c->c<lo)->∀x y c,(cellsFrom lo names cs).lookup x=some c->(cellsFrom lo names cs).lookup y=some c->x=y
 |[],_,_,h,_=>h
 | (n,k)::r,lo,cs,h,hl=>by
  unfold cellsFrom;split
  .refine oq r _ _ (λx y c e1 e2=>?_) λx c e=>?_
   .rw[S5]at e1 e2;split at e1<;>split at e2
    .rename_i q1 _ q2;rw[R8.mp q1,R8.mp q2]
    .cases e1;exact absurd (hl _ _ e2) (a0k _)
    .cases e2;exact absurd (hl _ _ e1) (a0k _)
    .exact h x y c e1 e2
   .rw[S5]at e;split at e
    .cases e;exact a0r _
    .exact a1r (hl x c e)
  .exact oq r _ _ h hl
def ot{x:Str}:∀(names:Nl)(lo:Nat)(cs:Ni),((cs.lookup x).isSome=true\/(x,NameKind.cell)∈names)->((cellsFrom lo names cs).lookup x).isSome=true
 |[],_,_,h=>h.elim id λz=>nomatch z
 | (n,k)::r,lo,cs,h=>by
  unfold cellsFrom;split
  .refine ot r _ _ ?_;rcases h with h|h
   .left;rw[S5];split
    .rfl
    .exact h
   .rcases O5.mp h with e|e
    .cases e;left;rw[S5];simp
    .exact .inr e
  .rename_i hk;refine ot r _ _ (h.imp id λz=>?_);rcases O5.mp z with e|e
   .cases e;exact absurd rfl hk
   .exact e
def ou{x:Str}:∀(names:Nl)(lo:Nat)(cs:Ni),(x,NameKind.cell)∉names->(cellsFrom lo names cs).lookup x=cs.lookup x
 |[],_,_,_=>rfl
 | (n,k)::r,lo,cs,h=>by
  unfold cellsFrom;split
  .rename_i hk;rw[ou r _ _ λz=>h (M8 _ z),S5];have:(x==n)=false:=by
    cases q:x==n with
    |false=>rfl
    |true=>exact absurd (by rw[R8.mp q,R8.mp hk];exact M3) h
   rw[this]
  .exact ou r _ _ λz=>h (M8 _ z)
def ow{x:Str}{c:Addr}:∀(names:Nl)(lo b:Nat)(cs:Ni),b<=lo->((x,NameKind.cell)∈names\/∀d,cs.lookup x=some d->b<=d)->(cellsFrom lo names cs).lookup x=some c->b<=c
 |[],_,_,_,_,h,e=>h.elim (λz=>nomatch z) λz=>z c e
 | (n,k)::r,lo,b,cs,hb,h,e=>by
  unfold cellsFrom at e;split at e
  .refine ow r _ b _ (a1s hb) ?_ e;rcases h with h|h
   .rcases O5.mp h with z|z
    .cases z;refine .inr λd hd=>?_;rw[S5]at hd;simp at hd;rw[<- hd];exact hb
    .exact .inl z
   .refine .inr λd hd=>?_;rw[S5]at hd;split at hd
    .cases hd;exact hb
    .exact h d hd
  .rename_i hk;refine ow r _ b _ hb (h.imp (λz=>?_) id) e;rcases O5.mp z with q|q
   .cases q;exact absurd rfl hk
   .exact q
def l8
  (h:Q (newEnv scope s.heap.objs.size globals (cellsFrom (s.heap.objs.size+1) scope.names cl) qual none .none (some env) builtinsNs) { s with heap:=pushCells (s.heap.push { cls:=.type "dict",data:=.dict #[] }) scope.names }):
  wpAny M A (newFunctionEnv scope globals cl [] qual none .none (some env)) Q E s:=by
 simp only[newFunctionEnv,Option.isSome_some,if_true];refine f8 (wpAny_alloc ?_);refine f8 (wpAny_layCells _ (λname kind cells=>by cases hkc:kind==NameKind.cell<;>simp[hkc]) _ _ _ _ ?_);rw[show({ s with heap:=s.heap.push { cls:=.type "dict",data:=.dict #[] } }:Shared).heap.objs.size=s.heap.objs.size+1 from a0T ..];refine f8 ?_;rw[List.forIn_nil];exact M9 (M9 h)
abbrev gL(scope:Scope)(cl:Ni)(L:Addr)(env:Env):Env:={ compEnvC scope cl L env with cells:=cellsFrom (L+1) scope.names cl }
abbrev qo(X:Cx)(scope:Scope)(N:MD)(fp:Nf)(pn:My)(s:MH)(H:Hp)(L:Addr):Cx:=
 { X with N:=N,s₀:=s,H₀:=H,env:=gL scope (eR X.env.cells scope.names []) L X.env,outer:=X.stack,ex:=fp,fn:=λx=>scope.names.contains (x,.cell),pn:=pn,xe:=λ_ _=>False }
def oy(X:Cx)(scope:Scope)(N:MD)(fr:MW):Bool:=
 scope.kind == .function&&scope.names.all (λy=>y.2 != .cell || !scope.names.contains (y.1,.free))&&scope.names.all (λy=>y.2 != .local||scope.names.lookup y.1==some .local) &&
 scope.names.all (λy=>y.2 != .free||(X.env.kindOf y.1==some .cell||X.env.kindOf y.1==some .free))&&N.length==fr.length &&
 (N.zip fr).all λp=>match p.2 with|none=>true|some j=>X.N[j]?==some p.1&&scope.names.contains (p.1,.free)&&((relabel scope X.env).names.lookup p.1==some .cell||(relabel scope X.env).names.lookup p.1==some .free)
def tM(σ:St)(fr:MW):St:=fr.map λo=>match o with|none=>none|some j=>(σ[j]?).join
def PTs(X:Cx)(ifs:MK)(t:TT):Prop:=
 ∀(pins:My)(s:MH)(σ:St)(H:Hp)(Q:Bool->Hp->Prop),Inv X pins σ H s->t σ H Q->
  wpAny (NO X) X.A (forIn ifs true λc r=>if r=true then do let ok<-isTrue c X.env (eval c X.env);pure (ForInStep.yield ok)else pure (ForInStep.yield r)) (TP X pins σ Q) X.xe s
def Mb:TT:=λ_ H Q=>Q true H
def Ca:PTs X [] Mb:=λ_ _ σ H _ I h=>wpAny_tests_nil ⟨H,I,h⟩
def Cb(h:PT X c t):PTs X [c] t:=λpins s σ H Q I q=>wpAny_tests_one (h pins s σ H Q I q)
def cz(h:(relabel scope env).names.lookup x=some .cell\/(relabel scope env).names.lookup x=some .free):(x,NameKind.free)∈scope.names\/(x,NameKind.cell)∈scope.names:=by
 have key:∀(names:Nl) k,(names.map λ(n,k)=>if(k==NameKind.free&&env.scope.kind == .function&&env.kindOf n==some .cell)then(n,NameKind.cell)else(n,k)).lookup x=some k->(k=.cell\/k=.free)->(x,NameKind.free)∈names\/(x,NameKind.cell)∈names:=by
  intro names
  induction names with
  |nil=>intro k e _;simp at e
  |cons y r ih=>
   intro k e hk;obtain⟨n,kd⟩:=y;rw[N5,S5]at e;by_cases q:(kd==NameKind.free&&env.scope.kind == .function&&env.kindOf n==some .cell)=true
   .simp only[q,if_true]at e;split at e
    .rename_i hx;have hf:kd=.free:=by simp only[Bool.and_eq_true,beq_iff_eq]at q;exact q.1.1
     left;rw[R8.mp hx,hf];exact M3
    .exact(ih k e hk).imp (M8 _) (M8 _)
   .simp only[q,Bool.false_eq_true,if_false]at e;split at e
    .rename_i hx;have e':kd=k:=T1 e;rcases hk with z|z
     .right;rw[R8.mp hx,e',z];exact M3
     .left;rw[R8.mp hx,e',z];exact M3
    .exact(ih k e hk).imp (M8 _) (M8 _)
 rcases h with h|h
 .exact key _ _ h (.inl rfl)
 .exact key _ _ h (.inr rfl)
def eS(I:Nat->Shared->Prop)
  (turn:∀n s,I n s->wpAny (model prog w) A (pyNext it) (λr s1=>match r with
   |none=>R (.ok .next) s1
   |some v=>wpAny (model prog w) A (letOwnedTupleGo target it v) (λ_ s1'=>wpAny (model prog w) A (assign target env v) (λ_ s2=>
     wpAny (model prog w) A (forIn ifs true λc r=>if r=true then do let ok<-isTrue c env (eval c env);pure (ForInStep.yield ok)else pure (ForInStep.yield r)) (λok s3=>
      if ok=true then wpAny (model prog w) A (eval elt env) (λx s4=>wpAny (model prog w) A (call (.builtin "list.append") [acc,x]) (λ_ s5=>∃m,m<n/\I m s5) (λ_ _=>False) s4) (λ_ _=>False) s3
      else ∃m,m<n/\I m s3) (λ_ _=>False) s2) (λ_ _=>False) s1') (λ_ _=>False) s1) (λ_ _=>False) s)
  (n:Nat) (h:I n s):codeAny (model prog w) A (.compLoop (.ListComp elt [⟨target,qP,ifs,0⟩] scope pos) 0 it acc env) R s:=by
 refine codeAny_loop rfl I (λn s hI=>?_) n h;show wpAny _ A ((compTurn (.ListComp elt [⟨target,qP,ifs,0⟩] scope pos) 0 it acc env).onRaise (λx=>do noteFrame x env;theTreesLotGoes x)) _ _ s;refine wpAny_noted ?_;rw[compTurn_list];refine f8 (a0Y (f8 (T2 (turn n s hI) (λr s1 h1=>?_) λ_ _ z=>False.elim z)));cases r with
 |none=>exact M9 h1
 |some v=>
  refine f8 (T2 h1 (λ_ s1' h1'=>f8 (T2 h1' (λ_ s2 h2=>f8 (T2 h2 (λok s3 h3=>?_) λ_ _ z=>False.elim z)) λ_ _ z=>False.elim z)) λ_ _ z=>False.elim z);cases ok with
  |false=>exact M9 ⟨rfl,h3⟩
  |true=>exact f8 (f8 (T2 h3 (λx s4 h4=>f8 (T2 h4 (λ_ s5 h5=>M9 (M9 ⟨rfl,h5⟩)) λ_ _ z=>False.elim z)) λ_ _ z=>False.elim z))
def l9{X:Cx}{pins:My}{σ:St}{H2:Hp}{s2:MH}{elt qP tg:MR}{ifs:MK}{scope:Scope}{pos:Pos}{N:MD}{fr:MW}{it:Addr}{fp:Nf}{tn:Nat->Heap->Prop}{J:It}
  {E:MC}{RR:Value->Addr->Result->Shared->Prop}
  (hc:X.calm=true) (hok:oy X scope N fr=true) (I2:Inv X pins σ H2 s2) (T:Turn X.prog X.w X.K tg J fp it tn) (st:tn 0 s2.heap) (f2:∀b∈fp,tL X pins H2 b)
  (k:∀(s3:MH)(h1:Heap),Inv X pins σ (upd H2 s2.heap.objs.size (.lst [])) s3->Inv (qo X scope N fp (X.pn++pins) s3 (upd H2 s2.heap.objs.size (.lst [])) s3.heap.objs.size) [] (tM σ fr) (upd H2 s2.heap.objs.size (.lst [])) { s3 with heap:=h1,toks:=s3.toks+0 }->(∀b o,s2.heap.get? b=some o->h1.get? b=some o)->(∀b∈fp,(upd H2 s2.heap.objs.size (.lst [])) b=none)->(∀H':Hp,(∀b∈fp,H' b=none)->∀b∈fp,tL (qo X scope N fp (X.pn++pins) s3 (upd H2 s2.heap.objs.size (.lst [])) s3.heap.objs.size) [] H' b)->
   codeAny (NO X) X.A (.compLoop (.ListComp elt [⟨tg,qP,ifs,0⟩] scope pos) 0 (.ref it) (.ref s2.heap.objs.size) (gL scope (eR X.env.cells scope.names []) s3.heap.objs.size X.env)) (RR (.ref s2.heap.objs.size) s3.heap.objs.size) { s3 with heap:=h1,toks:=s3.toks+0 }):
  wpAny (NO X) X.A (newList []) (λacc s3=>wpAny (NO X) X.A (newFunctionEnv scope X.env.globals (eR X.env.cells scope.names []) [] X.env.qual none .none (some X.env)) (λcenv s4=>
   codeAny (NO X) X.A (.compStart (.ListComp elt [⟨tg,qP,ifs,0⟩] scope pos) 0 (.ref it) acc { cenv with scope:=relabel scope X.env }) (RR acc cenv.locals) s4) E s3) E s2:=by
 unfold oy at hok;simp only[Bool.and_eq_true,beq_iff_eq,List.all_eq_true]at hok;obtain⟨⟨⟨⟨⟨k1,k2⟩,k3⟩,k4⟩,k5⟩,k6⟩:=hok;have hcf:∀x,(x,NameKind.free)∈scope.names->(x,NameKind.cell)∉scope.names:=λx hf hc'=>by have:=k2 _ hc';simp only[bne_self_eq_false,Bool.false_or,Bool.not_eq_true',List.contains_eq_mem,decide_eq_false_iff_not]at this;exact this hf
 refine a1q ?_;have I3:Inv X pins σ (upd H2 s2.heap.objs.size (.lst [])) { s2 with heap:=s2.heap.push { cls:=.type "list",data:=.seq ([]:List Value).toArray } }:=I2.HB (ys:=[]) (its:=[]) (t':=s2.toks) .nil (S7 _);refine l8 ?_;generalize hs3:({ s2 with heap:=s2.heap.push { cls:=.type "list",data:=.seq ([]:List Value).toArray } }:Shared)=s3 at I3 ⊢;have hns1:=(Heap.Ns.new s3.heap (.type "dict")).keeps (a2m scope.names _);have kp1:∀b o,s3.heap.get? b=some o->(pushCells (s3.heap.push { cls:=.type "dict",data:=.dict #[] }) scope.names).get? b=some o:=λb o e=>a2m _ _ b o (M6 _ e);have cor:∀x c,(cellsFrom (s3.heap.objs.size+1) scope.names (eR X.env.cells scope.names [])).lookup x=some c->X.env.cells.lookup x=some c\/(s3.heap.objs.size+1<=c/\∃v,(pushCells (s3.heap.push { cls:=.type "dict",data:=.dict #[] }) scope.names).IsCell c v):=λx c e=>by have:=B_ (x:=x) (c:=c) scope.names (s3.heap.push { cls:=.type "dict",data:=.dict #[] }) (eR X.env.cells scope.names []) (by rw[a0T];exact e);rw[a0T]at this;exact this.imp (YQ _ [] λ_ z=>by simp at z) id
 generalize hh1:pushCells (s3.heap.push { cls:=.type "dict",data:=.dict #[] }) scope.names=h1 at hns1 kp1 cor ⊢;have kp0:∀b o,s2.heap.get? b=some o->s3.heap.get? b=some o:=λb o e=>by rw[<- hs3];exact M6 _ e
 have fp3:∀b∈fp,b<s3.heap.objs.size/\(upd H2 s2.heap.objs.size (.lst [])) b=none:=λb hb=>by obtain⟨o,ho,_⟩:=T.obj _ _ st b hb;refine⟨N4 (kp0 _ _ ho),?_⟩;rw[zg (O1 (N4 ho))];exact(f2 b hb).1
 have okc:(qo X scope N fp (X.pn++pins) s3 (upd H2 s2.heap.objs.size (.lst [])) s3.heap.objs.size).Ok:=by
  refine⟨I3.ok.mod,k1,I3.ok.glob,I3.ok.blt,M7 _,oq _ _ _ (λx y c e1 e2=>I3.ok.inj x y c (YQ _ [] (λ_ z=>by simp at z) e1) (YQ _ [] (λ_ z=>by simp at z) e2)) (λx c e=>?_),λx hx=>?_,λx c z e=>?_,λ_=>I3.ok.hd hc,I3.ok.frames,.inl rfl,
   λb hb=>⟨O1 (fp3 b hb).1,λx c e=>?_⟩,I3.bs,P7 I3.ok.bsz I3.sz,λb o e hb=>?_,λb hb z=>?_,I3.stack,I3.UX⟩
  .obtain⟨v,hv⟩:=I3.cell x c (YQ _ [] (λ_ z=>by simp at z) e);exact a1r hv.lt
  .refine a0m.mp (ot _ _ _ ?_);rcases cz hx with hf|hf
   .have hk:=k4 _ hf;simp only[bne_self_eq_false,Bool.false_or,Bool.or_eq_true,beq_iff_eq]at hk;obtain⟨c,hcx⟩:=I3.ok.has x hk;exact .inl (aa _ [] (.inr ⟨hf,by rw[hcx];rfl⟩))
   .exact .inr hf
  .exact ow scope.names (s3.heap.objs.size+1) s3.heap.objs.size _ (a0x _) (.inl (List.contains_iff_mem.mp z)) e
  .rcases cor x c e with z|⟨z,_⟩
   .exact(f2 b hb).2.2.2.2.1 x c z
   .exact λq=>absurd (a0L (a1Z z) (show c<s3.heap.objs.size by rw[q];exact(fp3 b hb).1)) (a0k _)
  .rcases(f2 b hb).2.2.2.1 with z|z
   .exact I2.ok.D5 b o e z
   .have:=N4 e;exact absurd (N9 this I2.ok.bsz) (Nat.not_lt.mpr z)
  .rcases O5.mp (I3.Uj b z)with z|z
   .exact(f2 b hb).2.1 z
   .exact(f2 b hb).2.2.1 z
 have lenN:(tM σ fr).length=N.length:=by unfold tM;rw[u8];exact k5.symm
 have J0:Inv (qo X scope N fp (X.pn++pins) s3 (upd H2 s2.heap.objs.size (.lst [])) s3.heap.objs.size) [] (tM σ fr) (upd H2 s2.heap.objs.size (.lst [])) { s3 with heap:=h1,toks:=s3.toks+0 }:=by
  have I4:=I3.kept (h':=h1) (t':=s3.toks+0) kp1;refine⟨okc,rfl,I3.bare,Un.kept kp1,⟨_,hns1,λi x v e1 e2 _=>?_⟩,λx c e=>(cor x c e).elim (I4.cell x c) λz=>z.2,I3.hok.fresh (M7 _),λx c e=>(cor x c e).elim (I4.QY x c) λz=>I3.hok.fresh (a1Z z.1),λp hp=>?_,I4.hok,lenN⟩
  .unfold tM at e2;rw[P2]at e2;cases hfi:fr[i]? with
   |none=>rw[hfi]at e2;cases e2
   |some o=>
    rw[hfi]at e2;cases o with
    |none=>cases e2
    |some j=>
     have e3:(σ[j]?).join=some v:=T1 e2;have hm:(x,some j)∈N.zip fr:=by refine a0y (i:=i) ?_;rw[List.getElem?_zip_eq_some];exact⟨e1,hfi⟩
     have hk:=k6 _ hm;simp only[Bool.and_eq_true,Bool.or_eq_true,beq_iff_eq,List.contains_iff_mem]at hk;obtain⟨⟨g1,g2⟩,g3⟩:=hk;have hσ:σ[j]?=some (some v):=by
      cases q:σ[j]? with
      |none=>rw[q]at e3;cases e3
      |some w=>rw[q]at e3;cases w with
       |none=>cases e3
       |some w=>cases e3;rfl
     have hkx:=k4 _ g2;simp only[bne_self_eq_false,Bool.false_or,Bool.or_eq_true,beq_iff_eq]at hkx;obtain⟨m,_,hl⟩:=I4.loc;obtain⟨u,ru,lk⟩:=hl j x v g1 hσ (by rcases hkx with z|z;exact .inr (.inl z);exact .inr (.inr z));refine⟨u,ru,.inr ⟨g3,?_⟩⟩;rcases lk with⟨z,_⟩|⟨_,c,ec,z⟩
     .rcases hkx with q|q<;>(rw[z]at q;cases q)
     .obtain⟨c',hc'⟩:=a0m.mp (aa (cells:=X.env.cells) (x:=x) scope.names [] (.inr ⟨g2,by rw[ec];rfl⟩));have:=YQ _ [] (λ_ z=>by simp at z) hc';rw[ec]at this;cases this;exact⟨c,(ou _ _ _ (hcf x g2)).trans hc',z⟩
  .have hp':p∈X.pn++pins:=by rw[P4]at hp;exact hp
   obtain⟨q1,q2,q3,q4,q5⟩:=I4.pin p hp';refine⟨q1,q2,O1 (N4 (I3.pin p hp').1),λz=>?_,q5⟩;rcases O5.mp (I3.Uj _ z)with z|z
   .exact q3 z
   .exact q4 z
 have stat:∀{H':Hp},(∀b∈fp,H' b=none)->∀b∈fp,tL (qo X scope N fp (X.pn++pins) s3 (upd H2 s2.heap.objs.size (.lst [])) s3.heap.objs.size) [] H' b:=λhn b hb=>
  ⟨hn b hb,(okc.exf b hb).1,λz=>okc.D6 b hb z,.inl hb,(okc.exf b hb).2,λp hp=>by rw[P4]at hp;exact(f2 b hb).2.2.2.2.2 p hp⟩
 have loop:=k s3 h1 I3 J0 (λb o e=>kp1 b o (kp0 b o e)) (λb hb=>(fp3 b hb).2) (λ_ hn=>stat hn);exact codeAny_compStart_list loop (T.self _ 0 _ _ _ (T.keep _ _ _ st λb _ o e=>kp1 b o (kp0 b o e)) loop)
def gM{X:Cx}{pins:My}{σ:St}{H2:Hp}{s2:MH}{elt qP tg:MR}{ifs:MK}{scope:Scope}{pos:Pos}{N:MD}{fr:MW}{g:TG}{tc:TT}{te:TE}{it:Addr}{fp:Nf}{tn:Nat->Heap->Prop}{J:It}
  {E:MC}{RR:Value->Addr->Result->Shared->Prop}{Q:VK}
  (hc:X.calm=true) (hok:oy X scope N fr=true) (I2:Inv X pins σ H2 s2) (T:Turn X.prog X.w X.K tg J fp it tn) (st:tn 0 s2.heap) (f2:∀b∈fp,tL X pins H2 b)
  (hg:∀fp pn s H L,PG (qo X scope N fp pn s H L) tg g) (hi:∀fp pn s H L,PTs (qo X scope N fp pn s H L) ifs tc) (he:∀fp pn s H L,PE (qo X scope N fp pn s H L) elt te)
  (h:∀acc,H2 acc=none->∃W:Nat->Nat->St->Hp->Prop,(∃m,W 0 m (tM σ fr) (upd H2 acc (.lst [])))/\∀i m σ' H',W i m σ' H'->
   (J.stop i H'/\Q (.ref acc) H')\/(J.go i H'/\∃N:St->Hp->Prop,(∀σ' H',N σ' H'->∃m',m'<m/\W (i+1) m' σ' H')/\∀x H3,J.yld i H' x H3->g x σ' H3 λσ4 H4=>tc σ4 H4 λb H5=>
    if b=true then te σ4 H5 λv H6=>∃ys,H6 acc=some (.lst ys)/\ys.length<sizeLine/\N σ4 (upd H6 acc (.lst (ys++[v])))else N σ4 H5))
  (hRR:∀acc C m s' H',Inv X pins σ H' s'->s'.heap.Ns C m->X.s₀.heap.objs.size<=C->H' C=none->C≠X.env.locals->(∀x c,X.env.cells.lookup x=some c->c≠C)->(∀p∈X.pn++pins,p.1≠C)->Q (.ref acc) H'->RR (.ref acc) C (.ok .next) s'):
  wpAny (NO X) X.A (newList []) (λacc s3=>wpAny (NO X) X.A (newFunctionEnv scope X.env.globals (eR X.env.cells scope.names []) [] X.env.qual none .none (some X.env)) (λcenv s4=>
   codeAny (NO X) X.A (.compStart (.ListComp elt [⟨tg,qP,ifs,0⟩] scope pos) 0 (.ref it) acc { cenv with scope:=relabel scope X.env }) (RR acc cenv.locals) s4) E s3) E s2:=by
 have hDf:H2 s2.heap.objs.size=none:=I2.hok.fresh (M7 _);obtain⟨W,⟨m0,w0⟩,turn⟩:=h _ hDf;refine l9 hc hok I2 T st f2 λs3 h1 I3 J0 kp fpn stat=>?_;have hcc:(qo X scope N fp (X.pn++pins) s3 (upd H2 s2.heap.objs.size (.lst [])) s3.heap.objs.size).calm=true:=hc;refine eS (λn s'=>∃i σ' H',Inv (qo X scope N fp (X.pn++pins) s3 (upd H2 s2.heap.objs.size (.lst [])) s3.heap.objs.size) [] σ' H' s'/\tn i s'.heap/\(∀b∈fp,H' b=none)/\W i n σ' H') ?_ m0
  ⟨0,_,_,J0,T.keep _ _ _ st λb _ o e=>kp b o e,fpn,w0⟩
 rintro n s5 ⟨i,σ5,H5,I5,st5,fr5,w5⟩
 rcases turn i n σ5 H5 w5 with⟨stop,qn⟩|⟨go,NN,hNN,step⟩
 .refine thn (T.done (qo X scope N fp (X.pn++pins) s3 (upd H2 s2.heap.objs.size (.lst [])) s3.heap.objs.size) rfl rfl rfl hcc i [] s5 σ5 H5 _ I5 (stat _ fr5) st5 stop) λr s6 ⟨hr,I6⟩=>?_;subst hr;have I7:Inv X pins σ H5 s6:=I3.Ea (ch:=fp) I6.os I6.base I6.hok I6.bare λb hb=>⟨(f2 b hb).2.2.2.1,(f2 b hb).2.1,(f2 b hb).2.2.2.2.1,(f2 b hb).2.2.2.2.2⟩;obtain⟨mm,hmm,_⟩:=I6.loc;refine hRR _ _ mm s6 H5 I7 hmm I3.sz I6.free (a0l I3.lt) (λx c e z=>?_) (λp hp z=>?_) qn
  .obtain⟨v,hv⟩:=I3.cell x c e;exact absurd hv.lt (by rw[z];exact a0k _)
  .exact absurd (N4 (I3.pin p hp).1) (by rw[z];exact a0k _)
 .refine thn (T.item (qo X scope N fp (X.pn++pins) s3 (upd H2 s2.heap.objs.size (.lst [])) s3.heap.objs.size) rfl rfl rfl hcc i [] s5 σ5 H5 _ I5 (stat _ fr5) st5 go) λr s6 ⟨u,hr,h6⟩=>?_;subst hr;refine thn h6 λ_ s7 ⟨x,H7,I7,r7,y7,st7,fr7⟩=>?_;have I7':=I7.pinned (stat _ fr7) (T.obj _ _ st7);have again:∀{σ9:St}{H9:Hp}{s9:MH},Inv (qo X scope N fp (X.pn++pins) s3 (upd H2 s2.heap.objs.size (.lst [])) s3.heap.objs.size) ([]++bQ fp s7.heap) σ9 H9 s9->NN σ9 H9->
    ∃m,m<n/\∃i σ' H',Inv (qo X scope N fp (X.pn++pins) s3 (upd H2 s2.heap.objs.size (.lst [])) s3.heap.objs.size) [] σ' H' s9/\tn i s9.heap/\(∀b∈fp,H' b=none)/\W i m σ' H':=λ{σ9 H9 s9} I9 n9=>by
   obtain⟨m',hm,w9⟩:=hNN σ9 H9 n9;refine⟨m',hm,i+1,σ9,H9,I9.kf,T.keep _ _ _ st7 λb hb o e=>(I9.pin (b,o) (O3 _ (O3 _ (YO hb e)))).1,λb hb=>?_,w9⟩;obtain⟨o,e,d⟩:=T.obj _ _ st7 b hb;exact(I9.pin (b,o) (O3 _ (O3 _ (YO hb e)))).2.1
  refine thn (hg _ _ _ _ _ _ s7 σ5 H7 x u _ I7' r7 (step x H7 y7)) λ_ s8 ⟨σ8,H8,I8,q8⟩=>?_;refine thn (hi _ _ _ _ _ _ s8 σ8 H8 _ I8 q8) λok s9 ⟨H9,I9,q9⟩=>?_;cases ok with
  |false=>rw[if_neg (by decide)]at q9 ⊢;exact again I9 q9
  |true=>rw[if_pos rfl]at q9 ⊢;refine thn (he _ _ _ _ _ _ s9 σ8 H9 _ I9 q9) λy s10 ⟨v,H10,I10,r10,ys,h10,l10,q10⟩=>?_;refine thn (cb (X:=qo X scope N fp (X.pn++pins) s3 (upd H2 s2.heap.objs.size (.lst [])) s3.heap.objs.size) _ s10 σ8 H10 (.ref s2.heap.objs.size) [v] (.ref s2.heap.objs.size) [y] (λ_ H11=>NN σ8 H11) I10 rfl (.cons r10 .nil) ⟨_,ys,v,rfl,rfl,h10,l10,q10⟩) λ_ s11 ⟨_,H11,I11,_,q11⟩=>?_;exact again I11 q11
def tLC(wi:TI)(g:TG)(tc:TT)(te:TE)(fr:MW):TE:=λσ H Q=>wi σ H λJ H1=>∀acc,H1 acc=none->∃W:Nat->Nat->St->Hp->Prop,(∃m,W 0 m (tM σ fr) (upd H1 acc (.lst [])))/\∀i m σ' H',W i m σ' H'->
 (J.stop i H'/\Q (.ref acc) H')\/(J.go i H'/\∃N:St->Hp->Prop,(∀σ' H',N σ' H'->∃m',m'<m/\W (i+1) m' σ' H')/\∀x H3,J.yld i H' x H3->g x σ' H3 λσ4 H4=>tc σ4 H4 λb H5=>
  if b=true then te σ4 H5 λv H6=>∃ys,H6 acc=some (.lst ys)/\ys.length<sizeLine/\N σ4 (upd H6 acc (.lst (ys++[v])))else N σ4 H5)
def gN{X:Cx}{pins:My}{σ:St}{H:Hp}{s:MH}{scope:Scope}{N:MD}{fr:MW}(hok:oy X scope N fr=true)(I:Inv X pins σ H s):
  scope.kind=.function/\(∀y∈scope.names,y.2=.local->scope.names.lookup y.1=some .local)/\closureFor scope X.env=pure (eR X.env.cells scope.names []):=by
 unfold oy at hok;simp only[Bool.and_eq_true,beq_iff_eq,List.all_eq_true]at hok;obtain⟨⟨⟨⟨⟨k1,k2⟩,k3⟩,k4⟩,k5⟩,k6⟩:=hok;refine⟨k1,λy hy z=>?_,l7 λy hy z=>?_⟩
 .have:=k3 y hy;rw[z]at this;simpa using this
 .have hk:=k4 y hy;rw[z]at hk;simp only[bne_self_eq_false,Bool.false_or,Bool.or_eq_true,beq_iff_eq]at hk;obtain⟨c,hcx⟩:=I.ok.has y.1 hk;rw[hcx];rfl
def EV(N:MD)(fr:MW)(hc:X.calm=true)(hok:oy X scope N fr=true)(hi:PI X tg qP wi)(hg:∀fp pn s H L,PG (qo X scope N fp pn s H L) tg g)(ht:∀fp pn s H L,PTs (qo X scope N fp pn s H L) ifs tc)(he:∀fp pn s H L,PE (qo X scope N fp pn s H L) elt te)
  (hs:∀x,foldedSetIterable qP X.env x=pure x:=by intro _;rfl):PE X (.ListComp elt [⟨tg,qP,ifs,0⟩] scope pos) (tLC wi g tc te fr):=by
 intro pins s σ H Q I h;obtain⟨k1,k3,hcl⟩:=gN hok I;rw[eval_ListComp];refine a18 (use:=none) rfl hs hcl k1 k3 (thn (hi pins s σ H _ I h) λv s1 h1=>thn h1 λitv s2 h2=>?_);obtain⟨it,fp,tn,J,H2,e,I2,T,st2,f2,hr⟩:=h2;subst e;refine gM (Q:=Q) (RR:=λacc C=>compPost (NO X) X.A X.xe none (EP X pins σ Q) acc C) hc hok I2 T st2 f2 hg ht he hr λacc C m s' H' I' hn h1 h2 h3 h4 h5 q=>?_;exact⟨m,hn,λh' sb=>⟨.ref acc,H',I'.turned (t':=s'.toks) (λb o hb e=>(sb.2 b hb).trans e) h2 h3 (.inr h1) h4 h5,rfl,q⟩⟩
def EW(N:MD)(fr:MW)(hN:X.N.Nodup)(hy:X.N[i]?=some y)(hl:X.env.scope.names.lookup y=some .local)(hc:X.calm=true)(hok:oy X scope N fr=true)(hi:PI X tg qP wi)(hg:∀fp pn s H L,PG (qo X scope N fp pn s H L) tg g)
  (ht:∀fp pn s H L,PTs (qo X scope N fp pn s H L) ifs tc) (he:∀fp pn s H L,PE (qo X scope N fp pn s H L) elt te) (hsw:swapsWith (.ListComp elt [⟨tg,qP,ifs,0⟩] scope pos) (some (.Name y py)) nC.line X.env=pure true:=by rfl)
  (hs:∀x,foldedSetIterable qP X.env x=pure x:=by intro _;rfl):PS X (.Assign [.Name y py] (.ListComp elt [⟨tg,qP,ifs,0⟩] scope pos) nC) (DS (tLC wi g tc te fr) (eD i)):=by
 intro pins s σ H D I h;obtain⟨k1,k3,hcl⟩:=gN hok I;rw[exec_Assign_Name_used _ _ _ _ hsw];refine f8 (a0Y (f8 ?_));show wpAny _ X.A (do let _<-comprehension (.ListComp elt [⟨tg,qP,ifs,0⟩] scope pos) scope X.env _ (newList []) false (eval qP X.env) (some (assign (.Name y py) X.env))) _ _ s;refine f8 (T2 (a18 (use:=some (assign (.Name y py) X.env)) (Q:=λ_ s'=>SP X pins D .next s') rfl hs hcl k1 k3
  (thn (hi pins s σ H _ I h) λv s1 h1=>thn h1 λitv s2 h2=>?_)) (λ_ s' hq=>M9 (M9 hq)) λ_ _ z=>z)
 obtain⟨it,fp,tn,J,H2,e,I2,T,st2,f2,hr⟩:=h2;subst e;refine gM (Q:=λv H1=>eD i v σ H1 D.nx) (RR:=λacc C=>compPost (NO X) X.A X.xe (some (assign (.Name y py) X.env)) (λ_ s'=>SP X pins D .next s') acc C) hc hok I2 T st2 f2 hg ht he hr λacc C m s' H' I' hn h1 h2 h3 h4 h5 q=>?_;show wpAny _ X.A (assign (.Name y py) X.env (.ref acc)) _ _ _;refine wpAny_assign_Name (bO (v:=.ref acc) I' hN hy (.inl hl) rfl (λs'' I'' ⟨a,sb,ha⟩=>?_) (.inr hl));have nea:C≠a:=λz=>by
  rcases ha with e|e
  .exact h3 (z.trans e)
  .exact h4 y a e z.symm
 obtain⟨o,es,ep,ho,rr⟩:=id hn;refine⟨m,⟨o,es,ep,(sb.2 C nea).trans ho,rr⟩,λh' sb'=>⟨_,H',I''.turned (t':=s''.toks) (λb o hb e=>(sb'.2 b hb).trans e) h2 h3 (.inr h1) h4 h5,q⟩⟩
section
variable {X:Cx}
def Mc:V->Option Int->Option Int->Hp->VK->Prop:=λx lo hi H Q=>∃z,x=.str z/\z.length<=sizeLine/\Q (.str (Txt.slice z lo hi)) H
def EX:SlR X Mc:=by
 intro pins s σ H x v vl vu lo hi sl Q I rx hs pl pu h;obtain⟨z,rfl,hz,q⟩:=h;obtain⟨t,rfl⟩:=rx;have part:∀{a:Value}{o:Nx},IsPart a o->∃p:Option (Int×Tok),a=partValue p/\p.map (·.1)=o:=by
  intro a o h;cases h
  .exact⟨none,rfl,rfl⟩
  .exact⟨some (_,_),rfl,rfl⟩
 obtain⟨p1,rfl,rfl⟩:=part pl;obtain⟨p2,rfl,rfl⟩:=part pu;refine⟨"str",_,F.slot_str_getitem.lookup,typeIs_str _ _ _,wpAny_getItem_str_slice (l:=p1) (u:=p2) (st:=none) ?_ rfl ?_⟩
 .exact hs
 .exact post_val_or_str ⟨P7 (Txt.slice_le z _ _) hz,λt' k=>⟨.str _,H,I.tok _,⟨t',rfl⟩,q⟩⟩
def rJoin(K:Nh):V->List V->Hp->VK->Prop:=λx vs H Q=>∃sep p ys,x=.str sep/\vs=[.ref p]/\SqL K H p (ys.map V.str)/\(ys.map (·.length)).sum+ys.length*sep.length<=16777216/\Q (.str (Txt.join sep ys)) H
def oz:∀{ys:MD}{us:MJ},Vals (ys.map V.str) us->StrsAre us ys
 |[],_,.nil=>.nil
 |y::ys,_,.cons ⟨t,e⟩ r=>by subst e;exact .cons y t (oz r)
def Cc:MtM X "str.join" (rJoin X.K):=by intro pins s σ H x vs v us Q I rx rv h;obtain⟨sep,p,ys,rfl,rfl,hS,hl,q⟩:=h;obtain⟨t,rfl⟩:=rx;obtain⟨u,rfl,ru⟩:=rv.one;cases ru;obtain⟨its,r,pl,_⟩:=I.list hS;exact join_list pl.isList (oz r) hl λt' k=>⟨.str _,H,I.tok _,⟨t',rfl⟩,q⟩
end
def Its(x:Str):It:=⟨λi _=>i<x.cps.size,λi H v H'=>H'=H/\∃c,x.cps[i]?=some c/\v=.str ⟨#[c]⟩,λi _=>x.cps.size<=i⟩
def Cd(it:Addr)(x:Str)(i:Nat)(h:Heap):Prop:=∃t,h.IsStrIter it "str_ascii_iterator" x t i\/h.IsStrIter it "str_iterator" x t i
def uy{P:MV}{w:M_}{K:Nh}{y:Str}{py:Pos}(it:Addr)(x:Str):Turn P w K (.Name y py) (Its x) [it] it (λi h=>i<=x.cps.size/\Cd it x i h)where
 mem:=by simp
 obj:=λi h st b hb=>by
  obtain rfl:b=it:=by simpa using hb
  obtain⟨_,t,⟨o,e,_,d⟩|⟨o,e,_,d⟩⟩:=st<;>exact⟨o,e,λv z=>by rw[d]at z;cases z⟩
 keep:=λi h h' st k=>by
  obtain⟨hi,t,⟨o,e,r⟩|⟨o,e,r⟩⟩:=st
  .exact⟨hi,t,.inl ⟨o,k it (by simp) o e,r⟩⟩
  .exact⟨hi,t,.inr ⟨o,k it (by simp) o e,r⟩⟩
 item:=by
  intro X hP hw hK hc i pins s σ H E I hf st hg;subst hP hw hK;have hg':i<x.cps.size:=hg;have hx:x.cps[i]?=some x.cps[i]:=Array.getElem?_eq_getElem hg';obtain⟨f0,f1,f2,f3,f4,f5⟩:=hf it (by simp);obtain⟨_,t,st|st⟩:=st
  .refine wpAny_pyNext_ascii_item st hx λh' st' sb=>⟨_,rfl,M9 ⟨.str ⟨#[x.cps[i]]⟩,H,I.turned (t':=s.toks+1) (λb o hb e=>(sb.2 b hb).trans e) f0 f1 f3 f4 f5,⟨_,rfl⟩,⟨rfl,_,hx,rfl⟩,⟨hg',t,.inl st'⟩,λb hb=>(hf b hb).1⟩⟩
  .refine wpAny_pyNext_wide_item st hx λh' st' sb=>⟨_,rfl,M9 ⟨.str ⟨#[x.cps[i]]⟩,H,I.turned (t':=s.toks+1) (λb o hb e=>(sb.2 b hb).trans e) f0 f1 f3 f4 f5,⟨_,rfl⟩,⟨rfl,_,hx,rfl⟩,⟨hg',t,.inr st'⟩,λb hb=>(hf b hb).1⟩⟩
 done:=by
  intro X hP hw hK hc i pins s σ H E I hf st hg;subst hP hw hK;have hg':x.cps.size<=i:=hg;have hx:x.cps[i]?=none:=a2p hg';obtain⟨f0,f1,f2,f3,f4,f5⟩:=hf it (by simp);obtain⟨_,t,st|st⟩:=st
  .exact wpAny_pyNext_ascii_end (I.ok.hd hc) st hx λh' eb=>⟨rfl,I.turned (t':=s.toks) (λb o hb e=>eb b o hb e) f0 f1 f3 f4 f5⟩
  .exact wpAny_pyNext_wide_end (I.ok.hd hc) st hx λh' eb=>⟨rfl,I.turned (t':=s.toks) (λb o hb e=>eb b o hb e) f0 f1 f3 f4 f5⟩
 self:=λ_ _ _ _ _ st h=>by
  obtain⟨_,t,st|st⟩:=st
  .exact wpAny_pyIter_striter_ascii st h
  .exact wpAny_pyIter_striter_wide st h
def Md(tl:TE):TI:=λσ H R=>tl σ H λx H1=>∃z,x=.str z/\R (Its z) H1
def EY(hl:PE X l tl):PI X (.Name y py) l (Md tl):=by
 intro pins s σ H R I h;refine thn (hl pins s σ H _ I h) λv s1 ⟨x,H1,I1,r1,z,e,q⟩=>?_;subst e;obtain⟨t,rfl⟩:=r1;have fin:∀o:Obj,(∀h,h.get? s1.heap.objs.size=some o->Cd s1.heap.objs.size z 0 h)->PIE X pins σ (.Name y py) R (.ref s1.heap.objs.size) { s1 with heap:=s1.heap.push o }->PIE X pins σ (.Name y py) R (.ref s1.heap.objs.size) { s1 with heap:=s1.heap.push o }:=λ_ _ h=>h;have mk:∀o:Obj,o.isFreed=false->(∀h:Heap,h.get? s1.heap.objs.size=some o->Cd s1.heap.objs.size z 0 h)->PIE X pins σ (.Name y py) R (.ref s1.heap.objs.size) { s1 with heap:=s1.heap.push o }:=λo hf ho=>by
  have I2:Inv X pins σ H1 { s1 with heap:=s1.heap.push o }:=I1.kept (t':=s1.toks) λb u e=>M6 _ e;refine⟨s1.heap.objs.size,[s1.heap.objs.size],_,Its z,H1,rfl,I2,uy _ z,⟨S7 _,ho _ (O8 _ hf)⟩,λb hb=>?_,q⟩;obtain rfl:b=s1.heap.objs.size:=by simpa using hb
  exact I1.DT (M7 _) (I1.hok.fresh (M7 _))
 cases ha:z.cps.all (·<128)
 .exact wpAny_pyIter_wide ha (mk _ rfl λh e=>⟨t,.inr ⟨_,e,rfl,rfl⟩⟩)
 .exact wpAny_pyIter_ascii ha (mk _ rfl λh e=>⟨t,.inl ⟨_,e,rfl,rfl⟩⟩)
section
variable {X:Cx}
end
section
variable {C:Addr}{f g:Str}{E':XK}{σ:St}{H:Hp}{v u:V}{te tu:TE}{Q:VK}
end
section
variable {K:Nh}{C e:Addr}{f:Str}{σ:St}{H:Hp}{v:V}{te:TE}{Q:VK}{fs:Nd}
end
section
variable {te:TE}{fr:MW}{σ:St}{H:Hp}{Q:VK}{r:St}
end
abbrev TJ:=St->Hp->Str->(Str->Hp->Prop)->Prop
section
variable {X:Cx}{e:MR}{es:MK}{t:TE}{tj:TJ}{pos:Pos}
end
section
variable {X:Cx}
def EZ:R2:=λx y H Q=>∃z i,x=.str z/\y=.int i/\z.length<=16/\-2 ^ 63<=i/\i<=1048576/\Q (.str (Txt.mul z i)) H
def l_:OpR X (binaryOp .Mult) EZ:=by intro pins s σ H x y v u Q I rx ry h;obtain⟨z,i,rfl,rfl,hz,h1,h2,q⟩:=h;obtain⟨t,rfl⟩:=rx;obtain⟨t',rfl⟩:=ry;exact PySem.W.KXi.mul rfl hz h1 h2 λt' k _ _=>⟨.str _,H,I.tok _,⟨_,rfl⟩,q⟩
end
section
variable {X:Cx}{e o c:MR}{st:Nq}{rest a b:Nk}{t u:TS}{te to:TE}{tc:TT}{pos:Pos}
end
section
variable {X:Cx}
def E1(i j:Int):Prop:=j≠0/\j.natAbs<2 ^ 8192
def uz:OpR X (binaryOp .FloorDiv) (rI E1 λi j=>.int (i.fdiv j)):=opI λ_ j _ _ _ _ _ hc q=>floordiv_int hc.1 q (.inl (PyProof.noPylong_of_log2 (by
 have h1:j.natAbs≠0:=by have:=hc.1;omega
 have:=(Nat.log2_lt h1).mpr hc.2;omega)))
def oA:∀{ns:Nc}{us:MJ},Vals (ns.map V.int) us->∃ts:List (Int×Tok),us=ts.map (λz=>Value.int z.1 z.2)/\ts.map Prod.fst=ns
 |[],_,.nil=>⟨[],rfl,rfl⟩
 |n::ns,_,.cons ⟨t,e⟩ r=>by subst e;obtain⟨ts,rfl,rfl⟩:=oA r;exact⟨(n,t)::ts,rfl,rfl⟩
def E2(K:Nh):List V->Hp->VK->Prop:=λvs H Q=>∃(p:Addr)(ns:Nc),vs=[.ref p]/\SqL K H p (ns.map V.int)/\ns≠[]/\∀M,M∈ns->(∀a∈ns,a<=M)->Q (.int M) H
def oB(hc:X.calm=true):wq X (.builtin "max") (E2 X.K):=by
 intro pins s σ H xs us Q I r h;obtain⟨p,ns,rfl,hS,hne,q⟩:=h;obtain⟨u,rfl,ru⟩:=vals1 r;cases ru;obtain⟨its,rv,pl,_⟩:=I.list hS;obtain⟨ts,rfl,rfl⟩:=oA rv;have e:(ts.map (λz=>Value.int z.1 z.2)).toArray=intItems ts.toArray:=by unfold intItems;simp
 have hsz:0<ts.toArray.size:=by
  rw[O4];cases ts with
  |nil=>exact absurd rfl hne
  |cons a r=>simp
 refine max_intList (xs:=ts.toArray) (I.ok.hd hc) (by rw[<- e];exact pl.isList) hsz λv h' tk hv hk=>?_;obtain⟨t,rfl⟩:=intItems_at hv;obtain⟨h1,h2⟩:=argBest_gt (numAt ts.toArray) (ts.toArray.size-1);refine⟨.int _,H,I.kept (t':=tk) hk,⟨t,rfl⟩,q _ ?_ λa ha=>?_⟩
 .rw[numAt_eq];exact getD_mem (by rw[u8];rw[O4]at *;omega)
 .obtain⟨j,hj,rfl⟩:=mem_getD ha;rw[u8]at hj;have:=h2 j (by rw[O4];omega);rw[numAt_eq]at this;exact this
end
section
variable {P:MV}{w:M_}{K:MQ}{mg:Mz}{base:Heap}
end
section
variable {X:Cx}{k:Nat}{f:Addr}{fd:Na}{ps:MD}{sp:Sp}{x:Str}{p pos:Pos}{e:MR}{es:MK}{t:TA}
end
section
variable {X:Cx}{tg:MR}
end
section
variable {K:Nh}{H:Hp}{Q:VK}
end
section
variable {X:Cx}
end
section
variable {X:Cx}{C:Addr}{x:Str}{p pos:Pos}
end
def DW(P:MV)(w:M_)(K:Nh)(mg:Mz)(base:Heap)(A:Nb)(m:Str)(C:Addr)(sp:Sp):Prop:=
 ∃k f fd ps,Cls K C/\Meth K C m f/\y8 P w K mg base (CXe P w) k f fd ps sp/\qQ k A/\Binds K fd ps []
def AL(alts:Addr->Sp->Prop)(m:Str)(E:XK)(ta:TE)(t:TA):TE:=λσ H Q=>ta σ H λx H1=>∃a dx fs C sp,alts C sp/\x=.ref a/\H1 a=some (.ins C dx fs)/\fs.lookup m=none/\t σ H1 λvs H2=>sp (x::vs) H2 Q E
def uA(he:PE X o ta)(hal:∀C sp,alts C sp->DW X.prog X.w X.K X.mg X.base X.A m C sp)(hx:Passes (CXe X.prog X.w) X E)(ha:PA X (e::es) t)
  (hst:starEach (e::es) X.env=(false,eval e X.env)::starEach es X.env:=by rfl) (hpl:(backTo pos (starEach es X.env)).any (·.1)=false:=by rfl)
  (ht:eval (.Call (.Attribute o m jo) (e::es) [] pos) X.env=(do
   let ov<-eval o X.env
   standAt jo.atName
   let(f,first)<-holding [ov] (getMethod ov m pl)
   callWith pos f first (backTo pos (starEach (e::es) X.env)) (backToKw pos (keywordEach [] X.env))):=by rfl):
  PE X (.Call (.Attribute o m jo) (e::es) [] pos) (AL alts m E ta t):=by
 intro pins s σ H Q I h;refine a2w (pl:=pl) (thn (he pins s σ H _ I h) λu s1 ⟨x,H1,I1,rx,a,dx,fs,C,sp,hin,ex,ea,l,q⟩=>?_) ht;obtain⟨k,f,fd,ps,c,hm,F,hr,hb⟩:=hal C sp hin;subst ex;obtain rfl:u=Value.ref a:=rx;refine Ul I1 ea c hm l ?_;refine a02 (first:=[.ref a]) (h₀:=X.base) I.ok.mod.kin hm.kp (thn (ha pos pins s1 σ H1 _ I1 q) λus s2 ⟨vs,H2,I2,r,q2⟩=>⟨I2.kIn,?_⟩) hst hpl;exact nX (us:=.ref a::us) (vs:=.ref a::vs) (dvs:=[]) F hr hb .nil hx I2 (.cons rfl r) (by rwa [P4])
def oC(he:PE X o ta)(hal:∀C sp,alts C sp->DW X.prog X.w X.K X.mg X.base X.A m C sp)(hx:Passes (CXe X.prog X.w) X E)
  (ht:eval (.Call (.Attribute o m jo) [] [] pos) X.env=(do
   let ov<-eval o X.env
   standAt jo.atName
   let(f,first)<-holding [ov] (getMethod ov m pl)
   callWith pos f first (backTo pos (starEach [] X.env)) (backToKw pos (keywordEach [] X.env))):=by rfl):
  PE X (.Call (.Attribute o m jo) [] [] pos) (AL alts m E ta DV):=by
 intro pins s σ H Q I h;refine a2w (pl:=pl) (thn (he pins s σ H _ I h) λu s1 ⟨x,H1,I1,rx,a,dx,fs,C,sp,hin,ex,ea,l,q⟩=>?_) ht;obtain⟨k,f,fd,ps,c,hm,F,hr,hb⟩:=hal C sp hin;subst ex;obtain rfl:u=Value.ref a:=rx;refine Ul I1 ea c hm l ?_;exact PySem.W.callWith_K0 (first:=[.ref a]) I1.kIn hm.kp (nX (us:=[.ref a]) (vs:=[.ref a]) (dvs:=[]) F hr hb .nil hx I1 (.cons rfl .nil) q)
def gO{A:Nb}{xs ys:ML}{us ws:MJ}{e:Nat->Bool}(r1:Vals xs us)(r2:Vals ys ws)(he:∀j x y u v,xs[j]?=some x->ys[j]?=some y->RelV x u->RelV y v->SeqAt.EqAt A s u v (e j)):
  ∀j (h1:j<us.toArray.size) (h2:j<ws.toArray.size),SeqAt.EqAt A s us.toArray[j] ws.toArray[j] (e j):=by
 intro j h1 h2;rw[O4]at h1 h2;have l1:j<xs.length:=by rw[r1.length];exact h1
 have l2:j<ys.length:=by rw[r2.length];exact h2
 have e1:xs[j]?=some xs[j]:=N6 l1;have e2:ys[j]?=some ys[j]:=N6 l2;obtain⟨u,hu,ru⟩:=r1.get e1;obtain⟨w,hw,rw'⟩:=r2.get e2;have eu:us.toArray[j]=u:=by have:=N6 h1;rw[hu]at this;simpa using(T1 this).symm
 have ew:ws.toArray[j]=w:=by have:=N6 h2;rw[hw]at this;simpa using(T1 this).symm
 rw[eu,ew];exact he j _ _ _ _ e1 e2 ru rw'
section
variable {X:Cx}
end
section
variable {H:Hp}{Q:VK}{i j:Int}
end
def zl.none(s:zl H H')(h:H' q=Option.none):H q=Option.none:=by
 cases e:H q with
 |none=>rfl
 |some o=>rw[s _ _ e]at h;cases h
inductive PV where
 |i (n:Int)|s (x:Str)|b (c:Bool)|n
 |l (xs:List PV)|t (xs:List PV)|d (kvs:List (Key×PV))|o (c:Nat) (fs:List (Str×PV))|x (c:Nat) (fs:List (Str×PV))|sc (ns:Nc)|dt (kvs:Nw)
abbrev MX:=List PV
abbrev MY:=(List (Key×PV))
abbrev MZ:=(List (Str×PV))
abbrev Ny:=Option PV
abbrev NC:=(PV->PV->Option Bool)
abbrev NF:=List (Option PV)
def dtV(kvs:Nw):List (List Key×V):=kvs.map λq=>(q.1,V.int q.2)
inductive Out(α:Type)where
 |ok (a:α)|exc (c:Nat) (fs:MZ)|wall
abbrev MU:=(List PV->Out PV)
def Out.bind{α β:Type}:Out α->(α->Out β)->Out β
 |.ok a,f=>f a
 |.exc c fs,_=>.exc c fs
 |.wall,_=>.wall
structure RC where
 K:Frag
 cls:Nat->Addr
def KL(K:Nh)(a:Addr)(xs:ML):Prop:=∃(o:Obj)(its:Nn)(n:Nat),K.lookup a=some o/\o.cls=.type "list"/\o.dict=none/\o.data=.seq its n/\its.size<=sizeLine/\Vals xs its.toList
def eU(K:Nh)(N:MF)(H:Hp)(p:Addr)(vs:ML):Prop:=(N p/\Rd H p (.lst vs))\/KL K p vs
def eU.sq{K:Nh}{N:MF}{H:Hp}{p:Addr}{vs:ML}(h:eU K N H p vs):SqL K H p vs:=h.elim (λz=>.inl z.2) .inr
mutual
def Rep(W:RC)(M:MF)(H:Hp):PV->V->Prop
 |.i n,v=>v=.int n
 |.s x,v=>v=.str x
 |.b c,v=>v=.bl c
 |.n,v=>v=.non
 |.l xs,v=>∃p vs,v=.ref p/\M p/\H p=some (.lst vs)/\zI W M H xs vs
 |.t xs,v=>∃p vs,v=.ref p/\SqT W.K H p vs/\zI W M H xs vs
 |.d kvs,v=>∃p es,v=.ref p/\M p/\Rd H p (.dK es)/\qy W M H kvs es
 |.sc ns,v=>∃p,v=.ref p/\eU W.K M H p (ns.map V.int)
 |.dt kvs,v=>∃p,v=.ref p/\M p/\Rd H p (.dT (dtV kvs))
 |.o c fs,v=>∃p dx es,v=.ref p/\M p/\H p=some (.ins (W.cls c) dx es)/\jq W M H fs es
 |.x c fs,v=>∃p dx es,v=.ref p/\H p=some (XC p (W.cls c) dx)/\H dx=some (XD dx es)/\jq W M H fs es
def zI(W:RC)(M:MF)(H:Hp):List PV->List V->Prop
 |[],vs=>vs=[]
 |x::xs,vs=>∃v r,vs=v::r/\Rep W M H x v/\zI W M H xs r
def qy(W:RC)(M:MF)(H:Hp):List (Key×PV)->List (Key×V)->Prop
 |[],es=>es=[]
 |kx::r,es=>∃v q,es=(kx.1,v)::q/\Rep W M H kx.2 v/\qy W M H r q
def jq(W:RC)(M:MF)(H:Hp):List (Str×PV)->List (Str×V)->Prop
 |[],es=>es=[]
 |kx::r,es=>∃v q,es=(kx.1,v)::q/\Rep W M H kx.2 v/\jq W M H r q
end
def Imm:HO->Prop
 |.lst _=>False | .dK _=>False | .dT _=>False | .set _ _=>False | .ins _ _ _=>False | .tbl _=>False
 |_=>True
def Fr(M:MF)(H H':Hp):Prop:=∀a o,H a=some o->(M a\/Imm o)->H' a=some o
def Fr.rd(f:Fr M H H')(h:Rd H p u)(m:M p):Rd H' p u:=
 h.elim (λz=>.inl (f _ _ z (.inl m))) λ⟨o,z⟩=>.inr ⟨o,f _ _ z (.inl m)⟩
def Fr.sqT{M:MF}{K:Nh}{H H':Hp}(f:Fr M H H'){p:Addr}{u:ML}(h:SqT K H p u):SqT K H' p u:=
 h.elim (λh=>.inl (h.elim (λz=>.inl (f _ _ z (.inr trivial))) λ⟨o,z⟩=>.inr ⟨o,f _ _ z (.inr trivial)⟩)) .inr
def eU.frame{K:Nh}{N:MF}{H H':Hp}(f:Fr N H H'){p:Addr}{vs:ML}(h:eU K N H p vs):eU K N H' p vs:=h.elim (λz=>.inl ⟨z.1,f.rd z.2 z.1⟩) .inr
def qR(h:Rd H p u):H p≠none:=by rcases h with z|⟨_,z⟩<;>rw[z]<;>intro e<;>cases e
section
variable {W:RC}{M M':MF}{H H':Hp}
mutual
def Rep.gen(f:Fr M H H')(s:∀a,M a->H a≠none->M' a):∀{x:PV}{v:V},Rep W M H x v->Rep W M' H' x v
 |.i n,v,h=>h
 |.s x,v,h=>h
 |.b c,v,h=>h
 |.n,v,h=>h
 |.l xs,v,h=>by unfold Rep at h ⊢;obtain⟨p,vs,e,m,r,q⟩:=h;exact⟨p,vs,e,s p m (by rw[r];intro e;cases e),f _ _ r (.inl m),zI.gen f s q⟩
 |.sc ns,v,h=>by unfold Rep at h ⊢;obtain⟨p,e,r⟩:=h;exact⟨p,e,r.elim (λz=>.inl ⟨s p z.1 (by rcases z.2 with z|⟨_,z⟩<;>rw[z]<;>intro e<;>cases e),f.rd z.2 z.1⟩) .inr⟩
 |.dt kvs,v,h=>by unfold Rep at h ⊢;obtain⟨p,e,m,r⟩:=h;exact⟨p,e,s p m (qR r),f.rd r m⟩
 |.t xs,v,h=>by unfold Rep at h ⊢;obtain⟨p,vs,e,r,q⟩:=h;exact⟨p,vs,e,f.sqT r,zI.gen f s q⟩
 |.d kvs,v,h=>by unfold Rep at h ⊢;obtain⟨p,vs,e,m,r,q⟩:=h;exact⟨p,vs,e,s p m (qR r),f.rd r m,qy.gen f s q⟩
 |.o c fs,v,h=>by unfold Rep at h ⊢;obtain⟨p,dx,es,e,m,r,q⟩:=h;exact⟨p,dx,es,e,s p m (by rw[r];intro e;cases e),f _ _ r (.inl m),jq.gen f s q⟩
 |.x c fs,v,h=>by unfold Rep at h ⊢;obtain⟨p,dx,es,e,r,r2,q⟩:=h;exact⟨p,dx,es,e,f _ _ r (.inr trivial),f _ _ r2 (.inr trivial),jq.gen f s q⟩
def zI.gen(f:Fr M H H')(s:∀a,M a->H a≠none->M' a):∀{x:MX}{v:ML},zI W M H x v->zI W M' H' x v
 |[],v,h=>h
 |x::xs,vs,h=>by unfold zI at h ⊢;obtain⟨v,r,e,h1,h2⟩:=h;exact⟨v,r,e,Rep.gen f s h1,zI.gen f s h2⟩
def qy.gen(f:Fr M H H')(s:∀a,M a->H a≠none->M' a):∀{x:MY}{v:MM},qy W M H x v->qy W M' H' x v
 |[],v,h=>h
 | (k,x)::xs,vs,h=>by unfold qy at h ⊢;obtain⟨v,r,e,h1,h2⟩:=h;exact⟨v,r,e,Rep.gen f s h1,qy.gen f s h2⟩
def jq.gen(f:Fr M H H')(s:∀a,M a->H a≠none->M' a):∀{x:MZ}{v:Nd},jq W M H x v->jq W M' H' x v
 |[],v,h=>h
 | (k,x)::xs,vs,h=>by unfold jq at h ⊢;obtain⟨v,r,e,h1,h2⟩:=h;exact⟨v,r,e,Rep.gen f s h1,jq.gen f s h2⟩
end
end
def Fr.refl:Fr M H H:=λ_ _ h _=>h
def zl.fr(s:zl H H'):Fr M H H':=λa o h _=>s a o h
def Rep.same(h:Rep W M H x v)(s:zl H H'):Rep W M H' x v:=Rep.gen s.fr (λ_ m _=>m) h
def zI.same(h:zI W M H x v)(s:zl H H'):zI W M H' x v:=zI.gen s.fr (λ_ m _=>m) h
def qy.same(h:qy W M H x v)(s:zl H H'):qy W M H' x v:=qy.gen s.fr (λ_ m _=>m) h
def Rep.sub(h:Rep W M H x v)(s:∀a,M a->H a≠none->M' a):Rep W M' H x v:=Rep.gen Fr.refl s h
def zI.sub(h:zI W M H x v)(s:∀a,M a->H a≠none->M' a):zI W M' H x v:=zI.gen Fr.refl s h
def qy.sub(h:qy W M H x v)(s:∀a,M a->H a≠none->M' a):qy W M' H x v:=qy.gen Fr.refl s h
def jq.sub(h:jq W M H x v)(s:∀a,M a->H a≠none->M' a):jq W M' H x v:=jq.gen Fr.refl s h
def yG(W:RC)(N M:MF)(H:Hp):PV->V->Prop
 |.l xs,v=>∃p vs,v=.ref p/\N p/\H p=some (.lst vs)/\zI W M H xs vs
 |.d kvs,v=>∃p es,v=.ref p/\N p/\Rd H p (.dK es)/\qy W M H kvs es
 |.sc ns,v=>∃p,v=.ref p/\eU W.K N H p (ns.map V.int)
 |.dt kvs,v=>∃p,v=.ref p/\N p/\Rd H p (.dT (dtV kvs))
 |.o c fs,v=>∃p dx es,v=.ref p/\N p/\H p=some (.ins (W.cls c) dx es)/\jq W M H fs es
 |x,v=>Rep W M H x v
def yG.iff:yG W M M H x v↔Rep W M H x v:=by cases x<;>simp only[yG,Rep]
def yG.gen{W:RC}{N M N' M':MF}{H H':Hp}{x:PV}{v:V}(fN:Fr N H H')(f:Fr M H H')(sN:∀a,N a->H a≠none->N' a)(s:∀a,M a->H a≠none->M' a)(h:yG W N M H x v):yG W N' M' H' x v:=by
 cases x with
 |l xs=>obtain⟨p,vs,e,m,r,q⟩:=h;exact⟨p,vs,e,sN p m (by rw[r];intro e;cases e),fN _ _ r (.inl m),q.gen f s⟩
 |d kvs=>obtain⟨p,es,e,m,r,q⟩:=h;exact⟨p,es,e,sN p m (qR r),fN.rd r m,q.gen f s⟩
 |sc ns=>obtain⟨p,e,r⟩:=h;exact⟨p,e,r.elim (λz=>.inl ⟨sN p z.1 (qR z.2),fN.rd z.2 z.1⟩) .inr⟩
 |dt kvs=>obtain⟨p,e,m,r⟩:=h;exact⟨p,e,sN p m (qR r),fN.rd r m⟩
 |o c fs=>obtain⟨p,dx,es,e,m,r,q⟩:=h;exact⟨p,dx,es,e,sN p m (by rw[r];intro e;cases e),fN _ _ r (.inl m),q.gen f s⟩
 |i n=>exact Rep.gen f s h
 |s n=>exact Rep.gen f s h
 |b n=>exact Rep.gen f s h
 |n=>exact Rep.gen f s h
 |t n=>exact Rep.gen f s h
 |x c n=>exact Rep.gen f s h
def yG.same(h:yG W N M H x v)(s:zl H H'):yG W N M H' x v:=yG.gen s.fr s.fr (λ_ m _=>m) (λ_ m _=>m) h
def yG.sub(h:yG W N M H x v)(sN:∀a,N a->H a≠none->N' a)(s:∀a,M a->H a≠none->M' a):yG W N' M' H x v:=yG.gen Fr.refl Fr.refl sN s h
def Rep.weak(h:Rep W M H x v):yG W (λ_=>True) M H x v:=yG.sub (yG.iff.mpr h) (λ_ _ _=>trivial) (λ_ m _=>m)
def ae(W:RC)(M:MF)(H:Hp)(p:Addr):PV->Prop
 |.l xs=>∃vs,H p=some (.lst vs)/\zI W M H xs vs
 |.d kvs=>∃es,H p=some (.dK es)/\qy W M H kvs es
 |.dt kvs=>H p=some (.dT (dtV kvs))
 |.o c fs=>∃dx es,H p=some (.ins (W.cls c) dx es)/\jq W M H fs es
 |_=>False
def ae.GX(h:ae W M H p x)(n:N p):yG W N M H x (.ref p):=by
 cases x with
 |l xs=>obtain⟨vs,e,q⟩:=h;exact⟨p,vs,rfl,n,e,q⟩
 |d kvs=>obtain⟨es,e,q⟩:=h;exact⟨p,es,rfl,n,.inl e,q⟩
 |dt kvs=>exact⟨p,rfl,n,.inl h⟩
 |o c fs=>obtain⟨dx,es,e,q⟩:=h;exact⟨p,dx,es,rfl,n,e,q⟩
 |i n=>exact h.elim
 |s n=>exact h.elim
 |b n=>exact h.elim
 |n=>exact h.elim
 |t n=>exact h.elim
 |x c n=>exact h.elim
 |sc n=>exact h.elim
def ae.gen(h:ae W M H p x)(hp:H' p=H p)(f:Fr M H H')(s:∀a,M a->H a≠none->M' a):ae W M' H' p x:=by
 cases x with
 |l xs=>obtain⟨vs,e,q⟩:=h;exact⟨vs,hp.trans e,q.gen f s⟩
 |d kvs=>obtain⟨es,e,q⟩:=h;exact⟨es,hp.trans e,q.gen f s⟩
 |dt kvs=>exact hp.trans h
 |o c fs=>obtain⟨dx,es,e,q⟩:=h;exact⟨dx,es,hp.trans e,q.gen f s⟩
 |i n=>exact h.elim
 |s n=>exact h.elim
 |b n=>exact h.elim
 |n=>exact h.elim
 |t n=>exact h.elim
 |x c n=>exact h.elim
 |sc n=>exact h.elim
def ae.some{W:RC}{M:MF}{H:Hp}{p:Addr}{x:PV}(h:ae W M H p x):∃o,H p=some o/\¬Imm o:=by
 cases x with
 |l xs=>obtain⟨vs,e,q⟩:=h;exact⟨_,e,id⟩
 |d kvs=>obtain⟨es,e,q⟩:=h;exact⟨_,e,id⟩
 |dt kvs=>exact⟨_,h,id⟩
 |o c fs=>obtain⟨dx,es,e,q⟩:=h;exact⟨_,e,id⟩
 |i n=>exact h.elim
 |s n=>exact h.elim
 |b n=>exact h.elim
 |n=>exact h.elim
 |t n=>exact h.elim
 |x c n=>exact h.elim
 |sc n=>exact h.elim
def ae.same(h:ae W M H p x)(s:zl H H'):ae W M H' p x:=by obtain⟨o,e,_⟩:=h.some;exact h.gen ((s _ _ e).trans e.symm) s.fr λ_ m _=>m
structure Bs where
 H0:Hp
 M0:Addr->Prop
 N0:Addr->Prop
 nz:∀a,N0 a->H0 a≠none
 pin:Option Addr
 xc:Addr->Prop
structure LC where
 W:RC
 E:XK
 fr:Bool
abbrev Sto:=List (Option PV)
def Bs.Mt(B:Bs):Addr->Prop:=λa=>B.M0 a\/B.H0 a=none
def Mof(B:Bs)(S:MB)(P:MN):Addr->Prop:=λa=>(B.Mt a/\¬B.xc a)/\∀i,S[i]?=some 2->P i≠a
structure Rel(W:RC)(B:Bs)(S:MB)(P:MN)(H:Hp)(σ:St)(ρ:Sto):Prop where
 same:zl B.H0 H
 len:σ.length=ρ.length
 var:∀(i:Nat) x,ρ[i]?=some (some x)->∃v,σ[i]?=some (some v)/\(S[i]?=some 2->v=.ref (P i)/\ae W (Mof B S P) H (P i) x)/\(S[i]?=some 1->yG W B.N0 (Mof B S P) H x v)/\(S[i]?≠some 2->S[i]?≠some 1->Rep W (Mof B S P) H x v)
 act:∀i,S[i]?=some 2->B.H0 (P i)=none/\∃o,H (P i)=some o/\¬Imm o
 inj:∀i j,S[i]?=some 2->S[j]?=some 2->P i=P j->i=j
 pin:S[0]?=some 2->∀p,B.pin=some p->P 0=p
 exc:∀a,B.xc a->∃o,H a=some o/\¬Imm o/\B.H0 a=none
 axc:∀i,S[i]?=some 2->¬B.xc (P i)
def Rel.keep{W:RC}{B:Bs}{S:MB}{P:MN}{H H':Hp}{σ:St}{ρ:Sto}(R:Rel W B S P H σ ρ)(s:zl H H'):Rel W B S P H' σ ρ where
 same:=R.same.trans s
 len:=R.len
 var:=λi x e=>by obtain⟨v,h1,h2,h3,h4⟩:=R.var i x e;exact⟨v,h1,λz=>⟨(h2 z).1,(h2 z).2.same s⟩,λz=>(h3 z).same s,λz z'=>(h4 z z').same s⟩
 act:=λi h=>⟨(R.act i h).1,let⟨o,e,n⟩:=(R.act i h).2;⟨o,s _ _ e,n⟩⟩
 inj:=R.inj
 pin:=R.pin
 exc:=λa h=>let⟨o,e,n⟩:=R.exc a h;⟨o,s _ _ e,n⟩
 axc:=R.axc
def Rel.wr(R:Rel W B S P H σ ρ)(hi:S[i]?=some 2)(hl:i<ρ.length)(hσ:σ[i]?=some (some (.ref (P i))))(hn:¬Imm o)(hx:ae W (Mof B S P) (upd H (P i) o) (P i) x'):Rel W B S P (upd H (P i) o) σ (ρ.set i (some x')):=by
 obtain⟨h0,o0,e0,n0⟩:=R.act i hi;have fM:Fr (Mof B S P) H (upd H (P i) o):=λa q e m=>by
  have:a≠P i:=λz=>by
   rcases m with m|m
   .exact m.2 i hi z.symm
   .rw[z,e0]at e;cases e;exact n0 m
  rw[zg this];exact e
 have fN:Fr B.N0 H (upd H (P i) o):=λa q e m=>by
  have:a≠P i:=λz=>by
   rcases m with m|m
   .exact B.nz a m (z▸h0)
   .rw[z,e0]at e;cases e;exact n0 m
  rw[zg this];exact e
 refine⟨λa q e=>?_,by rw[P1];exact R.len,λj x e=>?_,λj hj=>?_,R.inj,R.pin,λa h=>?_,R.axc⟩
 .have:a≠P i:=λz=>by rw[z,h0]at e;cases e
  rw[zg this];exact R.same a q e
 .by_cases hij:i=j
  .subst hij;rw[P5 hl]at e;cases e;exact⟨_,hσ,λ_=>⟨rfl,hx⟩,(λz=>by rw[hi]at z;cases z),λz=>absurd hi z⟩
  .rw[P0 hij]at e;obtain⟨v,h1,h2,h3,h4⟩:=R.var j x e;refine⟨v,h1,λz=>⟨(h2 z).1,?_⟩,λz=>yG.gen fN fM (λ_ m _=>m) (λ_ m _=>m) (h3 z),λz z'=>Rep.gen fM (λ_ m _=>m) (h4 z z')⟩;have:P j≠P i:=λq=>hij (R.inj i j hi z q.symm);exact(h2 z).2.gen (zg this) fM λ_ m _=>m
 .by_cases hij:j=i
  .subst hij;exact⟨h0,o,zd,hn⟩
  .obtain⟨g0,o1,e1,n1⟩:=R.act j hj;have:P j≠P i:=λq=>hij (R.inj j i hj hi q);exact⟨g0,o1,by rw[zg this];exact e1,n1⟩
 .obtain⟨o1,e1,n1⟩:=R.exc a h;by_cases e:a=P i
  .subst e;exact⟨o,zd,hn,n1.2⟩
  .exact⟨o1,by rw[zg e];exact e1,n1⟩
def yL{S:MB}{i j c:Nat}(h:(S.set i 0)[j]?=some 2):S[j]?=some 2/\j≠i:=by
 by_cases e:i=j
 .subst e;rw[List.getElem?_set]at h;rw[if_pos rfl]at h;split at h<;>cases h
 .rw[P0 e]at h;exact⟨h,λz=>e z.symm⟩
def Rel.set(R:Rel W B S P H σ ρ)(hx:Rep W (Mof B S P) H x v):Rel W B (S.set i 0) P H (σ.set i (some v)) (ρ.set i (some x)):=by
 have sM:∀a,Mof B S P a->H a≠none->Mof B (S.set i 0) P a:=λa m _=>⟨m.1,λj hj=>m.2 j (yL (c:=0) hj).1⟩;refine⟨R.same,by rw[P1,P1];exact R.len,λj y e=>?_,λj hj=>R.act j (yL (c:=0) hj).1,λj k hj hk=>R.inj j k (yL (c:=0) hj).1 (yL (c:=0) hk).1,λh0=>R.pin (yL (c:=0) h0).1,R.exc,λj hj=>R.axc j (yL (c:=0) hj).1⟩;by_cases hij:i=j
 .subst hij;have hl:i<ρ.length:=by
   have:=(N7.mp e).1
   rwa [P1]at this
  rw[P5 hl]at e;cases e;refine⟨v,by rw[P5 (by rw[R.len];exact hl)],λz=>absurd rfl (yL (c:=0) z).2,λz=>?_,λ_ _=>hx.sub sM⟩;rw[List.getElem?_set,if_pos rfl]at z;split at z<;>cases z
 .rw[P0 hij]at e;obtain⟨w,h1,h2,h3,h4⟩:=R.var j y e;rw[P0 hij,P0 hij];exact⟨w,h1,λz=>⟨(h2 z).1,(h2 z).2.gen rfl Fr.refl sM⟩,λz=>(h3 z).sub (λ_ m _=>m) sM,λz z'=>(h4 z z').sub sM⟩
def Rel.Me(R:Rel W B S P H σ ρ)(s:zl H H')(hp:H p=none)(hi:i<S.length)(hi0:i≠0)(hx:ae W (λa=>Mof B S P a/\a≠p) H' p x):Rel W B (S.set i 2) (λj=>if j=i then p else P j) H' (σ.set i (some (.ref p))) (ρ.set i (some x)):=by
 have s0:B.H0 p=none:=zl.none R.same hp;have hS:∀{j},(S.set i 2)[j]?=some 2->j≠i->S[j]?=some 2:=λ{j} h n=>by rwa [P0 (λz=>n z.symm)]at h
 have sM:∀a,Mof B S P a->a≠p->Mof B (S.set i 2) (λj=>if j=i then p else P j) a:=λa m hn=>⟨m.1,λj hj=>by
  by_cases e:j=i
  .simp only[e,if_true];exact λz=>hn z.symm
  .simp only[e,if_false];exact m.2 j (hS hj e)⟩
 have sMH:∀a,Mof B S P a->H a≠none->Mof B (S.set i 2) (λj=>if j=i then p else P j) a:=λa m hn=>sM a m λz=>hn (z▸hp);have pj:∀{j},S[j]?=some 2->P j≠p:=λ{j} hj z=>by obtain⟨_,o,e,_⟩:=R.act j hj;rw[z,hp]at e;cases e
 refine⟨R.same.trans s,by rw[P1,P1];exact R.len,λj y e=>?_,λj hj=>?_,λj k hj hk e=>?_,λh0 q hq=>?_,λa h=>let⟨o,e,n⟩:=R.exc a h;⟨o,s _ _ e,n⟩,λj hj=>?_⟩
 .by_cases hij:i=j
  .subst hij;have hl:i<ρ.length:=by
    have:=(N7.mp e).1
    rwa [P1]at this
   rw[P5 hl]at e;cases e;rw[P5 (by rw[R.len];exact hl),P5 hi];refine⟨.ref p,rfl,λ_=>⟨by simp,?_⟩,(λz=>by cases z),λz=>absurd rfl z⟩;simp only[if_true];exact hx.gen rfl Fr.refl λa m _=>sM a m.1 m.2
  .rw[P0 hij]at e;obtain⟨w,h1,h2,h3,h4⟩:=R.var j y e;rw[P0 hij,P0 hij];have nij:¬j=i:=λz=>hij z.symm;simp only[nij,if_false];exact⟨w,h1,λz=>⟨(h2 z).1,((h2 z).2.gen (H':=H) rfl Fr.refl sMH).same s⟩,λz=>((h3 z).sub (λ_ m _=>m) sMH).same s,λz z'=>((h4 z z').sub sMH).same s⟩
 .by_cases hij:j=i
  .subst hij;simp only[if_true];exact⟨s0,hx.some⟩
  .simp only[hij,if_false];obtain⟨g0,o,e,n⟩:=R.act j (hS hj hij);exact⟨g0,o,s _ _ e,n⟩
 .by_cases h1:j=i
  .by_cases h2:k=i
   .rw[h1,h2]
   .simp only[h1,h2,if_true,if_false]at e;exact absurd e.symm (pj (hS hk h2))
  .by_cases h2:k=i
   .simp only[h1,h2,if_true,if_false]at e;exact absurd e (pj (hS hj h1))
   .simp only[h1,h2,if_false]at e;exact R.inj j k (hS hj h1) (hS hk h2) e
 .rw[P0 hi0]at h0;rw[if_neg (λz=>hi0 z.symm)];exact R.pin h0 q hq
 .by_cases e:j=i
  .rw[if_pos e];exact λz=>by obtain⟨o,q,_⟩:=R.exc p z;rw[hp]at q;cases q
  .rw[if_neg e];exact R.axc j (hS hj e)
def Rel.freeze(R:Rel W B S P H σ ρ)(hi:S[i]?=some 2):Rel W B (S.set i 0) P H σ ρ:=by
 have sM:∀a,Mof B S P a->H a≠none->Mof B (S.set i 0) P a:=λa m _=>⟨m.1,λj hj=>m.2 j (yL (c:=0) hj).1⟩;refine⟨R.same,R.len,λj y e=>?_,λj hj=>R.act j (yL (c:=0) hj).1,λj k hj hk=>R.inj j k (yL (c:=0) hj).1 (yL (c:=0) hk).1,λh0=>R.pin (yL (c:=0) h0).1,R.exc,λj hj=>R.axc j (yL (c:=0) hj).1⟩;obtain⟨w,h1,h2,h3,h4⟩:=R.var j y e;by_cases hij:i=j
 .subst hij;obtain⟨rfl,ha⟩:=h2 hi;have hl:i<S.length:=(N7.mp hi).1;rw[P5 hl];refine⟨_,h1,(λz=>by cases z),(λz=>by cases z),λ_ _=>yG.iff.mp ((ha.gen (H':=H) rfl Fr.refl sM).GX ⟨⟨.inr (R.act i hi).1,λz=>?_⟩,λj hj e=>?_⟩)⟩
  .exact R.axc i hi z
  obtain⟨g1,g2⟩:=yL (c:=0) hj;exact g2 (R.inj j i g1 hi e)
 .rw[P0 hij];exact⟨w,h1,λz=>⟨(h2 z).1,(h2 z).2.gen rfl Fr.refl sM⟩,λz=>(h3 z).sub (λ_ m _=>m) sM,λz z'=>(h4 z z').sub sM⟩
def Rel.wrx(R:Rel W B S P H σ ρ)(ha:B.xc a)(hn:¬Imm o):Rel W B S P (upd H a o) σ ρ:=by
 obtain⟨o0,e0,n0,h0⟩:=R.exc a ha;have fM:Fr (Mof B S P) H (upd H a o):=λc q e m=>by
  have:c≠a:=λz=>by
   rcases m with m|m
   .exact m.1.2 (z▸ha)
   .rw[z,e0]at e;cases e;exact n0 m
  rw[zg this];exact e
 have fN:Fr B.N0 H (upd H a o):=λc q e m=>by
  have:c≠a:=λz=>by
   rcases m with m|m
   .exact B.nz c m (z▸h0)
   .rw[z,e0]at e;cases e;exact n0 m
  rw[zg this];exact e
 have pa:∀{i},S[i]?=some 2->P i≠a:=λ{i} hi z=>R.axc i hi (z▸ha);refine⟨λc q e=>?_,R.len,λj x e=>?_,λj hj=>?_,R.inj,R.pin,λc h=>?_,R.axc⟩
 .have:c≠a:=λz=>by rw[z,h0]at e;cases e
  rw[zg this];exact R.same c q e
 .obtain⟨v,h1,h2,h3,h4⟩:=R.var j x e;exact⟨v,h1,λz=>⟨(h2 z).1,(h2 z).2.gen (zg (pa z)) fM λ_ m _=>m⟩,λz=>yG.gen fN fM (λ_ m _=>m) (λ_ m _=>m) (h3 z),λz z'=>Rep.gen fM (λ_ m _=>m) (h4 z z')⟩
 .obtain⟨g0,o1,e1,n1⟩:=R.act j hj;exact⟨g0,o1,by rw[zg (pa hj)];exact e1,n1⟩
 .by_cases e:c=a
  .subst e;exact⟨o,zd,hn,h0⟩
  .obtain⟨o1,e1,n1⟩:=R.exc c h;exact⟨o1,by rw[zg e];exact e1,n1⟩
abbrev ME:=Sto->Out PV
abbrev MT:=Sto->Out Bool
abbrev MA:=Sto->Out (List PV)
inductive Fw where
 |nx (ρ:Sto)|rt (x:PV)|bk (ρ:Sto)|ct (ρ:Sto)
abbrev MS:=Sto->Out Fw
def XPo(C:LC)(B:Bs)(c:Nat)(fs:MZ):Prop:=∀e dx es H2,zl B.H0 H2->H2 e=some (XC e (C.W.cls c) dx)->H2 dx=some (XD dx es)->jq C.W B.Mt H2 fs es->C.E (.ref e) (some dx) H2
def zJ(C:LC)(B:Bs)(H:Hp)(R:Hp->PV->V->Prop)(Q:VK):Out PV->Prop
 |.ok r=>∀v H2,zl H H2->R H2 r v->Q v H2
 |.exc c fs=>XPo C B c fs
 |.wall=>False
def cA(C:LC)(B:Bs)(H:Hp)(Q:Bool->Hp->Prop):Out Bool->Prop
 |.ok r=>∀H2,zl H H2->Q r H2
 |.exc c fs=>XPo C B c fs
 |.wall=>False
def RV(C:LC)(B:Bs)(S:MB)(P:MN)(w:Bool)(H:Hp)(x:PV)(v:V):Prop:=yG C.W (if w=true then λ_=>True else Mof B S P) (Mof B S P) H x v
def RV.rep(h:RV C B S P false H x v):Rep C.W (Mof B S P) H x v:=yG.iff.mp h
def RV.of(h:Rep C.W (Mof B S P) H x v):RV C B S P false H x v:=yG.iff.mpr h
def RV.weak(h:RV C B S P w H x v):yG C.W (λ_=>True) (Mof B S P) H x v:=yG.sub h (λ_ _ _=>trivial) λ_ m _=>m
def RV.same(h:RV C B S P w H x v)(s:zl H H'):RV C B S P w H' x v:=yG.same h s
def LE(C:LC)(S:MB)(w:Bool)(te:TE)(m:ME):Prop:=∀B P H σ ρ,Rel C.W B S P H σ ρ->∀Q,zJ C B H (RV C B S P w) Q (m ρ)->te σ H Q
def LT(C:LC)(S:MB)(tt:TT)(m:MT):Prop:=∀B P H σ ρ,Rel C.W B S P H σ ρ->∀Q,cA C B H Q (m ρ)->tt σ H Q
def EM(X:Cx)(C:LC)(S:MB)(w:Bool)(e:MR)(m:ME):Prop:=X.K=C.W.K->∃te,PE X e te/\LE C S w te m
def TM(X:Cx)(C:LC)(S:MB)(e:MR)(m:MT):Prop:=X.K=C.W.K->∃tt,PT X e tt/\LT C S tt m
def TWM(X:Cx)(C:LC)(S:MB)(e:MR)(m:MT):Prop:=X.K=C.W.K->∃tt,PW X e tt/\LT C S tt m
def zJ.bind(h:zJ C B H R Q (o.bind f))(k:∀r,o=.ok r->∀v H2,zl H H2->R0 H2 r v->zJ C B H2 R Q (f r)->Q' v H2)(hR:∀H2,zl H H2->∀x v,R H2 x v->R H2 x v):zJ C B H R0 Q' o:=by
 cases o with
 |ok r=>exact λv H2 s hr=>k r rfl v H2 s hr (by
   show zJ C B H2 R Q (f r);have h:zJ C B H R Q (f r):=h;revert h;cases f r with
   |ok x=>exact λh v H3 s3 hx=>h v H3 (s.trans s3) hx
   |exc c fs=>exact id
   |wall=>exact id)
 |exc c fs=>exact h
 |wall=>exact h
def zV(h:zJ C B H R Q (o.bind f))(k:∀r v H2,zl H H2->R0 H2 r v->zJ C B H2 R Q (f r)->Q' v H2):zJ C B H R0 Q' o:=
 zJ.bind h (λr _ v H2 s hr hp=>k r v H2 s hr hp) λ_ _ _ _ h=>h
def wt(h:zJ C B H R Q o)(s:zl H H2):zJ C B H2 R Q o:=by
 cases o with
 |ok x=>exact λv H3 s3 hx=>h v H3 (s.trans s3) hx
 |exc c fs=>exact h
 |wall=>exact h
def V8(h:cA C B H Q o)(s:zl H H2):cA C B H2 Q o:=by
 cases o with
 |ok x=>exact λH3 s3=>h H3 (s.trans s3)
 |exc c fs=>exact h
 |wall=>exact h
def mf(h:cA C B H Q (o.bind f))(k:∀r v H2,zl H H2->R0 H2 r v->cA C B H2 Q (f r)->Q' v H2):zJ C B H R0 Q' o:=by
 cases o with
 |ok r=>exact λv H2 s hr=>k r v H2 s hr (V8 (o:=f r) h s)
 |exc c fs=>exact h
 |wall=>exact h
def QK(h:cA C B H Q (o.bind f))(k:∀r H2,zl H H2->cA C B H2 Q (f r)->Q' r H2):cA C B H Q' o:=by
 cases o with
 |ok r=>exact λH2 s=>k r H2 s (V8 (o:=f r) h s)
 |exc c fs=>exact h
 |wall=>exact h
def zc(i:Nat):ME:=λρ=>match ρ[i]? with|some (some x)=>.ok x|_=>.wall
def mC(x:PV):ME:=λ_=>.ok x
section
variable {X:Cx}{C:LC}{S:MB}{e a b:MR}{w w1 w2:Bool}{m m1 m2:ME}{t1 t2:MT}
def EM.weak(h:EM X C S w e m):EM X C S true e m:=λhK=>by
 obtain⟨te,h1,h2⟩:=h hK;refine⟨te,h1,λB P H σ ρ R Q q=>h2 B P H σ ρ R Q ?_⟩;revert q;cases m ρ with
 |ok r=>exact λq v H2 s hr=>q v H2 s (by unfold RV;rw[if_pos rfl];exact hr.weak)
 |exc c fs=>exact id
 |wall=>exact id
def lv(R:Rel C.W B S P H σ ρ)(q:zJ C B H R' Q (zc i ρ))(k:∀x v,σ[i]?=some (some v)->ρ[i]?=some (some x)->R' H x v):eC i σ H Q:=by
 unfold zc at q;cases e:ρ[i]? with
 |none=>rw[e]at q;exact q.elim
 |some o=>
  cases o with
  |none=>rw[e]at q;exact q.elim
  |some x=>rw[e]at q;obtain⟨v,hv,_⟩:=R.var i x e;exact⟨v,hv,q v H (zl.refl _) (k x v hv e)⟩
def zr(h:PE X e (eC i))(hS:S[i]?≠some 2/\S[i]?≠some 1:=by decide):EM X C S false e (zc i):=λ_=>⟨_,h,λB P H σ ρ R Q q=>lv R q λx v hv e=>by
 obtain⟨v',hv',_,_,h4⟩:=R.var i x e;rw[hv]at hv';cases hv';exact RV.of (h4 hS.1 hS.2)⟩
def E3(h:PE X e (eC i)):EM X C S true e (zc i):=λ_=>⟨_,h,λB P H σ ρ R Q q=>lv R q λx v hv e=>by
 obtain⟨v',hv',h2,h3,h4⟩:=R.var i x e;rw[hv]at hv';cases hv';show yG C.W (if true=true then _ else _) _ _ _ _;rw[if_pos rfl];by_cases c2:S[i]?=some 2
 .obtain⟨rfl,z⟩:=h2 c2;exact z.GX trivial
 .by_cases c1:S[i]?=some 1
  .exact(h3 c1).sub (λ_ _ _=>trivial) λ_ m _=>m
  .exact(h4 c2 c1).weak⟩
def GY(h:PE X e (tC v))(hx:∀M H,Rep C.W M H x v):EM X C S false e (mC x):=λ_=>⟨_,h,λB P H σ ρ R Q q=>q v H (zl.refl _) (RV.of (hx _ _))⟩
def ym(h:PE X e (tC (.int i))):EM X C S false e (mC (.i i)):=GY h λ_ _=>rfl
def cB(h:PE X e (tC (.str i))):EM X C S false e (mC (.s i)):=GY h λ_ _=>rfl
def Ka(h:PE X e (tC (.bl i))):EM X C S false e (mC (.b i)):=GY h λ_ _=>rfl
def Uo(h:PE X e (tC .non)):EM X C S false e (mC .n):=GY h λ_ _=>rfl
def mOp(p:PV->PV->Out PV)(m1 m2:ME):ME:=λρ=>(m1 ρ).bind λx=>(m2 ρ).bind λy=>p x y
def mUn(p:PV->Out PV)(m1:ME):ME:=λρ=>(m1 ρ).bind p
def New(M:MF)(H:Hp):Prop:=∀p,H p=none->M p
def Rel.new(R:Rel W B S P H σ ρ):New (Mof B S P) H:=λp h=>⟨⟨.inr (zl.none R.same h),λz=>by obtain⟨o,q,_⟩:=R.exc p z;rw[h]at q;cases q⟩,λi hi e=>by obtain⟨_,o,q,_⟩:=R.act i hi;rw[e,h]at q;cases q⟩
def RV.eq:RV C B S P false=Rep C.W (Mof B S P):=by
 funext H x v;exact propext yG.iff
def Lf2(W:RC)(r:R2)(p:PV->PV->Out PV):Prop:=∀(M:MF)(C:LC)(B:Bs) H x y v u Q,New M H->yG W (λ_=>True) M H x v->yG W (λ_=>True) M H y u->zJ C B H (Rep W M) Q (p x y)->r v u H Q
def uB(L:Lf2 C.W r p)(h1:LE C S w1 ta m1)(h2:LE C S w2 tb m2):LE C S false (tOp r ta tb) (mOp p m1 m2):=λB P H σ ρ R Q q=>
 h1 B P H σ ρ R _ (zV q λx v H1 s1 r1 q1=>h2 B P H1 σ ρ (R.keep s1) _ (zV q1 λy u H2 s2 r2 q2=>L _ C B H2 x y v u Q ((R.keep s1).keep s2).new (r1.same s2).weak r2.weak (RV.eq▸q2)))
def zo(o:OpR X (binaryOp op) r)(L:Lf2 C.W r p)(h1:EM X C S w1 a m1)(h2:EM X C S w2 b m2):EM X C S false (.BinOp a op b pos) (mOp p m1 m2):=λhK=>by obtain⟨ta,a1,a2⟩:=h1 hK;obtain⟨tb,b1,b2⟩:=h2 hK;exact⟨_,El o a1 b1,uB L a2 b2⟩
def cC(o:OpR X (compareOp op) r)(L:Lf2 C.W r p)(h1:EM X C S w1 a m1)(h2:EM X C S w2 b m2)(hm:behindInMarks op b=false):EM X C S false (.Compare a [op] [b] pos) (mOp p m1 m2):=λhK=>by obtain⟨ta,a1,a2⟩:=h1 hK;obtain⟨tb,b1,b2⟩:=h2 hK;exact⟨_,BO o a1 b1 hm,uB L a2 b2⟩
def asB:PV->Out Bool
 |.b c=>.ok c
 |_=>.wall
def yH(m:ME):MT:=λρ=>(m ρ).bind asB
def af(h:LE C S w te m):LT C S (Er te) (yH m):=λB P H σ ρ R Q q=>
 h B P H σ ρ R _ (mf q λx v H1 s1 r1 q1=>by
  cases x with
  |b c=>exact⟨c,(show v=.bl c from r1),q1 H1 (zl.refl _)⟩
  |_=>exact q1.elim)
def qu(o:OpR X (compareOp op) r)(L:Lf2 C.W r p)(h1:EM X C S w1 a m1)(h2:EM X C S w2 b m2)(hm:behindInMarks op b=false):TM X C S (.Compare a [op] [b] pos) (yH (mOp p m1 m2)):=λhK=>by obtain⟨ta,a1,a2⟩:=h1 hK;obtain⟨tb,b1,b2⟩:=h2 hK;exact⟨_,eE o a1 b1 hm,af (uB L a2 b2)⟩
variable {c:MR}{w3:Bool}{m3:ME}
end
def pI(g:Int->Int->PV):PV->PV->Out PV
 |.i a,.i b=>.ok (g a b)
 |_,_=>.wall
def E4(hg:∀a b M H,Rep W M H (g a b) (gv a b)):Lf2 W (rI0 gv) (pI g):=λM C B H x y v u Q hM hx hy q=>by
 cases x with
 |i a=>
  cases y with
  |i b=>exact⟨a,b,hx,hy,q _ H (zl.refl _) (hg a b _ _)⟩
  |_=>exact q.elim
 |_=>exact q.elim
abbrev oE:=pI λa b=>.i (a-b)
abbrev pLt:=pI λa b=>.b (decide (a<b))
abbrev pLe:=pI λa b=>.b (decide (a<=b))
abbrev pGt:=pI λa b=>.b (decide (b<a))
abbrev pGe:=pI λa b=>.b (decide (b<=a))
def V9:Lf2 W (rI0 λi j=>.int (i-j)) oE:=E4 λ_ _ _ _=>rfl
section
variable {W:RC}{M:MF}{H:Hp}
def zI.nil:zI W M H [] []:=rfl
def zI.cons(h:Rep W M H x v)(t:zI W M H xs vs):zI W M H (x::xs) (v::vs):=⟨v,vs,rfl,h,t⟩
def zI.len:∀{xs:MX}{vs:ML},zI W M H xs vs->vs.length=xs.length
 |[],_,h=>by cases(show _=_ from h);rfl
 |x::xs,_,h=>by obtain⟨v,r,rfl,_,h2⟩:=h;rw[v4,v4,zI.len h2]
def zI.get:∀{xs:MX}{vs:ML}{i:Nat}{x:PV},zI W M H xs vs->xs[i]?=some x->∃v,vs[i]?=some v/\Rep W M H x v
 |[],_,_,_,_,e=>by simp at e
 |x::xs,_,0,y,h,e=>by obtain⟨v,r,rfl,h1,h2⟩:=h;simp at e;subst e;exact⟨v,rfl,h1⟩
 |x::xs,_,i+1,y,h,e=>by obtain⟨v,r,rfl,h1,h2⟩:=h;simp only[List.getElem?_cons_succ]at e ⊢;exact zI.get h2 e
def zI.DX:∀{xs:MX}{vs:ML}{i:Nat}{v:V},zI W M H xs vs->vs[i]?=some v->∃x,xs[i]?=some x/\Rep W M H x v
 |[],_,_,_,h,e=>by cases(show _=_ from h);simp at e
 |x::xs,_,0,y,h,e=>by obtain⟨v,r,rfl,h1,h2⟩:=h;simp at e;subst e;exact⟨x,rfl,h1⟩
 |x::xs,_,i+1,y,h,e=>by obtain⟨v,r,rfl,h1,h2⟩:=h;simp only[List.getElem?_cons_succ]at e ⊢;exact zI.DX h2 e
def zI.append:∀{xs ys:MX}{vs us:ML},zI W M H xs vs->zI W M H ys us->zI W M H (xs++ys) (vs++us)
 |[],_,_,_,h,k=>by cases(show _=_ from h);exact k
 |x::xs,_,_,_,h,k=>by obtain⟨v,r,rfl,h1,h2⟩:=h;exact⟨v,_,rfl,h1,zI.append h2 k⟩
def zI.take:∀{xs:MX}{vs:ML}(n:Nat),zI W M H xs vs->zI W M H (xs.take n) (vs.take n)
 |[],_,_,h=>by cases(show _=_ from h);simp;exact zI.nil
 |x::xs,_,0,h=>zI.nil
 |x::xs,_,n+1,h=>by obtain⟨v,r,rfl,h1,h2⟩:=h;exact⟨v,_,rfl,h1,zI.take n h2⟩
def zI.drop:∀{xs:MX}{vs:ML}(n:Nat),zI W M H xs vs->zI W M H (xs.drop n) (vs.drop n)
 |[],_,_,h=>by cases(show _=_ from h);simp;exact zI.nil
 |x::xs,_,0,h=>h
 |x::xs,_,n+1,h=>by obtain⟨v,r,rfl,h1,h2⟩:=h;exact zI.drop n h2
def zI.set{x:PV}{v:V}(hx:Rep W M H x v):∀{xs:MX}{vs:ML}(n:Nat),zI W M H xs vs->zI W M H (xs.set n x) (vs.set n v)
 |[],_,_,h=>by cases(show _=_ from h);simp;exact zI.nil
 |y::xs,_,0,h=>by obtain⟨v,r,rfl,h1,h2⟩:=h;exact⟨_,_,rfl,hx,h2⟩
 |y::xs,_,n+1,h=>by obtain⟨v,r,rfl,h1,h2⟩:=h;exact⟨v,_,rfl,h1,zI.set hx n h2⟩
def zI.ints:∀{ns:Nc},zI W M H (ns.map PV.i) (ns.map V.int)
 |[]=>rfl
 |n::ns=>⟨_,_,rfl,rfl,zI.ints⟩
def zI.at(h:zI W M H xs vs)(e:atI xs i=some x):∃v,atI vs i=some v/\Rep W M H x v:=by
 unfold atI at e ⊢;rw[h.len];cases q:ixN xs.length i with
 |none=>rw[q]at e;cases e
 |some j=>rw[q]at e;exact h.get e
def zI.cut{xs:MX}{vs:ML}{lo hi:Nx}(h:zI W M H xs vs):zI W M H ((xs.drop (HT.sIx xs.length 0 lo)).take (HT.sIx xs.length xs.length hi-HT.sIx xs.length 0 lo)) (Aw vs lo hi):=by unfold Aw;rw[h.len];exact(h.drop _).take _
def qy.iff:∀{kvs:MY}{es:MM},qy W M H kvs es↔es.map (·.1)=kvs.map (·.1)/\zI W M H (kvs.map (·.2)) (es.map (·.2))
 |[],es=>⟨λh=>by cases(show _=_ from h);exact⟨rfl,rfl⟩,λh=>by cases es with|nil=>rfl|cons a r=>cases h.1⟩
 |kx::r,es=>by
  constructor
  .rintro ⟨v,q,rfl,h1,h2⟩
   obtain⟨e,t⟩:=qy.iff.mp h2;exact⟨by simp only[List.map_cons,e],v,_,rfl,h1,t⟩
  .rintro ⟨e,v,q,e2,h1,h2⟩
   cases es with
   |nil=>cases e2
   |cons a es=>simp only[List.map_cons,List.cons.injEq]at e e2;refine⟨a.2,es,by rw[<- e.1],by rw[e2.1];exact h1,qy.iff.mpr ⟨e.2,by rw[e2.2];exact h2⟩⟩
def jq.iff:∀{kvs:MZ}{es:Nd},jq W M H kvs es↔es.map (·.1)=kvs.map (·.1)/\zI W M H (kvs.map (·.2)) (es.map (·.2))
 |[],es=>⟨λh=>by cases(show _=_ from h);exact⟨rfl,rfl⟩,λh=>by cases es with|nil=>rfl|cons a r=>cases h.1⟩
 |kx::r,es=>by
  constructor
  .rintro ⟨v,q,rfl,h1,h2⟩
   obtain⟨e,t⟩:=jq.iff.mp h2;exact⟨by simp only[List.map_cons,e],v,_,rfl,h1,t⟩
  .rintro ⟨e,v,q,e2,h1,h2⟩
   cases es with
   |nil=>cases e2
   |cons a es=>simp only[List.map_cons,List.cons.injEq]at e e2;refine⟨a.2,es,by rw[<- e.1],by rw[e2.1];exact h1,jq.iff.mpr ⟨e.2,by rw[e2.2];exact h2⟩⟩
def jq.lookup:∀{kvs:MZ}{es:Nd}{f:Str}{x:PV},jq W M H kvs es->kvs.lookup f=some x->∃v,es.lookup f=some v/\Rep W M H x v
 |[],_,_,_,_,e=>by cases e
 |kx::r,_,f,x,h,e=>by
  obtain⟨v,q,rfl,h1,h2⟩:=h;rw[S5]at e ⊢;by_cases c:(f==kx.1)=true
  .simp only[c]at e ⊢;cases e;exact⟨v,rfl,h1⟩
  .simp only[c]at e ⊢;exact jq.lookup h2 e
def jq.oF:∀{kvs:MZ}{es:Nd}{f:Str},jq W M H kvs es->kvs.lookup f=none->es.lookup f=none
 |[],_,_,h,_=>by cases(show _=_ from h);rfl
 |kx::r,_,f,h,e=>by
  obtain⟨v,q,rfl,h1,h2⟩:=h;rw[S5]at e ⊢;by_cases c:(f==kx.1)=true
  .simp only[c]at e;cases e
  .simp only[c]at e ⊢;exact jq.oF h2 e
def oG(n:New M H)(hp:H p=none)(h:zI W M H xs vs):Rep W M (upd H p (.lst vs)) (.l xs) (.ref p):=⟨p,vs,rfl,n p hp,zd,h.same (zl.upd hp)⟩
def Ce(hp:H p=none)(h:zI W M H xs vs):Rep W M (upd H p (.tup vs)) (.t xs) (.ref p):=⟨p,vs,rfl,SqT.of zd,h.same (zl.upd hp)⟩
end
def E5:R2:=λx y H Q=>(rI0 (λi j=>.int (i+j)) x y H Q\/∃i j,x=.str i/\y=.str j/\i.length+j.length<=sizeLine/\Q (.str (i++j)) H)\/Lh x y H Q
def zO:OpR X (binaryOp .Add) E5:=(En.or lR).or AD
def z1:PV->PV->Out PV
 |.i a,.i b=>.ok (.i (a+b))
 |.s a,.s b=>if a.length+b.length<=sizeLine then .ok (.s (a++b))else .wall
 |.l a,.l b=>if a.length+b.length<=sizeLine then .ok (.l (a++b))else .wall
 |_,_=>.wall
def zP:Lf2 W E5 z1:=λM C B H x y v u Q n hx hy q=>by
 unfold z1 at q;split at q
 .exact .inl (.inl ⟨_,_,hx,hy,q _ H (zl.refl _) rfl⟩)
 .split at q
  .rename_i h;exact .inl (.inr ⟨_,_,hx,hy,h,q _ H (zl.refl _) rfl⟩)
  .exact q.elim
 .split at q
  .rename_i h;obtain⟨p,vs,rfl,_,e,r⟩:=hx;obtain⟨p',vs',rfl,_,e',r'⟩:=hy;exact .inr ⟨p,p',vs,vs',rfl,rfl,e,e',by rw[r.len,r'.len];exact h,λz hz=>q _ _ (zl.upd hz) (oG n hz (r.append r'))⟩
  .exact q.elim
 .exact q.elim
def E6:R2:=λx y H Q=>(rI Ar (λi j=>.int (i*j)) x y H Q\/rI ux (λi j=>.int (i*j)) x y H Q)\/(EZ x y H Q\/Li x y H Q)
def ZR:OpR X (binaryOp .Mult) E6:=(Eo.or B9).or (l_.or EC)
instance{i j:Int}:Decidable (Ar i j):=by unfold Ar;infer_instance
instance{i j:Int}:Decidable (DU i j):=by unfold DU;infer_instance
instance{i j:Int}:Decidable (Em i j):=by unfold Em;infer_instance
def Y2:PV->PV->Out PV
 |.i a,.i b=>if Ar a b\/(a.natAbs<2 ^ 8192/\b.natAbs<2 ^ 8192)then .ok (.i (a*b))else .wall
 |.s a,.i b=>if a.length<=16/\-2 ^ 63<=b/\b<=1048576 then .ok (.s (Txt.mul a b))else .wall
 |.l a,.i b=>if -(2 ^ 63)<=b/\b<2 ^ 63/\a.length*b.toNat<=sizeLine then .ok (.l (List.replicate b.toNat a).flatten)else .wall
 |_,_=>.wall
def zI.rep{W:RC}{M:MF}{H:Hp}{xs:MX}{vs:ML}(h:zI W M H xs vs):∀n,zI W M H (List.replicate n xs).flatten (List.replicate n vs).flatten
 |0=>rfl
 |n+1=>by rw[a0q,a0q,a0Q,a0Q];exact h.append (h.rep n)
def ZS:Lf2 W E6 Y2:=λM C B H x y v u Q n hx hy q=>by
 unfold Y2 at q;split at q
 .split at q
  .rename_i h;rcases h with h|h
   .exact .inl (.inl ⟨_,_,hx,hy,h,q _ H (zl.refl _) rfl⟩)
   .exact .inl (.inr ⟨_,_,hx,hy,h,q _ H (zl.refl _) rfl⟩)
  .exact q.elim
 .split at q
  .rename_i h;exact .inr (.inl ⟨_,_,hx,hy,h.1,h.2.1,h.2.2,q _ H (zl.refl _) rfl⟩)
  .exact q.elim
 .split at q
  .rename_i h;obtain⟨p,vs,rfl,_,e,r⟩:=hx;exact .inr (.inr ⟨p,_,vs,rfl,hy,e,h.1,h.2.1,by rw[r.len];exact h.2.2,λz hz=>q _ _ (zl.upd hz) (oG n hz (r.rep _))⟩)
  .exact q.elim
 .exact q.elim
def E7:R2:=λx y H Q=>rI DU (λi j=>.int (i / j)) x y H Q\/rI E1 (λi j=>.int (i.fdiv j)) x y H Q
def jv:OpR X (binaryOp .FloorDiv) E7:=BL.or uz
def kg:PV->PV->Out PV
 |.i a,.i b=>if DU a b then .ok (.i (a / b))else if b≠0/\b.natAbs<2 ^ 8192 then .ok (.i (a.fdiv b))else .wall
 |_,_=>.wall
def jw:Lf2 W E7 kg:=λM C B H x y v u Q n hx hy q=>by
 unfold kg at q;split at q
 .split at q
  .rename_i h;exact .inl ⟨_,_,hx,hy,h,q _ H (zl.refl _) rfl⟩
  .split at q
   .rename_i h;exact .inr ⟨_,_,hx,hy,h,q _ H (zl.refl _) rfl⟩
   .exact q.elim
 .exact q.elim
def E8:R2:=λx y H Q=>rI (λ_ j=>0<j) (λi j=>.int (i % j)) x y H Q\/rI (λ_ j=>j≠0) (λi j=>.int (i.fmod j)) x y H Q
def zx:OpR X (binaryOp .Mod) E8:=Ep.or BM
def zS:PV->PV->Out PV
 |.i a,.i b=>if 0<b then .ok (.i (a % b))else if b≠0 then .ok (.i (a.fmod b))else .wall
 |_,_=>.wall
def zy:Lf2 W E8 zS:=λM C B H x y v u Q n hx hy q=>by
 unfold zS at q;split at q
 .split at q
  .rename_i h;exact .inl ⟨_,_,hx,hy,h,q _ H (zl.refl _) rfl⟩
  .split at q
   .rename_i h;exact .inr ⟨_,_,hx,hy,h,q _ H (zl.refl _) rfl⟩
   .exact q.elim
 .exact q.elim
def eX:PV->PV->Out PV
 |.i a,.i b=>if Em a b then .ok (.i (a ^ b.toNat))else .wall
 |_,_=>.wall
def V_:Lf2 W (rI Em λi j=>.int (i ^ j.toNat)) eX:=λM C B H x y v u Q n hx hy q=>by
 unfold eX at q;split at q
 .split at q
  .rename_i h;exact⟨_,_,hx,hy,h,q _ H (zl.refl _) rfl⟩
  .exact q.elim
 .exact q.elim
def oH:Lf2 W (rI0 λi j=>.bl (decide (i<j))) pLt:=E4 λ_ _ _ _=>rfl
def uC:Lf2 W (rI0 λi j=>.bl (decide (i<=j))) pLe:=E4 λ_ _ _ _=>rfl
def mj:Lf2 W (rI0 λi j=>.bl (decide (j<i))) pGt:=E4 λ_ _ _ _=>rfl
def HZ:Lf2 W (rI0 λi j=>.bl (decide (j<=i))) pGe:=E4 λ_ _ _ _=>rfl
def isN:PV->Bool
 |.n=>true
 |_=>false
def uD(neg:Bool):PV->PV->Out PV
 |x,.n=>.ok (.b (xor neg (isN x)))
 |_,_=>.wall
def E9(h:yG W N M H x v):decide (v=.non)=isN x:=by
 cases x with
 |n=>cases(show v=_ from h);rfl
 |i a=>cases(show v=_ from h);rfl
 |s a=>cases(show v=_ from h);rfl
 |b a=>cases(show v=_ from h);rfl
 |l a=>obtain⟨p,_,rfl,_⟩:=h;rfl
 |t a=>obtain⟨p,_,rfl,_⟩:=h;rfl
 |d a=>obtain⟨p,_,rfl,_⟩:=h;rfl
 |o c a=>obtain⟨p,_,_,rfl,_⟩:=h;rfl
 |x c a=>obtain⟨p,_,_,rfl,_⟩:=h;rfl
 |sc a=>obtain⟨p,rfl,_⟩:=h;rfl
 |dt a=>obtain⟨p,rfl,_⟩:=h;rfl
def AN:Lf2 W (λx y H Q=>y=.non/\Q (.bl (decide (x=.non))) H) (uD false):=λM C B H x y v u Q n hx hy q=>by
 unfold uD at q;split at q
 .refine⟨hy,?_⟩;rw[E9 hx];exact q _ H (zl.refl _) (by rw[a09];rfl)
 .exact q.elim
def oI:Lf2 W (λx y H Q=>y=.non/\Q (.bl (!decide (x=.non))) H) (uD true):=λM C B H x y v u Q n hx hy q=>by
 unfold uD at q;split at q
 .refine⟨hy,?_⟩;rw[E9 hx];exact q _ H (zl.refl _) (by rw[a1S];rfl)
 .exact q.elim
def d8.rk(e:Rd H a (.dK kvs)):d8 H a (kV k) (KA kvs k):=.inl ⟨kvs,k,e,rfl,rfl⟩
def RFr(W:RC)(M:MF)(H:Hp)(H2:Hp)(x:PV)(v:V):Prop:=∃p,v=.ref p/\H p=none/\ae W (λa=>M a/\a≠p) H2 p x
def RFr.rep(n:New M H)(h:RFr W M H H2 x v):Rep W M H2 x v:=by obtain⟨p,rfl,hp,h⟩:=h;exact yG.iff.mp ((h.GX (N:=M) (n p hp)).sub (λ_ m _=>m) λ_ m _=>m.1)
def LFr(C:LC)(S:MB)(te:TE)(m:ME):Prop:=∀B P H σ ρ,Rel C.W B S P H σ ρ->∀Q,zJ C B H (RFr C.W (Mof B S P) H) Q (m ρ)->te σ H Q
def FM(X:Cx)(C:LC)(S:MB)(e:MR)(m:ME):Prop:=X.K=C.W.K->∃te,PE X e te/\LFr C S te m
def ZT(h:zJ C B H R Q o)(k:∀x v H2,zl H H2->R' H2 x v->R H2 x v):zJ C B H R' Q o:=by
 cases o with
 |ok r=>exact λv H2 s hr=>h v H2 s (k _ _ _ s hr)
 |exc c fs=>exact h
 |wall=>exact h
def FM.em(h:FM X C S e m):EM X C S false e m:=λhK=>by obtain⟨te,h1,h2⟩:=h hK;exact⟨te,h1,λB P H σ ρ R Q q=>h2 B P H σ ρ R Q (ZT q λx v H2 s hr=>RV.of (hr.rep R.new))⟩
def RVs(C:LC)(B:Bs)(S:MB)(P:MN)(H:Hp):List Bool->List PV->List V->Prop
 |[],xs,vs=>xs=[]/\vs=[]
 |w::ws,xs,vs=>∃x v xr vr,xs=x::xr/\vs=v::vr/\RV C B S P w H x v/\RVs C B S P H ws xr vr
def mq(C:LC)(B:Bs)(H:Hp)(R:Hp->List PV->List V->Prop)(Q:List V->Hp->Prop):Out (List PV)->Prop
 |.ok r=>∀v H2,zl H H2->R H2 r v->Q v H2
 |.exc c fs=>XPo C B c fs
 |.wall=>False
def LA(C:LC)(S:MB)(ws:MP)(ta:TA)(m:MA):Prop:=∀B P H σ ρ,Rel C.W B S P H σ ρ->∀Q,mq C B H (λH2=>RVs C B S P H2 ws) Q (m ρ)->ta σ H Q
def AM(X:Cx)(C:LC)(S:MB)(ws:MP)(es:MK)(m:MA):Prop:=X.K=C.W.K->∃ta,PA X es ta/\LA C S ws ta m
def zq:MA:=λ_=>.ok []
def zb(m:ME)(ms:MA):MA:=λρ=>(m ρ).bind λx=>(ms ρ).bind λxs=>.ok (x::xs)
def mr{α:Type}{f:PV->Out α}{T:Hp->Out α->Prop}(hT:∀H H2 o,zl H H2->T H o->T H2 o)(hx:∀c fs,T H (.exc c fs)->XPo C B c fs)(hw:T H .wall->False)
  (h:T H (o.bind f)) (k:∀r v H2,zl H H2->R H2 r v->T H2 (f r)->Q' v H2):zJ C B H R Q' o:=by
 cases o with
 |ok r=>exact λv H2 s hr=>k r v H2 s hr (hT _ _ _ s h)
 |exc c fs=>exact hx _ _ h
 |wall=>exact hw h
def eY(s:zl H H2)(h:mq C B H R Q o):mq C B H2 R Q o:=by
 cases o with
 |ok x=>exact λv H3 s3 hx=>h v H3 (s.trans s3) hx
 |exc c fs=>exact h
 |wall=>exact h
def yM(h:zJ C B H R Q (o.bind f))(k:∀r v H2,zl H H2->R' H2 r v->zJ C B H2 R Q (f r)->Q' v H2):mq C B H R' Q' o:=by
 cases o with
 |ok r=>exact λv H2 s hr=>k r v H2 s hr (wt (o:=f r) h s)
 |exc c fs=>exact h
 |wall=>exact h
section
variable {X:Cx}{C:LC}{S:MB}{e a b:MR}{es:MK}{w w1 w2:Bool}{ws:MP}{m m1 m2:ME}{ms:MA}{t1 t2:MT}{pos:Pos}
def zf:AM X C S [] [] zq:=λ_=>⟨_,V0,λB P H σ ρ R Q q=>q [] H (zl.refl _) ⟨rfl,rfl⟩⟩
def za(h:EM X C S w e m)(hr:AM X C S ws es ms)(hs:starEach (e::es) X.env=(false,eval e X.env)::starEach es X.env:=by rfl):AM X C S (w::ws) (e::es) (zb m ms):=λhK=>by
 obtain⟨te,a1,a2⟩:=h hK;obtain⟨ta,b1,b2⟩:=hr hK;refine⟨_,wK a1 b1 hs,λB P H σ ρ R Q q=>a2 B P H σ ρ R _ (mr (T:=λH o=>mq C B H (λH2=>RVs C B S P H2 (w::ws)) Q o) (λ_ _ _ s h=>eY s h) (λ_ _ h=>h) (λh=>h) q λx v H1 s1 r1 q1=>?_)⟩;refine b2 B P H1 σ ρ (R.keep s1) _ ?_;revert q1;cases ms ρ with
 |ok xs=>exact λq1 vs H2 s2 r2=>q1 (v::vs) H2 s2 ⟨x,v,xs,vs,rfl,rfl,r1.same s2,r2⟩
 |exc c fs=>exact id
 |wall=>exact id
def RVs.GZ{B:Bs}{P:MN}{H:Hp}:∀{ws:MP}{xs:MX}{vs:ML},RVs C B S P H ws xs vs->ws.all (!·)=true->zI C.W (Mof B S P) H xs vs
 |[],_,_,⟨e1,e2⟩,_=>by subst e1;subst e2;rfl
 |w::ws,_,_,⟨x,v,xr,vr,e1,e2,h1,h2⟩,hw=>by subst e1;subst e2;simp only[List.all_cons,Bool.and_eq_true,Bool.not_eq_true']at hw;rw[hw.1]at h1;exact⟨v,vr,rfl,h1.rep,RVs.GZ h2 hw.2⟩
def tN(ms:MA):ME:=λρ=>(ms ρ).bind λxs=>if xs.length<=sizeLine then .ok (.l xs)else .wall
def tO(ms:MA):ME:=λρ=>(ms ρ).bind λxs=>if xs.length<=sizeLine then .ok (.t xs)else .wall
def Wa(h:AM X C S ws es ms)(hw:ws.all (!·)=true:=by rfl):FM X C S (.List es pos) (tN ms):=λhK=>by
 obtain⟨ta,a1,a2⟩:=h hK;refine⟨_,Et a1,λB P H σ ρ R Q q=>a2 B P H σ ρ R _ (yM q λxs vs H1 s1 r1 q1=>?_)⟩;have rs:=r1.GZ hw;split at q1
 .rename_i hl;exact⟨by rw[rs.len];exact hl,λp hp=>q1 _ _ (zl.upd hp) ⟨p,rfl,zl.none s1 hp,vs,zd,(rs.sub λa m n=>⟨m,λz=>n (z▸hp)⟩).same (zl.upd hp)⟩⟩
 .exact q1.elim
def Wb{x1}(h:AM X C S ws es ms)(hw:ws.all (!·)=true:=by rfl):EM X C S false (.Tuple es x1 pos) (tO ms):=λhK=>by
 obtain⟨ta,a1,a2⟩:=h hK;refine⟨_,V1 a1,λB P H σ ρ R Q q=>a2 B P H σ ρ R _ (yM q λxs vs H1 s1 r1 q1=>?_)⟩;have rs:=r1.GZ hw;split at q1
 .rename_i hl;exact⟨by rw[rs.len];exact hl,λp hp=>q1 _ _ (zl.upd hp) (RV.of (Ce hp rs))⟩
 .exact q1.elim
def d9(t u:MT):MT:=λρ=>(t ρ).bind λc=>if c=true then u ρ else .ok false
def mOr(t u:MT):MT:=λρ=>(t ρ).bind λc=>if c=true then .ok true else u ρ
def tQ(t:MT):MT:=λρ=>(t ρ).bind λc=>.ok (!c)
def mw(m1 m2:ME):ME:=λρ=>(m1 ρ).bind λx=>(asB x).bind λc=>if c=true then m2 ρ else .ok (.b false)
def TWM.tm(h:TWM X C S e t1):TM X C S e t1:=λhK=>let⟨tt,a1,a2⟩:=h hK;⟨tt,a1.pt,a2⟩
def Wc(h:TM X C S a t1):TWM X C S (.BoolOp .And [a] pos) t1:=λhK=>let⟨tt,a1,a2⟩:=h hK;⟨tt,pw_and1 a1,a2⟩
def Uq(h:TM X C S a t1):TWM X C S (.BoolOp .Or [a] pos) t1:=λhK=>let⟨tt,a1,a2⟩:=h hK;⟨tt,pw_or1 a1,a2⟩
variable {rest:MK}
def Ur(h:TM X C S a t1)(h2:TWM X C S (.BoolOp .And (b::rest) pos) t2):TWM X C S (.BoolOp .And (a::b::rest) pos) (d9 t1 t2):=λhK=>by
 obtain⟨tt,a1,a2⟩:=h hK;obtain⟨tu,b1,b2⟩:=h2 hK;refine⟨_,pw_and a1 b1,λB P H σ ρ R Q q=>a2 B P H σ ρ R _ (QK q λc H1 s1 q1=>?_)⟩;cases c with
 |true=>exact AI (b2 B P H1 σ ρ (R.keep s1) _ q1)
 |false=>exact AG (q1 H1 (zl.refl _))
def mx(h:TM X C S a t1)(h2:TWM X C S (.BoolOp .Or (b::rest) pos) t2):TWM X C S (.BoolOp .Or (a::b::rest) pos) (mOr t1 t2):=λhK=>by
 obtain⟨tt,a1,a2⟩:=h hK;obtain⟨tu,b1,b2⟩:=h2 hK;refine⟨_,pw_or a1 b1,λB P H σ ρ R Q q=>a2 B P H σ ρ R _ (QK q λc H1 s1 q1=>?_)⟩;cases c with
 |true=>exact AI (q1 H1 (zl.refl _))
 |false=>exact AG (b2 B P H1 σ ρ (R.keep s1) _ q1)
def cD(h:TM X C S a t1):TM X C S (.UnaryOp .Not a pos) (tQ t1):=λhK=>by obtain⟨tt,a1,a2⟩:=h hK;exact⟨_,Ee a1,λB P H σ ρ R Q q=>a2 B P H σ ρ R _ (QK q λc H1 s1 q1=>q1 H1 (zl.refl _))⟩
def KH(h:EM X C S w e m)(he:∀whole,isTrue e X.env whole=(do let v<-whole;standAt e.pos;holding [v] (truthy v)):=by intro _;rfl):TM X C S e (yH m):=λhK=>by obtain⟨te,a1,a2⟩:=h hK;exact⟨_,Ed a1 he,af a2⟩
def AO{op}(h:EM X C S w a m):EM X C S w (.BoolOp op [a] pos) m:=λhK=>let⟨tt,a1,a2⟩:=h hK;⟨tt,Ao a1,a2⟩
def oJ(h:EM X C S w1 a m1)(h2:EM X C S false (.BoolOp .And (b::rest) pos) m2):EM X C S false (.BoolOp .And (a::b::rest) pos) (mw m1 m2):=λhK=>by
 obtain⟨tt,a1,a2⟩:=h hK;obtain⟨tu,b1,b2⟩:=h2 hK;refine⟨_,Ap a1 b1,λB P H σ ρ R Q q=>a2 B P H σ ρ R _ (zV q λx v H1 s1 r1 q1=>?_)⟩;cases x with
 |b c=>
  refine⟨c,(show v=.bl c from r1),?_⟩;cases c with
  |true=>exact AI (b2 B P H1 σ ρ (R.keep s1) _ q1)
  |false=>exact AG (q1 _ H1 (zl.refl _) (RV.of rfl))
 |_=>exact q1.elim
end
def zK{κ α:Type}[DecidableEq κ](kvs:List (κ×α))(k:κ):Option α:=(kvs.find? λkv=>decide (kv.1=k)).map (·.2)
def qy.get{W:RC}{M:MF}{H:Hp}:∀{kvs:MY}{es:MM}{k:Key}{x:PV},qy W M H kvs es->zK kvs k=some x->∃v,KA es k=some v/\Rep W M H x v
 |[],_,_,_,_,e=>by cases e
 |kx::r,_,k,x,h,e=>by
  obtain⟨v,q,rfl,h1,h2⟩:=h;unfold zK at e;unfold KA;rw[a03]at e ⊢;by_cases c:kx.1=k
  .simp only[c,decide_true]at e ⊢;cases e;exact⟨v,rfl,h1⟩
  .simp only[c,decide_false]at e ⊢;exact qy.get h2 e
def qy.G0{W:RC}{M:MF}{H:Hp}:∀{kvs:MY}{es:MM}{k:Key},qy W M H kvs es->zK kvs k=none->KA es k=none
 |[],_,_,h,_=>by cases(show _=_ from h);rfl
 |kx::r,_,k,h,e=>by
  obtain⟨v,q,rfl,h1,h2⟩:=h;unfold zK at e;unfold KA;rw[a03]at e ⊢;by_cases c:kx.1=k
  .simp only[c,decide_true]at e;cases e
  .simp only[c,decide_false]at e ⊢;exact qy.G0 h2 e
def qy.Mf(h:qy W M H kvs es):(KA es k).isSome=(zK kvs k).isSome:=by
 cases e:zK kvs k with
 |none=>rw[h.G0 e];rfl
 |some x=>obtain⟨v,q,_⟩:=h.get e;rw[q];rfl
def pk:PV->Option Key
 |.i n=>some (.inl n)
 |.s x=>some (.inr x)
 |_=>none
def Wd(h:yG W N M H x v)(e:pk x=some k):v=kV k:=by
 cases x with
 |i n=>cases e;exact h
 |s n=>cases e;exact h
 |_=>cases e
def Lj:R2:=λx y H Q=>∃a v,x=.ref a/\d8 H a y (some v)/\Q v H
def eZ(hu:X.A.units+1<cLine):IxR X Lj:=by
 intro value slice pins s σ H x y v u Q I rx ry h hs;obtain⟨a,w',rfl,g,q⟩:=h;cases rx;have hT:=eJ I g;unfold subscriptTail;refine f8 ?_;rw[getitemInPython_of_ne hT.not_modules];refine f8 (a1F hT PySem.F.slot_dict_getitem.lookup ?_);have fin:wpAny (NO X) X.A (subscripted slice false (.ref a) u) (λr s₃=>wpAny (NO X) X.A (letTemporaryGo value (.ref a) r >>= λ_=>pure r) (EP X pins σ Q) X.xe s₃) X.xe s:=by rw[hs];exact wpAny_operating (T2 (n6 hu I g ry λw' s3 I3 rw'=>⟨_,H,I3,rw',q⟩) (λr s₃ h₃=>f8 (wpAny_letTemporaryGo (M9 h₃))) λ_ _ x=>x)
 first
  |exact M9 (f8 fin)
  |exact f8 (M9 (f8 fin))
  |exact f8 fin
def Lk(K:Nh):R2:=λx y H Q=>rIx K x y H Q\/Lj x y H Q
def wu{α:Type}:Option α->Out α
 |some a=>.ok a
 |none=>.wall
def pIx:PV->PV->Out PV
 |.l xs,.i k=>wu (atI xs k)
 |.t xs,.i k=>wu (atI xs k)
 |.sc ns,.i k=>wu ((atI ns k).map PV.i)
 |.s z,.i k=>if z.length<=sizeLine then wu ((atI z.cps.toList k).map λc=>.s ⟨#[c]⟩)else .wall
 |.d kvs,y=>wu ((pk y).bind λk=>zK kvs k)
 |_,_=>.wall
def y9(h:zJ C B H R Q (wu o)):∃x,o=some x/\∀v H2,zl H H2->R H2 x v->Q v H2:=by
 cases o with
 |none=>exact h.elim
 |some x=>exact⟨x,rfl,h⟩
def E_:Lf2 W (Lk W.K) pIx:=λM C B H x y v u Q n hx hy q=>by
 unfold pIx at q;split at q
 .obtain⟨x,e,q⟩:=y9 q;obtain⟨p,vs,rfl,_,hl,r⟩:=hx;obtain⟨v,hv,rv⟩:=r.at e;exact .inl (.inl ⟨p,vs,_,v,rfl,hy,SqL.of hl,hv,q v H (zl.refl _) rv⟩)
 .obtain⟨x,e,q⟩:=y9 q;obtain⟨p,vs,rfl,hl,r⟩:=hx;obtain⟨v,hv,rv⟩:=r.at e;exact .inl (.inr (.inl ⟨p,vs,_,v,rfl,hy,hl,hv,q v H (zl.refl _) rv⟩))
 .obtain⟨x,e,q⟩:=y9 q;obtain⟨p,rfl,hl⟩:=hx;obtain⟨z,hz,rfl⟩:=t0.mp e;refine .inl (.inl ⟨p,_,_,.int z,rfl,hy,hl.sq,?_,q _ H (zl.refl _) rfl⟩);unfold atI at hz ⊢;rw[u8];cases c:ixN _ _ with
  |none=>rw[c]at hz;cases hz
  |some j=>rw[c,Option.bind_some]at hz;show(List.map V.int _)[j]?=_;rw[P2,hz];rfl
 .split at q
  .rename_i hl;obtain⟨x,e,q⟩:=y9 q;obtain⟨z,hz,rfl⟩:=t0.mp e;exact .inl (.inr (.inr ⟨_,_,z,hx,hy,hl,hz,q _ H (zl.refl _) rfl⟩))
  .exact q.elim
 .obtain⟨x,e,q⟩:=y9 q;obtain⟨p,es,rfl,_,hl,r⟩:=hx;obtain⟨k,hk,e⟩:=O9.mp e;obtain⟨v,hv,rv⟩:=r.get e;exact .inr ⟨p,v,rfl,by rw[Wd hy hk,<- hv];exact d8.rk hl,q v H (zl.refl _) rv⟩
 .exact q.elim
def H_(hu:X.A.units+1<cLine)(h1:EM X C S w1 a m1)(h2:EM X C S w2 b m2)(hs:V3 b:=by intro _ _;rfl):EM X C S false (.Subscript a b pos) (mOp pIx m1 m2):=λhK=>by obtain⟨ta,a1,a2⟩:=h1 hK;obtain⟨tb,b1,b2⟩:=h2 hK;exact⟨_,BW (Ax.or (eZ hu)) a1 b1 hs,uB (by rw[hK];exact E_) a2 b2⟩
def toV:PV->Option V
 |.i a=>some (.int a)
 |.s a=>some (.str a)
 |.b a=>some (.bl a)
 |.n=>some .non
 |_=>none
def We(h:yG W N M H x v)(e:toV x=some u):v=u/\Vn u=true:=by cases x<;>first|(cases e;exact⟨h,rfl⟩)|cases e
def G5:Option Bool->Option Bool->Option Bool
 |some a,some b=>some (a&&b)
 |_,_=>none
def uE(f:NC):List PV->List PV->Option Bool
 |[],[]=>some true
 |x::xs,y::ys=>G5 (f x y) (uE f xs ys)
 |_,_=>some false
def DY(f:NC)(b:MY):List (Key×PV)->Option Bool
 |[]=>some true
 |kx::r=>match zK b kx.1 with
  |none=>some false
  |some y=>G5 (f kx.2 y) (DY f b r)
def Fb(x y:PV):Option Bool:=match toV x,toV y with|some a,some b=>some (eqV a b)|_,_=>none
def gQ:Nat->PV->PV->Option Bool
 |n+1,.l xs,.l ys=>uE (gQ n) xs ys
 |n+1,.t xs,.t ys=>uE (gQ n) xs ys
 |_,x,y=>Fb x y
def G6(n:Nat):PV->PV->Option Bool
 |.d a,.d b=>if a.length=b.length then DY (gQ n) b a else some false
 |x,y=>gQ n x y
def Q4(h:G5 a b=some c):∃p q,a=some p/\b=some q/\c=(p&&q):=by cases a<;>cases b<;>first|(cases h;done)|(cases h;exact⟨_,_,rfl,rfl,rfl⟩)
def gR{f:NC}:∀{xs ys:MX}{b:Bool},uE f xs ys=some b->xs.length≠ys.length->b=false
 |[],[],_,_,h=>absurd rfl h
 |[],_::_,_,h,_=>by cases h;rfl
 |_::_,[],_,h,_=>by cases h;rfl
 |x::xs,y::ys,b,h,n=>by obtain⟨p,q,_,h2,rfl⟩:=Q4 h;rw[gR h2 (λz=>n (by rw[v4,v4,z])),a2x]
def e9{f:NC}:∀{xs ys:MX}{b:Bool},uE f xs ys=some b->∃e:Nat->Bool,(∀j x y,xs[j]?=some x->ys[j]?=some y->f x y=some (e j))/\b=((List.range (min xs.length ys.length)).all e&&xs.length==ys.length)
 |[],[],b,h=>⟨λ_=>true,(λj x y h=>by simp at h),by cases h;rfl⟩
 |[],_::_,b,h=>⟨λ_=>true,(λj x y h=>by simp at h),by cases h;simp⟩
 |_::_,[],b,h=>⟨λ_=>true,(λj x y _ h=>by simp at h),by cases h;simp⟩
 |x::xs,y::ys,b,h=>by
  obtain⟨p,q,h1,h2,rfl⟩:=Q4 h;obtain⟨e,he,rfl⟩:=e9 h2;refine⟨λj=>match j with|0=>p|j+1=>e j,λj a c ha hc=>?_,?_⟩
  .cases j with
   |zero=>simp only[List.getElem?_cons_zero,Option.some.injEq]at ha hc;subst ha;subst hc;exact h1
   |succ j=>simp only[List.getElem?_cons_succ]at ha hc;exact he j a c ha hc
  .simp only[List.length_cons,Nat.add_min_add_right,List.range_succ_eq_map,List.all_cons,List.all_map,Bool.and_assoc];congr 1;simp[Function.comp_def]
section
variable {X:Cx}{pins:My}{σ:St}{H:Hp}{s:MH}{W:RC}
def Cf(I:Inv X pins σ H s)(hK:W.K=X.K):∀{n:Nat}{x y:PV}{b:Bool}{v:V}{N M N' M':MF},gQ n x y=some b->yG W N M H x v->yG W N' M' H y v->b=true:=by
 have fl:∀{x y:PV}{b:Bool}{v:V}{N M N' M':MF},Fb x y=some b->yG W N M H x v->yG W N' M' H y v->b=true:=by
  intro x y b v N M N' M' h h1 h2;unfold Fb at h;cases ex:toV x with
  |none=>rw[ex]at h;cases h
  |some a=>
   cases ey:toV y with
   |none=>rw[ex,ey]at h;cases h
   |some c=>rw[ex,ey]at h;obtain⟨e1,f1⟩:=We h1 ex;obtain⟨e2,_⟩:=We h2 ey;cases h;rw[<- e1]at f1 ⊢;rw[<- e2];cases v<;>first|rfl|(cases f1;done)|(simp[eqV];done)
 intro n
 induction n with
 |zero=>intro x y b v N M N' M' h;exact fl (by cases x<;>cases y<;>exact h)
 |succ n ih=>
  have its:∀{xs ys:MX}{vs:ML}{b:Bool}{M M':MF},uE (gQ n) xs ys=some b->zI W M H xs vs->zI W M' H ys vs->b=true:=by
   intro xs
   induction xs with
   |nil=>intro ys vs b M M' h h1 h2;cases(show _=_ from h1);cases ys with
    |nil=>cases h;rfl
    |cons y ys=>obtain⟨_,_,e,_⟩:=h2;cases e
   |cons x xs ihx=>
    intro ys vs b M M' h h1 h2;obtain⟨v,r,rfl,hx,hr⟩:=h1;cases ys with
    |nil=>cases(show _=_ from h2)
    |cons y ys=>obtain⟨v',r',e,hy,hr'⟩:=h2;cases e;obtain⟨p,q,hp,hq,rfl⟩:=Q4 h;rw[ih hp (yG.iff.mpr hx) (yG.iff.mpr hy),ihx hq hr hr'];rfl
  intro x y b v N M N' M' h h1 h2;cases x with
  |l xs=>
   cases y with
   |l ys=>obtain⟨p,vs,rfl,_,e,r⟩:=h1;obtain⟨p',vs',e2,_,e',r'⟩:=h2;cases e2;rw[e]at e';cases e';exact its h r r'
   |_=>exact fl h h1 h2
  |t xs=>
   cases y with
   |t ys=>obtain⟨p,vs,rfl,e,r⟩:=h1;obtain⟨p',vs',e2,e',r'⟩:=h2;cases e2;rw[hK]at e e';cases I.bP e e';exact its h r r'
   |_=>exact fl h h1 h2
  |_=>exact fl (by cases y<;>exact h) h1 h2
def AQ(ry:RelV y u)(rx:RelV x v)(fy:Vn y=true)(fx:Vn x=true):SeqAt.RcAt A s u v (eqV y x)/\SeqAt.RcNeAt A s u v (!eqV y x):=by
 cases y with
 |non=>
  cases ry;cases x with
  |non=>cases rx;exact⟨SeqAt.RcAt.none_none,SeqAt.RcNeAt.none_none⟩
  |bl b=>cases rx;exact⟨SeqAt.RcAt.none_bool b,SeqAt.RcNeAt.none_bool b⟩
  |int b=>obtain⟨t,rfl⟩:=rx;exact⟨SeqAt.RcAt.none_int b t,SeqAt.RcNeAt.none_int b t⟩
  |str b=>obtain⟨t,rfl⟩:=rx;exact⟨SeqAt.RcAt.none_str b t,SeqAt.RcNeAt.none_str b t⟩
  |_=>exact absurd (show false=true from fx) O2
 |bl a=>
  cases ry;cases x with
  |non=>cases rx;exact⟨SeqAt.RcAt.bool_none a,SeqAt.RcNeAt.bool_none a⟩
  |bl b=>cases rx;exact⟨SeqAt.RcAt.bool_bool a b,SeqAt.RcNeAt.bool_bool a b⟩
  |int b=>obtain⟨t,rfl⟩:=rx;exact⟨SeqAt.RcAt.bool_int a b t,SeqAt.RcNeAt.bool_int a b t⟩
  |str b=>obtain⟨t,rfl⟩:=rx;exact⟨SeqAt.RcAt.bool_str a b t,SeqAt.RcNeAt.bool_str a b t⟩
  |_=>exact absurd (show false=true from fx) O2
 |int a=>
  obtain⟨t',rfl⟩:=ry;cases x with
  |non=>cases rx;exact⟨SeqAt.RcAt.int_none a t',SeqAt.RcNeAt.int_none a t'⟩
  |bl b=>cases rx;exact⟨SeqAt.RcAt.int_bool a t' b,SeqAt.RcNeAt.int_bool a t' b⟩
  |int b=>obtain⟨t,rfl⟩:=rx;exact⟨SeqAt.RcAt.int_int a t' b t,SeqAt.RcNeAt.int_int a t' b t⟩
  |str b=>obtain⟨t,rfl⟩:=rx;exact⟨SeqAt.RcAt.int_str a t' b t,SeqAt.RcNeAt.int_str a t' b t⟩
  |_=>exact absurd (show false=true from fx) O2
 |str a=>
  obtain⟨t',rfl⟩:=ry;cases x with
  |non=>cases rx;exact⟨SeqAt.RcAt.str_none a t',SeqAt.RcNeAt.str_none a t'⟩
  |bl b=>cases rx;exact⟨SeqAt.RcAt.str_bool a t' b,SeqAt.RcNeAt.str_bool a t' b⟩
  |int b=>obtain⟨t,rfl⟩:=rx;exact⟨SeqAt.RcAt.str_int a t' b t,SeqAt.RcNeAt.str_int a t' b t⟩
  |str b=>obtain⟨t,rfl⟩:=rx;exact⟨SeqAt.RcAt.str_str a t' b t,SeqAt.RcNeAt.str_str a t' b t⟩
  |_=>exact absurd (show false=true from fx) O2
 |_=>exact absurd (show false=true from fy) O2
def ag(h:Fb x y=some b)(h1:yG W N M H x xv)(h2:yG W N' M' H y yv)(ru:RelV xv u)(rv:RelV yv v):
  SeqAt.EqAt A s u v b/\SeqAt.RcAt A s u v b/\SeqAt.RcNeAt A s u v (!b):=by
 unfold Fb at h;cases ex:toV x with
 |none=>rw[ex]at h;cases h
 |some a=>
  cases ey:toV y with
  |none=>rw[ex,ey]at h;cases h
  |some c=>rw[ex,ey]at h;cases h;obtain⟨rfl,f1⟩:=We h1 ex;obtain⟨rfl,f2⟩:=We h2 ey;exact⟨Ay ru rv f1 f2,(AQ ru rv f1 f2).1,(AQ ru rv f1 f2).2⟩
def Cg(I:Inv X pins σ H s)(hK:W.K=X.K):∀(n:Nat){A:Nb}{x y:PV}{b:Bool}{xv yv:V}{u v:Value}{N M N' M':MF},gQ n x y=some b->yG W N M H x xv->yG W N' M' H y yv->RelV xv u->RelV yv v->A.units+n<cLine->
  SeqAt.EqAt A s u v b/\SeqAt.RcAt A s u v b/\SeqAt.RcNeAt A s u v (!b):=by
 intro n
 induction n with
 |zero=>intro A x y b xv yv u v N M N' M' h h1 h2 ru rv _;exact ag (by cases x<;>cases y<;>exact h) h1 h2 ru rv
 |succ n ih=>
  intro A x y b xv yv u v N M N' M' h h1 h2 ru rv hu;have top:∀{p q:Addr},u=.ref p->v=.ref q->xv=.ref p->yv=.ref q->SeqAt.RcAt A s u v b/\SeqAt.RcNeAt A s u v (!b)->SeqAt.EqAt A s u v b/\SeqAt.RcAt A s u v b/\SeqAt.RcNeAt A s u v (!b):=λ{p q} e1 e2 e3 e4 hr=>by
   refine⟨?_,hr⟩;by_cases c:p=q
   .subst c;rw[e1,e2];rw[Cf I hK h (e3▸h1) (e4▸h2)];exact SeqAt.EqAt.same _
   .rw[e1,e2]at hr ⊢;exact SeqAt.EqAt.of_refs c hr.1
  cases x with
  |l xs=>
   cases y with
   |l ys=>
    obtain⟨p,vs,rfl,_,e,r⟩:=h1;obtain⟨p',vs',rfl,_,e',r'⟩:=h2;cases ru;cases rv;refine top rfl rfl rfl rfl ?_;obtain⟨us,r1,p1,_⟩:=I.list (SqL.of e);obtain⟨ws,r2,p2,_⟩:=I.list (SqL.of e');have l1:us.toArray.size=xs.length:=by rw[O4,<- r1.length,r.len]
    have l2:ws.toArray.size=ys.length:=by rw[O4,<- r2.length,r'.len]
    by_cases hl:xs.length=ys.length
    .obtain⟨f,hf,rfl⟩:=e9 h;rw[hl,a0V,Bool.and_true,Nat.min_self,<- hl,<- l1];have it:=gO (A:=A.in1) (e:=f) (s:=s) r1 r2 λj x y u v hx hy ru rv=>by obtain⟨x',hx',rx'⟩:=r.DX hx;obtain⟨y',hy',ry'⟩:=r'.DX hy;exact(ih (A:=A.in1) (hf j x' y' hx' hy') (yG.iff.mpr rx') (yG.iff.mpr ry') ru rv (by show A.units+1+n<cLine;omega)).1
     exact⟨SeqAt.RcAt.lists p1.isList p2.isList (by rw[l1,l2,hl]) (by omega) it,SeqAt.RcNeAt.lists p1.isList p2.isList (by rw[l1,l2,hl]) (by omega) it⟩
    .rw[gR h hl];exact⟨SeqAt.RcAt.lists_lengths p1.isList p2.isList (by rw[l1,l2];simpa using hl) (by omega),SeqAt.RcNeAt.lists_lengths p1.isList p2.isList (by rw[l1,l2];simpa using hl) (by omega)⟩
   |_=>exact ag h h1 h2 ru rv
  |t xs=>
   cases y with
   |t ys=>
    obtain⟨p,vs,rfl,e,r⟩:=h1;obtain⟨p',vs',rfl,e',r'⟩:=h2;cases ru;cases rv;refine top rfl rfl rfl rfl ?_;rw[hK]at e e';obtain⟨us,r1,p1,_⟩:=I.tuple e;obtain⟨ws,r2,p2,_⟩:=I.tuple e';have l1:us.toArray.size=xs.length:=by rw[O4,<- r1.length,r.len]
    have l2:ws.toArray.size=ys.length:=by rw[O4,<- r2.length,r'.len]
    obtain⟨f,hf,rfl⟩:=e9 h;have it:=gO (A:=A.in1) (e:=f) (s:=s) r1 r2 λj x y u v hx hy ru rv=>by obtain⟨x',hx',rx'⟩:=r.DX hx;obtain⟨y',hy',ry'⟩:=r'.DX hy;exact(ih (A:=A.in1) (hf j x' y' hx' hy') (yG.iff.mpr rx') (yG.iff.mpr ry') ru rv (by show A.units+1+n<cLine;omega)).1
    rw[<- l1,<- l2];exact⟨SeqAt.RcAt.tuples p1 p2 (by omega) it,SeqAt.RcNeAt.tuples p1 p2 (by omega) it⟩
   |_=>exact ag h h1 h2 ru rv
  |_=>exact ag (by cases y<;>exact h) h1 h2 ru rv
def Fc{es:MM}{vs:Nv}(r:KV es vs){k:Key}{v:V}(h:KA es k=some v):∃u,valueAt vs k=some u/\RelV v u:=Vm.some_of (v:=v) (o:=valueAt vs k) (by rw[<- h];exact KV.val r k)
def Ci{es:MM}{vs:Nv}(r:KV es vs){k:Key}(h:KA es k=none):valueAt vs k=none:=by
 have:=KV.val r k;rw[h]at this;cases e:valueAt vs k with
 |none=>rfl
 |some u=>rw[e]at this;exact this.elim
def e_(I:Inv X pins σ H s)(hK:W.K=X.K){n:Nat}{A:Nb}(hu:A.units+n<cLine){b:MY}{eb:MM}{vb:Nv}{M M':MF}(rb:qy W M' H b eb)(kb:KV eb vb):
  ∀{a:MY}{ea:MM}{va:Nv}{r:Bool},qy W M H a ea->KV ea va->DY (gQ n) b a=some r->KeqHits A s vb va r
 |[],_,_,_,h,k,e=>by cases(show _=_ from h);cases k;cases e;exact .nil
 |kx::a,_,_,r,h,k,e=>by
  obtain⟨v,q,rfl,h1,h2⟩:=h;cases k with
  |@cons _ u _ us rr kk=>
   obtain⟨k',u⟩:=u;obtain⟨e1,ru⟩:=rr;cases e1;unfold DY at e;cases hy:zK b kx.1 with
   |none=>rw[hy]at e;cases e;exact .miss (Ci kb (rb.G0 hy))
   |some y=>rw[hy]at e;obtain⟨p,q,hp,hq,rfl⟩:=Q4 e;obtain⟨yv,hyv,ry⟩:=rb.get hy;obtain⟨yu,hyu,ryu⟩:=Fc kb hyv;exact .hit hyu (Cg I hK n hp (yG.iff.mpr h1) (yG.iff.mpr ry) ru ryu hu).1 (e_ I hK hu rb kb h2 kk hq)
end
def Ia(W:RC)(neg:Bool):R2:=λxv yv H Q=>∃M x y b,yG W (λ_=>True) M H x xv/\yG W (λ_=>True) M H y yv/\G6 8 x y=some b/\Q (.bl (xor neg b)) H
def oK:(∃a b,x=.d a/\y=.d b)\/G6 n x y=gQ n x y:=by
 cases x with
 |d a=>cases y with
  |d b=>exact .inl ⟨a,b,rfl,rfl⟩
  |_=>exact .inr rfl
 |_=>exact .inr rfl
def AR(hK:W.K=X.K)(hu:X.A.units+64<cLine):OpR X (compareOp .Eq) (Ia W false):=by
 intro pins s σ H xv yv u v Q I ru rv h;obtain⟨M,x,y,b,h1,h2,e,q⟩:=h;rw[a09]at q;rcases oK (n:=8) (x:=x) (y:=y)with⟨a,c,rfl,rfl⟩|z
 .obtain⟨p,es,rfl,_,ha,ra⟩:=h1;obtain⟨p',es',rfl,_,hb,rb⟩:=h2;cases ru;cases rv;obtain⟨_,na,va,ka,da⟩:=Y1 I.hok ha;obtain⟨_,nb,vb,kb,db⟩:=Y1 I.hok hb;have l1:va.length=a.length:=by rw[<- a0o ka];have:=T6 List.length (qy.iff.mp ra).1;simpa using this
  have l2:vb.length=c.length:=by rw[<- a0o kb];have:=T6 List.length (qy.iff.mp rb).1;simpa using this
  have e:(if a.length=c.length then DY (gQ 8) c a else some false)=some b:=e;by_cases hl:a.length=c.length
  .rw[if_pos hl]at e;refine keq_eq na nb da db (by omega) (λ_=>e_ I hK (A:=X.A.in1) (by show X.A.units+1+8<cLine;omega) rb kb ra ka e) ?_;rw[l1,l2,hl,a0V,a2I];exact⟨.bl b,H,I,rfl,q⟩
  .rw[if_neg hl]at e;cases e;refine keq_eq (r:=false) na nb da db (by omega) (λz=>absurd (by rw[<- l1,<- l2,z]) hl) ?_;rw[a2x];exact⟨.bl false,H,I,rfl,q⟩
 .rw[z]at e;exact(Cg I hK 8 e h1 h2 ru rv (by omega)).2.1 _ _ _ _ ⟨.bl b,H,I,rfl,q⟩
def Fd(hK:W.K=X.K)(hu:X.A.units+64<cLine):OpR X (compareOp .NotEq) (Ia W true):=by
 intro pins s σ H xv yv u v Q I ru rv h;obtain⟨M,x,y,b,h1,h2,e,q⟩:=h;rw[a1S]at q;rcases oK (n:=8) (x:=x) (y:=y)with⟨a,c,rfl,rfl⟩|z
 .obtain⟨p,es,rfl,_,ha,ra⟩:=h1;obtain⟨p',es',rfl,_,hb,rb⟩:=h2;cases ru;cases rv;obtain⟨_,na,va,ka,da⟩:=Y1 I.hok ha;obtain⟨_,nb,vb,kb,db⟩:=Y1 I.hok hb;have l1:va.length=a.length:=by rw[<- a0o ka];have:=T6 List.length (qy.iff.mp ra).1;simpa using this
  have l2:vb.length=c.length:=by rw[<- a0o kb];have:=T6 List.length (qy.iff.mp rb).1;simpa using this
  have e:(if a.length=c.length then DY (gQ 8) c a else some false)=some b:=e;by_cases hl:a.length=c.length
  .rw[if_pos hl]at e;refine keq_ne na nb da db (by omega) (λ_=>e_ I hK (A:=X.A.in1) (by show X.A.units+1+8<cLine;omega) rb kb ra ka e) ?_;rw[l1,l2,hl,a0V,a2I];exact⟨.bl (!b),H,I,rfl,q⟩
  .rw[if_neg hl]at e;cases e;refine keq_ne (r:=false) na nb da db (by omega) (λz=>absurd (by rw[<- l1,<- l2,z]) hl) ?_;rw[a2x];exact⟨.bl (!false),H,I,rfl,q⟩
 .rw[z]at e;exact(Cg I hK 8 e h1 h2 ru rv (by omega)).2.2 _ _ _ _ ⟨.bl (!b),H,I,rfl,q⟩
def Vo(neg:Bool)(x y:PV):Out PV:=match G6 8 x y with|some b=>.ok (.b (xor neg b))|none=>.wall
def oM:Lf2 W (Ia W neg) (Vo neg):=λM C B H x y v u Q n hx hy q=>by
 unfold Vo at q;cases e:G6 8 x y with
 |none=>rw[e]at q;exact q.elim
 |some b=>rw[e]at q;exact⟨M,x,y,b,hx,hy,e,q _ H (zl.refl _) rfl⟩
def Ib(hu:X.A.units+64<cLine)(h1:EM X C S w1 a m1)(h2:EM X C S w2 b m2):EM X C S false (.Compare a [.Eq] [b] pos) (mOp (Vo false) m1 m2):=λhK=>cC (AR hK.symm hu) oM h1 h2 (U0 _ (by decide) (by decide)) hK
def uF(hu:X.A.units+64<cLine)(h1:EM X C S w1 a m1)(h2:EM X C S w2 b m2):TM X C S (.Compare a [.Eq] [b] pos) (yH (mOp (Vo false) m1 m2)):=λhK=>qu (AR hK.symm hu) oM h1 h2 (U0 _ (by decide) (by decide)) hK
def uG(hu:X.A.units+64<cLine)(h1:EM X C S w1 a m1)(h2:EM X C S w2 b m2):TM X C S (.Compare a [.NotEq] [b] pos) (yH (mOp (Vo true) m1 m2)):=λhK=>qu (Fd hK.symm hu) oM h1 h2 (U0 _ (by decide) (by decide)) hK
def inP(v:V):List PV->Option Bool
 |[]=>some false
 |y::r=>match toV y,inP v r with
  |some u,some b=>some (eqV u v||b)
  |_,_=>none
def oN{W:RC}{M:MF}{H:Hp}{v:V}:∀{ys:MX}{vs:ML}{b:Bool},zI W M H ys vs->inP v ys=some b->vs.all Vn=true/\inV v vs=b
 |[],_,_,h,e=>by cases(show _=_ from h);cases e;exact⟨rfl,rfl⟩
 |y::ys,_,b,h,e=>by
  obtain⟨u,r,rfl,h1,h2⟩:=h;unfold inP at e;cases hy:toV y with
  |none=>rw[hy]at e;cases e
  |some u'=>
   cases hr:inP v ys with
   |none=>rw[hy,hr]at e;cases e
   |some b'=>rw[hy,hr]at e;cases e;obtain⟨rfl,f⟩:=We (yG.iff.mpr h1) hy;obtain⟨f2,e2⟩:=oN h2 hr;exact⟨by rw[a1R,f,f2];rfl,by unfold inV at e2 ⊢;rw[a0i,e2]⟩
def G7(K:Nh)(neg:Bool):R2:=λx y H Q=>(rIn K neg x y H Q\/∃i j,x=.str i/\y=.str j/\Q (.bl (xor neg (!(Builtin.Str.occurrences j i 0 j.length 1).isEmpty))) H)\/∃a o,y=.ref a/\d8 H a x o/\Q (.bl (xor neg o.isSome)) H
def oO(hu:X.A.units+1<cLine):OpR X (compareOp .In) (G7 X.K false):=by
 intro pins s σ H x y v u Q I rx ry h;rcases h with(h|⟨i,j,e1,e2,q⟩)|⟨a,o,rfl,g,q⟩
 .exact n5 pins s σ H x y v u Q I rx ry h
 .exact nQ pins s σ H x y v u Q I rx ry ⟨i,j,e1,e2,by rw[a09]at q;exact q⟩
 .obtain rfl:u=Value.ref a:=ry;exact L9 hu I g rx λs3 I3=>⟨.bl o.isSome,H,I3,rfl,by rw[a09]at q;exact q⟩
def cE(hu:X.A.units+1<cLine):OpR X (compareOp .NotIn) (G7 X.K true):=by
 intro pins s σ H x y v u Q I rx ry h;rcases h with(h|⟨i,j,e1,e2,q⟩)|⟨a,o,rfl,g,q⟩
 .exact b8 pins s σ H x y v u Q I rx ry h
 .exact b9 pins s σ H x y v u Q I rx ry ⟨i,j,e1,e2,by rw[a1S]at q;exact q⟩
 .obtain rfl:u=Value.ref a:=ry;exact B0 hu I g rx λs3 I3=>⟨.bl (!o.isSome),H,I3,rfl,by rw[a1S]at q;exact q⟩
def pIn(neg:Bool):PV->PV->Out PV
 |x,.l ys=>wu (((toV x).bind λv=>inP v ys).map λb=>.b (xor neg b))
 |x,.t ys=>wu (((toV x).bind λv=>inP v ys).map λb=>.b (xor neg b))
 |.s i,.s j=>.ok (.b (xor neg (!(Builtin.Str.occurrences j i 0 j.length 1).isEmpty)))
 |x,.d kvs=>wu ((pk x).map λk=>.b (xor neg (zK kvs k).isSome))
 |_,_=>.wall
def oP:(if neg=true then !b else b)=xor neg b:=by cases neg<;>simp
def Cj:Lf2 W (G7 W.K neg) (pIn neg):=λM C B H x y v u Q n hx hy q=>by
 unfold pIn at q;split at q
 .obtain⟨z,e,q⟩:=y9 q;obtain⟨b,hb,rfl⟩:=t0.mp e;obtain⟨xv,hxv,hb⟩:=O9.mp hb;obtain⟨p,vs,rfl,_,hl,r⟩:=hy;obtain⟨rfl,f⟩:=We hx hxv;obtain⟨f2,e2⟩:=oN r hb;exact .inl (.inl ⟨p,vs,rfl,.inl (SqL.of hl),f,f2,by rw[e2,oP];exact q _ H (zl.refl _) rfl⟩)
 .obtain⟨z,e,q⟩:=y9 q;obtain⟨b,hb,rfl⟩:=t0.mp e;obtain⟨xv,hxv,hb⟩:=O9.mp hb;obtain⟨p,vs,rfl,hl,r⟩:=hy;obtain⟨rfl,f⟩:=We hx hxv;obtain⟨f2,e2⟩:=oN r hb;exact .inl (.inl ⟨p,vs,rfl,.inr hl,f,f2,by rw[e2,oP];exact q _ H (zl.refl _) rfl⟩)
 .exact .inl (.inr ⟨_,_,hx,hy,q _ H (zl.refl _) rfl⟩)
 .obtain⟨z,e,q⟩:=y9 q;obtain⟨k,hk,rfl⟩:=t0.mp e;obtain⟨p,es,rfl,_,hl,r⟩:=hy;exact .inr ⟨p,_,rfl,by rw[Wd hx hk];exact d8.rk hl,by rw[r.Mf];exact q _ H (zl.refl _) rfl⟩
 .exact q.elim
section
variable {X:Cx}{C:LC}{S:MB}{e a b:MR}{es:MK}{w w1 w2:Bool}{ws:MP}{m m1 m2:ME}{ms:MA}{pos p:Pos}{x:Str}
def Ic(hu:X.A.units+1<cLine)(h1:EM X C S w1 a m1)(h2:EM X C S w2 b m2)(hm:behindInMarks .In b=false:=by with_unfolding_all rfl):EM X C S false (.Compare a [.In] [b] pos) (mOp (pIn false) m1 m2):=λhK=>cC (oO hu) (by rw[hK];exact Cj) h1 h2 hm hK
def Fe(hu:X.A.units+1<cLine)(h1:EM X C S w1 a m1)(h2:EM X C S w2 b m2)(hm:behindInMarks .In b=false:=by with_unfolding_all rfl):TM X C S (.Compare a [.In] [b] pos) (yH (mOp (pIn false) m1 m2)):=λhK=>qu (oO hu) (by rw[hK];exact Cj) h1 h2 hm hK
def Q5(hu:X.A.units+1<cLine)(h1:EM X C S w1 a m1)(h2:EM X C S w2 b m2)(hm:behindInMarks .NotIn b=false:=by with_unfolding_all rfl):TM X C S (.Compare a [.NotIn] [b] pos) (yH (mOp (pIn true) m1 m2)):=λhK=>qu (cE hu) (by rw[hK];exact Cj) h1 h2 hm hK
def uH(W:RC)(M:MF)(H:Hp):List PV->List V->Prop
 |[],vs=>vs=[]
 |x::xs,vs=>∃v r,vs=v::r/\yG W (λ_=>True) M H x v/\uH W M H xs r
def RVs.weak{B:Bs}{P:MN}{H:Hp}:∀{ws:MP}{xs:MX}{vs:ML},RVs C B S P H ws xs vs->uH C.W (Mof B S P) H xs vs
 |[],_,_,⟨e1,e2⟩=>by subst e1;subst e2;rfl
 |w::ws,_,_,⟨x,v,xr,vr,e1,e2,h1,h2⟩=>by subst e1;subst e2;exact⟨v,vr,rfl,h1.weak,RVs.weak h2⟩
def LfC(W:RC)(r:List V->Hp->VK->Prop)(p:MU):Prop:=∀(M:MF)(C:LC)(B:Bs) H xs vs Q,New M H->uH W M H xs vs->zJ C B H (Rep W M) Q (p xs)->r vs H Q
def LfF(W:RC)(r:List V->Hp->VK->Prop)(p:MU):Prop:=∀(M:MF)(C:LC)(B:Bs) H xs vs Q,New M H->uH W M H xs vs->zJ C B H (RFr W M H) Q (p xs)->r vs H Q
def zj(g:MU)(ms:MA):ME:=λρ=>(ms ρ).bind g
def Ff(L:LfC C.W r g)(h:LA C S ws ta ms):LE C S false (tCB r ta) (zj g ms):=λB P H σ ρ R Q q=>
 h B P H σ ρ R _ (yM q λxs vs H1 s1 r1 q1=>L _ C B H1 xs vs Q (R.keep s1).new r1.weak (RV.eq▸q1))
def kB(h:zJ C B H (RFr W M H) Q o)(s:zl H H2):zJ C B H2 (RFr W M H2) Q o:=by
 cases o with
 |ok x=>exact λv H3 s3 hx=>h v H3 (s.trans s3) (let⟨p,e,hp,hr⟩:=hx;⟨p,e,zl.none s hp,hr⟩)
 |exc c fs=>exact h
 |wall=>exact h
def wL(h:zJ C B H (RFr W M H) Q (o.bind f))(k:∀r v H2,zl H H2->R' H2 r v->zJ C B H2 (RFr W M H2) Q (f r)->Q' v H2):mq C B H R' Q' o:=by
 cases o with
 |ok r=>exact λv H2 s hr=>k r v H2 s hr (kB (o:=f r) h s)
 |exc c fs=>exact h
 |wall=>exact h
def wM(h:zJ C B H (RFr W M H) Q (o.bind f))(k:∀r v H2,zl H H2->R' H2 r v->zJ C B H2 (RFr W M H2) Q (f r)->Q' v H2):zJ C B H R' Q' o:=by
 cases o with
 |ok r=>exact λv H2 s hr=>k r v H2 s hr (kB (o:=f r) h s)
 |exc c fs=>exact h
 |wall=>exact h
def Fg(L:LfF C.W r g)(h:LA C S ws ta ms):LFr C S (tCB r ta) (zj g ms):=λB P H σ ρ R Q q=>
 h B P H σ ρ R _ (wL q λxs vs H1 s1 r1 q1=>L _ C B H1 xs vs Q (R.keep s1).new r1.weak q1)
def ai{id:String}{r:List V->Hp->VK->Prop}{g:MU}(hc:X.K=C.W.K->wq X (.builtin id) r)(L:LfC C.W r g)(hg:Gl X x)(hm:X.mg x=none)(hv:bootBuiltins x=some (.builtin id))(ha:AM X C S ws (e::es) ms)(hn:x≠"__name__":=by decide)(hdb:(x==("__debug__":Str))=false:=by decide)
  (he:starEach (e::es) X.env=(false,eval e X.env)::starEach es X.env:=by rfl) (hpl:(backTo pos (starEach es X.env)).any (·.1)=false:=by rfl):EM X C S false (.Call (.Name x p) (e::es) [] pos) (zj g ms):=λhK=>by
 obtain⟨ta,a1,a2⟩:=ha hK;exact⟨_,gD (hc hK) hg hm hv a1 hn hdb he hpl,Ff L a2⟩
def uI{id:String}{r:List V->Hp->VK->Prop}{g:MU}(hc:X.K=C.W.K->wq X (.type id) r)(L:LfC C.W r g)(hg:Gl X x)(hm:X.mg x=none)(hv:bootBuiltins x=some (.type id))(ha:AM X C S ws (e::es) ms)(hn:x≠"__name__":=by decide)(hdb:(x==("__debug__":Str))=false:=by decide)
  (he:starEach (e::es) X.env=(false,eval e X.env)::starEach es X.env:=by rfl) (hpl:(backTo pos (starEach es X.env)).any (·.1)=false:=by rfl):EM X C S false (.Call (.Name x p) (e::es) [] pos) (zj g ms):=λhK=>by
 obtain⟨ta,a1,a2⟩:=ha hK;exact⟨_,V2 (hc hK) hg hm hv a1 hn hdb he hpl,Ff L a2⟩
def gS{id:String}{r:List V->Hp->VK->Prop}{g:MU}(hc:X.K=C.W.K->wq X (.type id) r)(L:LfF C.W r g)(hg:Gl X x)(hm:X.mg x=none)(hv:bootBuiltins x=some (.type id))(ha:AM X C S ws (e::es) ms)(hn:x≠"__name__":=by decide)(hdb:(x==("__debug__":Str))=false:=by decide)
  (he:starEach (e::es) X.env=(false,eval e X.env)::starEach es X.env:=by rfl) (hpl:(backTo pos (starEach es X.env)).any (·.1)=false:=by rfl):FM X C S (.Call (.Name x p) (e::es) [] pos) (zj g ms):=λhK=>by
 obtain⟨ta,a1,a2⟩:=ha hK;exact⟨_,V2 (hc hK) hg hm hv a1 hn hdb he hpl,Fg L a2⟩
end
def Us:List PV->Out PV
 |[.l xs]=>.ok (.i xs.length)
 |[.t xs]=>.ok (.i xs.length)
 |[.sc xs]=>.ok (.i xs.length)
 |[.d xs]=>.ok (.i xs.length)
 |[.s z]=>if z.length<=sizeLine then .ok (.i z.length)else .wall
 |_=>.wall
def qy.len(h:qy W M H a es):es.length=a.length:=by have:=T6 List.length (qy.iff.mp h).1;simpa using this
def Fh(K:Nh):List V->Hp->VK->Prop:=λxs H Q=>(∃x n,xs=[x]/\Lc K x H n/\Q (.int n) H)\/∃a kvs,xs=[V.ref a]/\Rd H a (.dK kvs)/\Q (.int kvs.length) H
def oQ:wq X (.builtin "len") (λxs H Q=>∃a kvs,xs=[V.ref a]/\Rd H a (.dK kvs)/\Q (.int kvs.length) H):=by intro pins s σ H xs us Q I r h;obtain⟨a,kvs,rfl,e,q⟩:=h;obtain⟨u,rfl,ru⟩:=vals1 r;cases ru;exact HI I e λt s' I'=>⟨.int _,H,I',⟨t,rfl⟩,q⟩
def Fi:LfC W (Fh W.K) Us:=λM C B H xs vs Q n h q=>by
 unfold Us at q;split at q
 .obtain⟨v,r,rfl,⟨p,vs,rfl,_,hl,rr⟩,hr⟩:=h;cases(show _=_ from hr);exact .inl ⟨_,vs.length,rfl,.inl ⟨vs,SqL.of hl,rfl⟩,q _ H (zl.refl _) (by rw[rr.len];rfl)⟩
 .obtain⟨v,r,rfl,⟨p,vs,rfl,hl,rr⟩,hr⟩:=h;cases(show _=_ from hr);exact .inl ⟨_,vs.length,rfl,.inr ⟨vs,hl,rfl⟩,q _ H (zl.refl _) (by rw[rr.len];rfl)⟩
 .obtain⟨v,r,rfl,⟨p,rfl,hl⟩,hr⟩:=h;cases(show _=_ from hr);exact .inl ⟨_,_,rfl,.inl ⟨_,hl.sq,rfl⟩,q _ H (zl.refl _) (by rw[u8];rfl)⟩
 .obtain⟨v,r,rfl,⟨p,es,rfl,_,hl,rr⟩,hr⟩:=h;cases(show _=_ from hr);exact .inr ⟨_,es,rfl,hl,q _ H (zl.refl _) (by rw[rr.len];rfl)⟩
 .split at q
  .rename_i hz;obtain⟨v,r,rfl,hx,hr⟩:=h;cases(show _=_ from hr);cases(show _=_ from hx);exact .inl ⟨_,_,rfl,⟨hz,rfl⟩,q _ H (zl.refl _) rfl⟩
  .exact q.elim
 .exact q.elim
def ZU(hg:Gl X "len")(hm:X.mg "len"=none)(ha:AM X C S ws [e] ms)(he:starEach [e] X.env=[(false,eval e X.env)]:=by rfl):EM X C S false (.Call (.Name "len" p) [e] [] pos) (zj Us ms):=
 ai (r:=Fh C.W.K) (λhK=>hK▸t6.or oQ) Fi hg hm PySem.boot_len ha (he:=he)
def Ck:List PV->Out PV
 |[.l xs]=>.ok (.l xs)
 |[.t xs]=>.ok (.l xs)
 |[.sc xs]=>.ok (.l (xs.map PV.i))
 |_=>.wall
def ZV(r:zI W M H xs vs)(hl:H l=none):RFr W M H (upd H l (.lst vs)) (.l xs) (.ref l):=
 ⟨l,rfl,hl,vs,zd,(r.sub λa m n=>⟨m,λz=>n (z▸hl)⟩).same (zl.upd hl)⟩
def Cm(r:qy W M H xs vs)(hl:H l=none):RFr W M H (upd H l (.dK vs)) (.d xs) (.ref l):=
 ⟨l,rfl,hl,vs,zd,(r.sub λa m n=>⟨m,λz=>n (z▸hl)⟩).same (zl.upd hl)⟩
def Cn:LfF W (λxs H Q=>∃p ys,xs=[.ref p]/\(SqL W.K H p ys\/SqT W.K H p ys)/\∀l,H l=none->Q (.ref l) (upd H l (.lst ys))) Ck:=λM C B H xs vs Q n h q=>by
 unfold Ck at q;split at q
 .obtain⟨v,r,rfl,⟨p,vs,rfl,_,hl,rr⟩,hr⟩:=h;cases(show _=_ from hr);exact⟨p,vs,rfl,.inl (SqL.of hl),λl hl=>q _ _ (zl.upd hl) (ZV rr hl)⟩
 .obtain⟨v,r,rfl,⟨p,vs,rfl,hl,rr⟩,hr⟩:=h;cases(show _=_ from hr);exact⟨p,vs,rfl,.inr hl,λl hl=>q _ _ (zl.upd hl) (ZV rr hl)⟩
 .obtain⟨v,r,rfl,⟨p,rfl,hl⟩,hr⟩:=h;cases(show _=_ from hr);exact⟨p,_,rfl,.inl hl.sq,λl hl=>q _ _ (zl.upd hl) (ZV zI.ints hl)⟩
 .exact q.elim
def toI:PV->Option Int
 |.i a=>some a
 |_=>none
def Fj:List PV->Option (List Int)
 |[]=>some []
 |x::r=>match toI x,Fj r with|some a,some b=>some (a::b)|_,_=>none
def oR{W:RC}{M:MF}{H:Hp}:∀{xs:MX}{vs:ML}{ns:Nc},zI W M H xs vs->Fj xs=some ns->vs=ns.map V.int
 |[],_,_,h,e=>by cases(show _=_ from h);cases e;rfl
 |x::xs,_,ns,h,e=>by
  obtain⟨v,r,rfl,h1,h2⟩:=h;unfold Fj at e;cases x with
  |i a=>
   cases hr:Fj xs with
   |none=>rw[hr]at e;cases e
   |some b=>rw[hr]at e;cases e;rw[N5,<- oR h2 hr,(show v=_ from h1)]
  |_=>cases e
def uJ:List Int->Int
 |[]=>0
 |[a]=>a
 |a::r=>max a (uJ r)
def gU:∀{ns:Nc},ns≠[]->uJ ns∈ns
 |[],h=>absurd rfl h
 |[a],_=>by simp[uJ]
 |a::b::r,_=>by
  have ih:=gU (ns:=b::r) (by simp);show max a (uJ (b::r))∈_;rcases Int.le_total a (uJ (b::r))with h|h
  .rw[Int.max_eq_right h];exact M8 _ ih
  .rw[Int.max_eq_left h];exact M3
def oS:∀{ns:Nc}{a:Int},a∈ns->a<=uJ ns
 |[],_,h=>by cases h
 |[b],a,h=>by simp at h;subst h;exact a0H _
 |b::c::r,a,h=>by
  show a<=max b (uJ (c::r));rcases O5.mp h with rfl|h
  .exact Int.le_max_left ..
  .exact Int.le_trans (oS h) (Int.le_max_right ..)
def DZ:List PV->Out PV
 |[.i a,.i b]=>.ok (.i (max a b))
 |[.l xs]=>wu ((Fj xs).bind λns=>if ns=[]then none else some (.i (uJ ns)))
 |_=>.wall
def aj:List PV->Out PV
 |[.i a,.i b]=>.ok (.i (min a b))
 |_=>.wall
def Fm:LfC W (λxs H Q=>∃i j,xs=[.int i,.int j]/\Q (.int (if j<i then j else i)) H) aj:=λM C B H xs vs Q n h q=>by
 unfold aj at q;split at q
 .obtain⟨v,r,rfl,hx,v2,r2,rfl,hx2,hr⟩:=h;cases(show _=_ from hr);cases(show _=_ from hx);cases(show _=_ from hx2);exact⟨_,_,rfl,q _ H (zl.refl _) (by show V.int _=V.int _;congr 1;omega)⟩
 .exact q.elim
def Fn:LfC W (λxs H Q=>(∃i j,xs=[.int i,.int j]/\Q (.int (if j>i then j else i)) H)\/E2 W.K xs H Q) DZ:=λM C B H xs vs Q n h q=>by
 unfold DZ at q;split at q
 .obtain⟨v,r,rfl,hx,v2,r2,rfl,hx2,hr⟩:=h;cases(show _=_ from hr);cases(show _=_ from hx);cases(show _=_ from hx2);exact .inl ⟨_,_,rfl,q _ H (zl.refl _) (by show V.int _=V.int _;congr 1;omega)⟩
 .obtain⟨z,e,q⟩:=y9 q;obtain⟨ns,hn,e⟩:=O9.mp e;by_cases hz:ns=[]
  .rw[if_pos hz]at e;cases e
  .rw[if_neg hz]at e;cases e;obtain⟨v,r,rfl,⟨p,vs,rfl,_,hl,rr⟩,hr⟩:=h;cases(show _=_ from hr);rw[oR rr hn]at hl;refine .inr ⟨p,ns,rfl,SqL.of hl,hz,λM hM hM2=>?_⟩;have:M=uJ ns:=Int.le_antisymm (oS hM) (hM2 _ (gU hz));rw[this];exact q _ H (zl.refl _) rfl
 .exact q.elim
def AS(hc:X.calm=true)(hg:Gl X "max")(hm:X.mg "max"=none)(ha:AM X C S ws (e::es) ms)(he:starEach (e::es) X.env=(false,eval e X.env)::starEach es X.env:=by rfl)(hpl:(backTo pos (starEach es X.env)).any (·.1)=false:=by rfl):EM X C S false (.Call (.Name "max" p) (e::es) [] pos) (zj DZ ms):=
 ai (λhK=>hK▸(nS hc).or (oB hc)) Fn hg hm PyProof.Rows.boot_max ha (he:=he) (hpl:=hpl)
def gX(hc:X.calm=true)(hg:Gl X "min")(hm:X.mg "min"=none)(ha:AM X C S ws (e::es) ms)(he:starEach (e::es) X.env=(false,eval e X.env)::starEach es X.env:=by rfl)(hpl:(backTo pos (starEach es X.env)).any (·.1)=false:=by rfl):EM X C S false (.Call (.Name "min" p) (e::es) [] pos) (zj aj ms):=
 ai (λhK=>nU hc) Fm hg hm PyProof.Rows.boot_min ha (he:=he) (hpl:=hpl)
def qS(W:RC)(M:MF)(H:Hp):List Bool->List PV->List V->Prop
 |[],xs,vs=>xs=[]/\vs=[]
 |w::ws,xs,vs=>∃x v xr vr,xs=x::xr/\vs=v::vr/\yG W (if w=true then λ_=>True else M) M H x v/\qS W M H ws xr vr
def RVs.args{C:LC}{B:Bs}{S:MB}{P:MN}{H:Hp}:∀{ws:MP}{xs:MX}{vs:ML},RVs C B S P H ws xs vs->qS C.W (Mof B S P) H ws xs vs
 |[],_,_,h=>h
 |w::ws,_,_,⟨x,v,xr,vr,e1,e2,h1,h2⟩=>⟨x,v,xr,vr,e1,e2,h1,RVs.args h2⟩
def qS.len{W:RC}{M:MF}{H:Hp}:∀{ws:MP}{xs:MX}{vs:ML},qS W M H ws xs vs->vs.length=ws.length/\xs.length=ws.length
 |[],_,_,⟨e1,e2⟩=>by subst e1;subst e2;exact⟨rfl,rfl⟩
 |w::ws,_,_,⟨x,v,xr,vr,e1,e2,h1,h2⟩=>by subst e1;subst e2;exact⟨by rw[v4,v4,(qS.len h2).1],by rw[v4,v4,(qS.len h2).2]⟩
def qS.same{W:RC}{M:MF}{H H':Hp}(s:zl H H'):∀{ws:MP}{xs:MX}{vs:ML},qS W M H ws xs vs->qS W M H' ws xs vs
 |[],_,_,h=>h
 |w::ws,_,_,⟨x,v,xr,vr,e1,e2,h1,h2⟩=>⟨x,v,xr,vr,e1,e2,h1.same s,qS.same s h2⟩
def RtV(W:RC)(fr:Bool)(M:MF)(H H2:Hp)(r:PV)(v:V):Prop:=if fr=true then RFr W (λa=>M a\/H a=none) H H2 r v else Rep W (λa=>M a\/H a=none) H2 r v
def Ie(W:RC)(fr:Bool)(M:MF)(H:Hp)(Q:VK)(E:XK):Out PV->Prop
 |.ok r=>∀v H2,zl H H2->RtV W fr M H H2 r v->Q v H2
 |.exc c fs=>∀e dx es H2,zl H H2->H2 e=some (XC e (W.cls c) dx)->H2 dx=some (XD dx es)->jq W (λa=>M a\/H a=none) H2 fs es->E (.ref e) (some dx) H2
 |.wall=>False
def lsp(W:RC)(fr:Bool)(ws:MP)(g:MU):Sp:=λvs H Q E=>∃M xs,qS W M H ws xs vs/\Ie W fr M H Q E (g xs)
def Co{W:RC}{fr:Bool}{ws:MP}{g:MU}{n:Nat}(h:ws.length=n):∀vs H Q E,lsp W fr ws g vs H Q E->vs.length=n:=λvs H Q E ⟨M,xs,a,_⟩=>a.len.1.trans h
def RFr.sub(h:RFr W M H H2 x v)(s:∀a,M a->M' a):RFr W M' H H2 x v:=by obtain⟨p,e,hp,h⟩:=h;exact⟨p,e,hp,h.gen rfl Fr.refl λa m _=>⟨s a m.1,m.2⟩⟩
section
variable {X:Cx}{C:LC}{S:MB}{e a b o:MR}{es:MK}{w w1 w2 fr:Bool}{ws:MP}{m m1 m2:ME}{ms:MA}{pos p jo:Pos}{x mn:Str}{k:Nat}{f:Addr}{fd:Na}{ps:MD}{g:MU}
def oU(R:Rel C.W B S P H σ ρ)(q:XPo C B c fs):∀e dx es H2,zl H H2->H2 e=some (XC e (C.W.cls c) dx)->H2 dx=some (XD dx es)->jq C.W (λa=>Mof B S P a\/H a=none) H2 fs es->C.E (.ref e) (some dx) H2:=
 λe dx es H2 s h1 h2 h3=>q e dx es H2 (R.same.trans s) h1 h2 (h3.sub λa m _=>m.elim (λm=>m.1.1) λn=>.inr (zl.none R.same n))
def AU{B:Bs}{P:MN}{H:Hp}{σ:St}{ρ:Sto}{Q:VK}{o:Out PV}(R:Rel C.W B S P H σ ρ)(q:zJ C B H (RV C B S P false) Q o):Ie C.W fr (Mof B S P) H Q C.E o:=by
 have sM:∀a,(Mof B S P a\/H a=none)->Mof B S P a:=λa m=>m.elim id λn=>R.new a n;cases o with
 |ok r=>
  intro v H2 s hr;refine q v H2 s (RV.of ?_);unfold RtV at hr;cases fr with
  |true=>rw[if_pos rfl]at hr;exact(hr.sub sM).rep R.new
  |false=>rw[if_neg O2]at hr;exact hr.sub λa m _=>sM a m
 |exc c fs=>exact oU R q
 |wall=>exact q
def oW{B:Bs}{P:MN}{H:Hp}{σ:St}{ρ:Sto}{Q:VK}{o:Out PV}(R:Rel C.W B S P H σ ρ)(q:zJ C B H (RFr C.W (Mof B S P) H) Q o):Ie C.W true (Mof B S P) H Q C.E o:=by
 have sM:∀a,(Mof B S P a\/H a=none)->Mof B S P a:=λa m=>m.elim id λn=>R.new a n;cases o with
 |ok r=>intro v H2 s hr;unfold RtV at hr;rw[if_pos rfl]at hr;exact q v H2 s (hr.sub sM)
 |exc c fs=>exact oU R q
 |wall=>exact q
def Cp(F:y8 X.prog X.w X.K X.mg X.base (CXe X.prog X.w) k f fd ps (lsp C.W fr ws g))(hr:qQ k X.A)(hg:Gl X x)(hm:X.mg x=some (.ref f))(hk:keepIn X.K (.ref f)=true)(hb:Binds X.K fd ps [])(hx:Passes (CXe X.prog X.w) X C.E)(ha:AM X C S ws (e::es) ms)
  (hdb:(x==("__debug__":Str))=false:=by decide) (he:starEach (e::es) X.env=(false,eval e X.env)::starEach es X.env:=by rfl) (hpl:(backTo pos (starEach es X.env)).any (·.1)=false:=by rfl):EM X C S false (.Call (.Name x p) (e::es) [] pos) (zj g ms):=λhK=>by
 obtain⟨ta,a1,a2⟩:=ha hK;refine⟨_,eF F hr hg hm hk hb .nil hx a1 hdb he hpl,λB P H σ ρ R Q q=>a2 B P H σ ρ R _ (yM q λxs vs H1 s1 r1 q1=>?_)⟩;rw[P4];exact⟨_,xs,r1.args,AU (R.keep s1) q1⟩
def ZW(F:y8 X.prog X.w X.K X.mg X.base (CXe X.prog X.w) k f fd ps (lsp C.W true ws g))(hr:qQ k X.A)(hg:Gl X x)(hm:X.mg x=some (.ref f))(hk:keepIn X.K (.ref f)=true)(hb:Binds X.K fd ps [])(hx:Passes (CXe X.prog X.w) X C.E)(ha:AM X C S ws (e::es) ms)
  (hdb:(x==("__debug__":Str))=false:=by decide) (he:starEach (e::es) X.env=(false,eval e X.env)::starEach es X.env:=by rfl) (hpl:(backTo pos (starEach es X.env)).any (·.1)=false:=by rfl):FM X C S (.Call (.Name x p) (e::es) [] pos) (zj g ms):=λhK=>by
 obtain⟨ta,a1,a2⟩:=ha hK;refine⟨_,eF F hr hg hm hk hb .nil hx a1 hdb he hpl,λB P H σ ρ R Q q=>a2 B P H σ ρ R _ (wL q λxs vs H1 s1 r1 q1=>?_)⟩;rw[P4];exact⟨_,xs,r1.args,oW (R.keep s1) q1⟩
def Wf(cs:MB)(f:Str)(m:ME):ME:=λρ=>(m ρ).bind λx=>match x with
 |.o c fs=>if c∈cs then wu (fs.lookup f)else .wall
 |_=>.wall
def Fo(cs:MB)(f:Str)(m:ME):ME:=λρ=>(m ρ).bind λx=>match x with
 |.x c fs=>if c∈cs then wu (fs.lookup f)else .wall
 |_=>.wall
def Q6(h:EM X C S w e m)(hc:∀c∈cs,Cls X.K (C.W.cls c)/\j8 X.K (C.W.cls c) fn)(hb:attributeBase e fn X.env (eval e X.env)=eval e X.env:=by rfl):EM X C S false (.Attribute e fn pos) (Wf cs fn m):=λhK=>by
 obtain⟨te,a1,a2⟩:=h hK;refine⟨_,Au a1 hb,λB P H σ ρ R Q q=>a2 B P H σ ρ R _ (zV q λx v H1 s1 r1 q1=>?_)⟩;cases x with
 |o c fs=>
  obtain⟨p,dx,es,rfl,_,hp,hf⟩:=r1;by_cases hcs:c∈cs
  .have q1:zJ C B H1 (RV C B S P false) Q (if c∈cs then wu (fs.lookup fn)else .wall):=q1;rw[if_pos hcs]at q1;obtain⟨y,e,q1⟩:=y9 q1;obtain⟨v,hv,rv⟩:=hf.lookup e;exact⟨p,_,dx,es,v,rfl,hp,(hc c hcs).1,(hc c hcs).2,hv,q1 v H1 (zl.refl _) (RV.of rv)⟩
  .have q1:zJ C B H1 (RV C B S P false) Q (if c∈cs then wu (fs.lookup fn)else .wall):=q1;rw[if_neg hcs]at q1;exact q1.elim
 |_=>exact q1.elim
def Cq(h:EM X C S w e m)(hc:∀c∈cs,ZQ X.K (C.W.cls c)/\findIn X.K (.ref (C.W.cls c)) fn=some none)(hb:attributeBase e fn X.env (eval e X.env)=eval e X.env:=by rfl):EM X C S false (.Attribute e fn pos) (Fo cs fn m):=λhK=>by
 obtain⟨te,a1,a2⟩:=h hK;refine⟨_,B7 a1 hb,λB P H σ ρ R Q q=>a2 B P H σ ρ R _ (zV q λx v H1 s1 r1 q1=>?_)⟩;cases x with
 |x c fs=>
  obtain⟨p,dx,es,rfl,hp,hd,hf⟩:=r1;by_cases hcs:c∈cs
  .have q1:zJ C B H1 (RV C B S P false) Q (if c∈cs then wu (fs.lookup fn)else .wall):=q1;rw[if_pos hcs]at q1;obtain⟨y,e,q1⟩:=y9 q1;obtain⟨v,hv,rv⟩:=hf.lookup e;exact⟨p,_,dx,es,v,rfl,(hc c hcs).1,(hc c hcs).2,.inl hp,hd,hv,q1 v H1 (zl.refl _) (RV.of rv)⟩
  .have q1:zJ C B H1 (RV C B S P false) Q (if c∈cs then wu (fs.lookup fn)else .wall):=q1;rw[if_neg hcs]at q1;exact q1.elim
 |_=>exact q1.elim
def QL(tab:List (Nat×(List PV->Out PV)))(mn:Str)(m:ME)(ms:MA):ME:=λρ=>(m ρ).bind λx=>match x with
 |.o c fs=>match tab.lookup c with
  |some g=>if(fs.lookup mn).isSome=true then .wall else(ms ρ).bind λxs=>g (x::xs)
  |none=>.wall
 |_=>.wall
def G8(W:RC)(fr:Bool)(ws:MP)(tab:List (Nat×(List PV->Out PV)))(K:Addr)(sp:Sp):Prop:=∃q∈tab,K=W.cls q.1/\sp=lsp W fr (true::ws) q.2
def lookup_mem{α:Type}:∀{tab:List (Nat×α)}{c:Nat}{g:α},tab.lookup c=some g->(c,g)∈tab
 |[],_,_,h=>by cases h
 |q::r,c,g,h=>by
  rw[S5]at h;by_cases e:(c==q.1)=true
  .simp only[e]at h;cases h;rw[R8.mp e];exact M3
  .simp only[e]at h;exact M8 _ (lookup_mem h)
def oX{B:Bs}{P:MN}{H:Hp}{σ:St}{ρ:Sto}{Q:VK}{c:Nat}{fs:MZ}{v:V}{tab:List (Nat×(List PV->Out PV))}{t:TA}(R:Rel C.W B S P H σ ρ)(r1:RV C B S P w H (.o c fs) v)
  (ht:∀g,tab.lookup c=some g->fs.lookup mn=none->t σ H λvs H2=>lsp C.W fr (true::ws) g (v::vs) H2 Q C.E)
  (q:(∃g,tab.lookup c=some g/\fs.lookup mn=none)):∃a dx es K sp,G8 C.W fr ws tab K sp/\v=.ref a/\H a=some (.ins K dx es)/\es.lookup mn=none/\t σ H λvs H2=>sp (v::vs) H2 Q C.E:=by
 obtain⟨g,hg,hn⟩:=q;have h:=ht g hg hn;obtain⟨p,dx,es,rfl,_,hp,hf⟩:=r1;exact⟨p,dx,es,_,_,⟨(c,g),lookup_mem hg,rfl,rfl⟩,rfl,hp,hf.oF hn,h⟩
def RVs.consW{B:Bs}{P:MN}{H:Hp}{x:PV}{v:V}{xs:MX}{vs:ML}(h:RV C B S P w H x v)(t:RVs C B S P H ws xs vs):qS C.W (Mof B S P) H (true::ws) (x::xs) (v::vs):=⟨x,v,xs,vs,rfl,rfl,by rw[if_pos rfl];exact h.weak,t.args⟩
def ak(h:EM X C S w o m)(hal:∀K sp,G8 C.W fr ws tab K sp->DW X.prog X.w X.K X.mg X.base X.A mn K sp)(hx:Passes (CXe X.prog X.w) X C.E)(ha:AM X C S ws (e::es) ms)
  (hst:starEach (e::es) X.env=(false,eval e X.env)::starEach es X.env:=by rfl) (hpl:(backTo pos (starEach es X.env)).any (·.1)=false:=by rfl)
  (ht:eval (.Call (.Attribute o mn jo) (e::es) [] pos) X.env=(do
   let ov<-eval o X.env
   standAt jo.atName
   let(f,first)<-holding [ov] (getMethod ov mn pl)
   callWith pos f first (backTo pos (starEach (e::es) X.env)) (backToKw pos (keywordEach [] X.env))):=by rfl):EM X C S false (.Call (.Attribute o mn jo) (e::es) [] pos) (QL tab mn m ms):=λhK=>by
 obtain⟨to,o1,o2⟩:=h hK;obtain⟨ta,a1,a2⟩:=ha hK;refine⟨_,uA (pl:=pl) o1 hal hx a1 hst hpl ht,λB P H σ ρ R Q q=>o2 B P H σ ρ R _ (zV q λx v H1 s1 r1 q1=>?_)⟩;cases x with
 |o c fs=>
  dsimp only at q1;cases hg:tab.lookup c with
  |none=>rw[hg]at q1;exact q1.elim
  |some g=>
   rw[hg]at q1;dsimp only at q1;cases hn:fs.lookup mn with
   |some z=>rw[hn]at q1;exact q1.elim
   |none=>rw[hn]at q1;have q1:zJ C B H1 (RV C B S P false) Q ((ms ρ).bind λxs=>g (.o c fs::xs)):=q1;refine oX (R.keep s1) r1 (λg' hg' _=>?_) ⟨g,hg,hn⟩;rw[hg]at hg';cases hg';exact a2 B P H1 σ ρ (R.keep s1) _ (yM q1 λxs vs H2 s2 r2 q2=>⟨_,_,RVs.consW (RV.same r1 s2) r2,AU ((R.keep s1).keep s2) q2⟩)
 |_=>exact q1.elim
def uK(h:EM X C S w o m)(hal:∀K sp,G8 C.W true [] tab K sp->DW X.prog X.w X.K X.mg X.base X.A mn K sp)(hx:Passes (CXe X.prog X.w) X C.E)
  (ht:eval (.Call (.Attribute o mn jo) [] [] pos) X.env=(do
   let ov<-eval o X.env
   standAt jo.atName
   let(f,first)<-holding [ov] (getMethod ov mn pl)
   callWith pos f first (backTo pos (starEach [] X.env)) (backToKw pos (keywordEach [] X.env))):=by rfl):FM X C S (.Call (.Attribute o mn jo) [] [] pos) (QL tab mn m zq):=λhK=>by
 obtain⟨to,o1,o2⟩:=h hK;refine⟨_,oC (pl:=pl) o1 hal hx ht,λB P H σ ρ R Q q=>o2 B P H σ ρ R _ (wM q λx v H1 s1 r1 q1=>?_)⟩;cases x with
 |o c fs=>
  dsimp only at q1;cases hg:tab.lookup c with
  |none=>rw[hg]at q1;exact q1.elim
  |some g=>
   rw[hg]at q1;dsimp only at q1;cases hn:fs.lookup mn with
   |some z=>rw[hn]at q1;exact q1.elim
   |none=>rw[hn]at q1;refine oX (R.keep s1) r1 (λg' hg' _=>?_) ⟨g,hg,hn⟩;rw[hg]at hg';cases hg';exact⟨_,_,RVs.consW (ws:=[]) r1 ⟨rfl,rfl⟩,oW (R.keep s1) q1⟩
 |_=>exact q1.elim
def erase(H:Hp)(x:Addr):Hp:=λa=>if a=x then none else H a
def Ll(W:RC)(M:MF)(H:Hp)(x:Addr)(Q:VK)(E:XK):Out PV->Prop
 |.ok r=>∀H2,zl (erase H x) H2->ae W (λa=>(M a\/erase H x a=none)/\a≠x) H2 x r->Q .non H2
 |.exc c fs=>∀e dx es H2,zl (erase H x) H2->H2 e=some (XC e (W.cls c) dx)->H2 dx=some (XD dx es)->jq W (λa=>M a\/erase H x a=none) H2 fs es->E (.ref e) (some dx) H2
 |.wall=>False
def G9(W:RC)(c:Nat)(ws:MP)(g:MU):Sp:=λvs H Q E=>∃M x dx xs avs,vs=.ref x::avs/\H x=some (.ins (W.cls c) dx [])/\qS W M (erase H x) ws xs avs/\Ll W M H x Q E (g xs)
def uL(h:ws.length+1=n):∀vs H Q E,G9 W c ws g vs H Q E->vs.length=n:=λvs H Q E ⟨M,x,dx,xs,avs,e,_,a,_⟩=>by rw[e,v4,a.len.1,h]
def oY{H:Hp}{x dx K:Addr}(hx:H x=none)(hd:H dx=none)(hne:dx≠x):zl H (erase (upd (upd H dx (.own x)) x (.ins K dx [])) x):=λb o hb=>by unfold erase;have n1:b≠x:=yd hb hx;rw[if_neg n1,zg n1,zg (yd hb hd)];exact hb
def oZ{H:Hp}{x dx K a:Addr}(hx:H x=none)(h:erase (upd (upd H dx (.own x)) x (.ins K dx [])) x a=none):H a=none:=by
 by_cases e:a=x
 .rw[e];exact hx
 .unfold erase at h;rw[if_neg e,zg e]at h;by_cases e2:a=dx
  .subst e2;rw[zd]at h;cases h
  .rwa [zg e2]at h
def o6(M:Mk X.K (C.W.cls c) f)(F:y8 X.prog X.w X.K X.mg X.base (CXe X.prog X.w) k f fd ps (G9 C.W c ws g))(hr:qQ (k+1) X.A)(hg:Gl X x)(hm:X.mg x=some (.ref (C.W.cls c)))(hb:Binds X.K fd ps [])(hx:Passes (CXe X.prog X.w) X C.E)(ha:AM X C S ws (e::es) ms)
  (hdb:(x==("__debug__":Str))=false:=by decide) (he:starEach (e::es) X.env=(false,eval e X.env)::starEach es X.env:=by rfl) (hpl:(backTo pos (starEach es X.env)).any (·.1)=false:=by rfl):FM X C S (.Call (.Name x p) (e::es) [] pos) (zj g ms):=λhK=>by
 obtain⟨ta,a1,a2⟩:=ha hK;refine⟨_,nY M F hr hg hm hb .nil hx a1 hdb he hpl,λB P H σ ρ R Q q=>a2 B P H σ ρ R _ (wL q λxs vs H1 s1 r1 q1=>?_)⟩;intro x dx hx hd hne;rw[P4];have R1:=R.keep s1;have sm:=oY (K:=C.W.cls c) hx hd hne;refine⟨_,x,dx,xs,vs,rfl,zd,r1.args.same sm,?_⟩;have sM:∀a,(Mof B S P a\/erase (upd (upd H1 dx (.own x)) x (.ins (C.W.cls c) dx [])) x a=none)->Mof B S P a:=λa m=>m.elim id λn=>R1.new a (oZ hx n);revert q1;cases g xs with
 |ok r=>exact λq1 H2 s2 hr=>⟨rfl,q1 _ H2 (sm.trans s2) ⟨x,rfl,hx,hr.gen rfl Fr.refl λa m _=>⟨sM a m.1,m.2⟩⟩⟩
 |exc c fs=>exact λq1 e dx' es H2 s2 h1 h2 h3=>q1 e dx' es H2 ((R1.same.trans sm).trans s2) h1 h2 (h3.sub λa m _=>(sM a m).1.1)
 |wall=>exact id
inductive Kd where
 |int|str|bool|none|list|tuple|dict|obj (c:Nat)|exc (c:Nat)
 deriving DecidableEq
def kd:PV->Option Kd
 |.i _=>some .int | .s _=>some .str | .b _=>some .bool | .n=>some .none | .l _=>some .list | .t _=>some .tuple | .d _=>some .dict | .o c _=>some (.obj c) | .x c _=>some (.exc c)
 |.sc _=>Option.none
 |.dt _=>Option.none
def tyK(W:RC):Kd->Value
 |.int=>.type "int" | .str=>.type "str" | .bool=>.type "bool" | .none=>.type "NoneType" | .list=>.type "list" | .tuple=>.type "tuple" | .dict=>.type "dict" | .obj c=>.ref (W.cls c) | .exc c=>.ref (W.cls c)
def G_(W:RC):Kd->Prop
 |.obj c=>Cls W.K (W.cls c)/\findIn W.K (.ref (W.cls c)) "__class__"=some (some (.builtin "object.__class__"))/\specialIn W.K (.builtin "object.__class__") "__get__"=some (some (.builtin "getset_descriptor.__get__"))/\takesIn W.K (.builtin "object.__class__")=some true/\mroIn W.K (W.cls c) (.type "object")=some true
 |.exc c=>ZQ W.K (W.cls c)/\XIs W.K (W.cls c)
 |_=>True
def o7(W:RC)(f:NI):List (Kd×Bool)->Prop
 |[]=>True
 |q::r=>(G_ W q.1/\f (tyK W q.1)=some q.2)/\o7 W f r
def o7.get{W:RC}{f:NI}:∀{tab:List (Kd×Bool)}{k:Kd}{b:Bool},o7 W f tab->tab.lookup k=some b->G_ W k/\f (tyK W k)=some b
 |[],_,_,_,h=>by cases h
 |q::r,k,b,t,h=>by
  rw[S5]at h;by_cases e:(k==q.1)=true
  .simp only[e]at h;cases h;rw[R8.mp e];exact t.1
  .simp only[e]at h;exact o7.get t.2 h
def Cr(tab:List (Kd×Bool))(x:PV):Out PV:=wu (((kd x).bind λk=>tab.lookup k).map PV.b)
def Mg(W:RC)(f:NI)(cv:V):List V->Hp->VK->Prop:=λvs H Q=>∃(M:MF)(x:PV)(v:V)(k:Kd)(b:Bool),vs=[v,cv]/\yG W (λ_=>True) M H x v/\kd x=some k/\G_ W k/\f (tyK W k)=some b/\Q (.bl b) H
def Fp{pins:My}{σ:St}{H:Hp}{s:MH}{W:RC}{N M:MF}{x:PV}{v:V}{u:Value}{k:Kd}(hK:X.K=W.K)(I:Inv X pins σ H s)(h:yG W N M H x v)(ru:RelV v u)(hk:kd x=some k)(ok:G_ W k):∃P,KitX X.K u (tyK W k) P/\P s.heap/\u≠.builtin "__main__.__loader__#opaque":=by
 cases x with
 |i a=>cases hk;exact eN I ru (.inl (by rw[(show v=_ from h)];exact .int a))
 |s a=>cases hk;exact eN I ru (.inl (by rw[(show v=_ from h)];exact .str a))
 |b a=>cases hk;exact eN I ru (.inl (by rw[(show v=_ from h)];exact .bl a))
 |n=>cases hk;exact eN I ru (.inl (by rw[(show v=_ from h)];exact .non))
 |l a=>cases hk;obtain⟨p,vs,rfl,_,hl,_⟩:=h;exact eN I ru (.inl (.lst hl))
 |t a=>cases hk;obtain⟨p,vs,rfl,hl,_⟩:=h;cases(show u=Value.ref p from ru);rw[<- hK]at hl;obtain⟨its,_,⟨o,h1,h2,_⟩,_⟩:=I.tuple hl;exact⟨_,kitx_tuple,⟨o,h1,h2⟩,λz=>nomatch z⟩
 |d a=>cases hk;obtain⟨p,vs,rfl,_,hl,_⟩:=h;cases(show u=Value.ref p from ru);obtain⟨_,_,ws,_,dd⟩:=Y1 I.hok hl;obtain⟨o,es,ep,h1,h2,_⟩:=dd;exact⟨_,kitx_dict,⟨o,h1,h2.1⟩,λz=>nomatch z⟩
 |o c a=>cases hk;obtain⟨p,dx,es,rfl,_,hl,_⟩:=h;obtain⟨o1,o2,o3,o4,o5⟩:=ok;rw[<- hK]at o1 o2 o3 o4 o5;exact eN I ru (.inl (.ins hl o1 o2 o3 o4 o5))
 |x c a=>cases hk;obtain⟨p,dx,es,rfl,hl,hd,_⟩:=h;obtain⟨o1,o2⟩:=ok;rw[<- hK]at o1 o2;exact eN I ru (.inr ⟨p,_,dx,es,rfl,rfl,o1,o2,.inl hl,hd⟩)
 |sc a=>cases hk
 |dt a=>cases hk
def uM(hK:X.K=W.K)(hc:HW cv=some cl):wq X (.builtin "isinstance") (Mg W (λt=>kitOne W.K t cl) cv):=by intro pins s σ H xs us Q I r h;obtain⟨M,x,v,k,b,rfl,hx,hk,ok,hb,q⟩:=h;obtain⟨u,c,rfl,rx,rc⟩:=vals2 r;obtain⟨P,kx,hP,hne⟩:=Fp hK I hx rx hk ok;rw[ur rc hc];rw[<- hK]at hb;exact kia_one kx I.kIn hP hb hne λtk=>⟨.bl b,H,I.tok _,rfl,q⟩
def cF(hg:Gl X "isinstance")(hm:X.mg "isinstance"=none)(h:EM X C S w e m)(hc:PE X ce (tC cv))(hcl:HW cv=some cl)(tb:o7 C.W (λt=>kitOne C.W.K t cl) tab)
  (he:starEach [e,ce] X.env=[(false,eval e X.env),(false,eval ce X.env)]:=by rfl) (he2:starEach [ce] X.env=[(false,eval ce X.env)]:=by rfl):EM X C S false (.Call (.Name "isinstance" p) [e,ce] [] pos) (mUn (Cr tab) m):=λhK=>by
 obtain⟨te,a1,a2⟩:=h hK;refine⟨_,gD (uM hK hcl) hg hm PyProof.Rows.boot_isinstance (wK a1 (wK hc V0 he2) (by rw[he,he2])) (by decide) (by decide) (by rw[he,he2]) (by rw[he2];rfl),λB P H σ ρ R Q q=>a2 B P H σ ρ R _ (zV q λx v H1 s1 r1 q1=>?_)⟩;obtain⟨z,ez,q1⟩:=y9 q1;obtain⟨b,hb,rfl⟩:=t0.mp ez;obtain⟨k,hk,hb⟩:=O9.mp hb;obtain⟨ok,hv⟩:=tb.get hb;exact⟨_,x,v,k,b,rfl,r1.weak,hk,ok,hv,q1 _ H1 (zl.refl _) (RV.of rfl)⟩
abbrev MO:=Sto->Out (Option Int)
def LO(C:LC)(S:MB)(to:TO)(m:MO):Prop:=∀B P H σ ρ,Rel C.W B S P H σ ρ->∀Q:Option Int->Hp->Prop,(match m ρ with | .ok r=>∀H2,zl H H2->Q r H2 | .exc c fs=>XPo C B c fs | .wall=>False)->to σ H Q
def OM(X:Cx)(C:LC)(S:MB)(e:NH)(m:MO):Prop:=X.K=C.W.K->∃to,PO X e to/\LO C S to m
def ao:MO:=λ_=>.ok none
def asI:PV->Out (Option Int)
 |.i a=>.ok (some a)
 |_=>.wall
def vC(m:ME):MO:=λρ=>(m ρ).bind asI
def QM:OM X C S none ao:=λ_=>⟨_,BU,λB P H σ ρ R Q q=>q H (zl.refl _)⟩
def QN(h:EM X C S w e m):OM X C S (some e) (vC m):=λhK=>by
 obtain⟨te,a1,a2⟩:=h hK;refine⟨_,BV a1,λB P H σ ρ R Q q=>a2 B P H σ ρ R _ ?_⟩;unfold vC at q;revert q;cases m ρ with
 |ok x=>
  intro q v H2 s r;cases x with
  |i a=>exact⟨a,r,q H2 s⟩
  |_=>exact q.elim
 |exc c fs=>exact id
 |wall=>exact id
def cG{α:Type}(xs:List α)(lo hi:Nx):List α:=(xs.drop (HT.sIx xs.length 0 lo)).take (HT.sIx xs.length xs.length hi-HT.sIx xs.length 0 lo)
def pSl:PV->Option Int->Option Int->Out PV
 |.l xs,lo,hi=>.ok (.l (cG xs lo hi))
 |.sc ns,lo,hi=>.ok (.l ((cG ns lo hi).map PV.i))
 |.s z,lo,hi=>if z.length<=sizeLine then .ok (.s (Txt.slice z lo hi))else .wall
 |_,_,_=>.wall
def Cs:PV->Option Int->Option Int->Out PV
 |.l xs,lo,hi=>.ok (.l (cG xs lo hi))
 |.sc ns,lo,hi=>.ok (.l ((cG ns lo hi).map PV.i))
 |_,_,_=>.wall
def mSl(pp:PV->Option Int->Option Int->Out PV)(m:ME)(lo hi:MO):ME:=λρ=>(m ρ).bind λx=>(lo ρ).bind λl=>(hi ρ).bind λh=>pp x l h
def gY{ns:Nc}{lo hi:Nx}:Aw (ns.map V.int) lo hi=(cG ns lo hi).map V.int:=by unfold Aw cG;rw[u8,a1v,a2J]
variable {lo hi:NH}{ml mh:MO}{p2:Pos}
def gZ(h:EM X C S w e m)(hl:OM X C S lo ml)(hh:OM X C S hi mh):FM X C S (.Subscript e (.Slice lo hi none p2) pos) (mSl Cs m ml mh):=λhK=>by
 obtain⟨te,a1,a2⟩:=h hK;obtain⟨tl,b1,b2⟩:=hl hK;obtain⟨th,c1,c2⟩:=hh hK;refine⟨_,gE n4 a1 b1 c1,λB P H σ ρ R Q q=>a2 B P H σ ρ R _ (wM q λx v H1 s1 r1 q1=>b2 B P H1 σ ρ (R.keep s1) _ ?_)⟩;revert q1;cases ml ρ with
 |exc c fs=>exact id
 |wall=>exact id
 |ok l=>
  intro q1 H2 s2;refine c2 B P H2 σ ρ ((R.keep s1).keep s2) _ ?_;have q1:zJ C B H1 (RFr C.W (Mof B S P) H1) Q ((mh ρ).bind λh=>Cs x l h):=q1;have q1:=kB q1 s2;revert q1;cases mh ρ with
  |exc c fs=>exact id
  |wall=>exact id
  |ok h=>
   intro q1 H3 s3;have q1:=kB (o:=Cs x l h) q1 s3;have r3:=(r1.same s2).same s3;cases x with
   |l xs=>obtain⟨p,vs,rfl,_,hp,rr⟩:=r3;exact⟨p,vs,rfl,SqL.of hp,λz hz=>q1 _ _ (zl.upd hz) (ZV rr.cut hz)⟩
   |sc ns=>obtain⟨p,rfl,hp⟩:=r3;exact⟨p,_,rfl,hK▸hp.sq,λz hz=>q1 _ _ (zl.upd hz) (by rw[gY];exact ZV zI.ints hz)⟩
   |_=>exact q1.elim
def Q7(h:EM X C S w e m)(hl:OM X C S lo ml)(hh:OM X C S hi mh):EM X C S false (.Subscript e (.Slice lo hi none p2) pos) (mSl pSl m ml mh):=λhK=>by
 obtain⟨te,a1,a2⟩:=h hK;obtain⟨tl,b1,b2⟩:=hl hK;obtain⟨th,c1,c2⟩:=hh hK;refine⟨_,gE (n4.or EX) a1 b1 c1,λB P H σ ρ R Q q=>a2 B P H σ ρ R _ (zV q λx v H1 s1 r1 q1=>b2 B P H1 σ ρ (R.keep s1) _ ?_)⟩;revert q1;cases ml ρ with
 |exc c fs=>exact id
 |wall=>exact id
 |ok l=>
  intro q1 H2 s2;refine c2 B P H2 σ ρ ((R.keep s1).keep s2) _ ?_;have q1:zJ C B H1 (RV C B S P false) Q ((mh ρ).bind λh=>pSl x l h):=q1;have q1:=wt q1 s2;revert q1;cases mh ρ with
  |exc c fs=>exact id
  |wall=>exact id
  |ok h=>
   intro q1 H3 s3;have q1:=wt (o:=pSl x l h) q1 s3;have r3:=(r1.same s2).same s3;have N3:=(((R.keep s1).keep s2).keep s3).new;cases x with
   |l xs=>obtain⟨p,vs,rfl,_,hp,rr⟩:=r3;exact .inl ⟨p,vs,rfl,SqL.of hp,λz hz=>q1 _ _ (zl.upd hz) (RV.of ((ZV rr.cut hz).rep N3))⟩
   |sc ns=>obtain⟨p,rfl,hp⟩:=r3;exact .inl ⟨p,_,rfl,hK▸hp.sq,λz hz=>q1 _ _ (zl.upd hz) (by rw[gY];exact RV.of ((ZV zI.ints hz).rep N3))⟩
   |s z=>
    unfold pSl at q1;by_cases hz:z.length<=sizeLine
    .simp only[hz,if_true]at q1;exact .inr ⟨z,r3,hz,q1 _ H3 (zl.refl _) (RV.of rfl)⟩
    .simp only[hz,if_false]at q1;exact q1.elim
   |_=>exact q1.elim
end
def AV(C:LC)(B:Bs)(H:Hp)(x:PV)(v:V):Prop:=if C.fr=true then RFr C.W B.Mt B.H0 H x v else Rep C.W B.Mt H x v
def k9(C:LC)(B:Bs)(S' Sb Sc:MB)(D:Ends):Out Fw->Prop
 |.ok (.nx ρ')=>∀P' H' σ',Rel C.W B S' P' H' σ' ρ'->D.nx σ' H'
 |.ok (.rt x)=>∀v H',zl B.H0 H'->AV C B H' x v->D.rt v H'
 |.ok (.bk ρ')=>∀P' H' σ',Rel C.W B Sb P' H' σ' ρ'->D.bk σ' H'
 |.ok (.ct ρ')=>∀P' H' σ',Rel C.W B Sc P' H' σ' ρ'->D.ct σ' H'
 |.exc c fs=>XPo C B c fs
 |.wall=>False
def LS(C:LC)(S S' Sb Sc:MB)(ts:TS)(m:MS):Prop:=∀B P H σ ρ,Rel C.W B S P H σ ρ->∀D,k9 C B S' Sb Sc D (m ρ)->ts D σ H
def SM(X:Cx)(C:LC)(S S' Sb Sc:MB)(st:Nq)(m:MS):Prop:=X.K=C.W.K->∃ts,PS X st ts/\LS C S S' Sb Sc ts m
def SsM(X:Cx)(C:LC)(S S' Sb Sc:MB)(st:Nk)(m:MS):Prop:=X.K=C.W.K->∃ts,PSs X st ts/\LS C S S' Sb Sc ts m
def yN:MS:=λρ=>.ok (.nx ρ)
def yh(a b:MS):MS:=λρ=>(a ρ).bind λf=>match f with
 |.nx ρ'=>b ρ'
 |.rt x=>.ok (.rt x)
 |.bk ρ'=>.ok (.bk ρ')
 |.ct ρ'=>.ok (.ct ρ')
def y_(i:Nat)(m:ME):MS:=λρ=>(m ρ).bind λx=>.ok (.nx (ρ.set i (some x)))
def wN(m:ME):MS:=λρ=>(m ρ).bind λ_=>.ok (.nx ρ)
def ZM(m:ME):MS:=λρ=>(m ρ).bind λx=>.ok (.rt x)
def sIf(t:MT)(a b:MS):MS:=λρ=>(t ρ).bind λc=>if c=true then a ρ else b ρ
section
variable {X:Cx}{C:LC}{S S' S1 Sb Sc:MB}{e a b o:MR}{es:MK}{w w1 w2:Bool}{ws:MP}{m m1 m2:ME}{ms:MA}{t1:MT}{s1 s2:MS}{pos p pos':Pos}{x:Str}{st:Nq}{sts stt:Nk}{i:Nat}
def qa:SsM X C S S Sb Sc [] yN:=λ_=>⟨_,nG,λB P H σ ρ R D q=>q P H σ R⟩
def Fq(h1:LS C S S1 Sb Sc t s1)(h2:LS C S1 S' Sb Sc u s2):LS C S S' Sb Sc (Hn t u) (yh s1 s2):=λB P H σ ρ R D q=>by
 refine h1 B P H σ ρ R _ ?_;unfold yh at q;revert q;cases s1 ρ with
 |ok f=>
  cases f with
  |nx ρ'=>exact λq P' H' σ' R'=>h2 B P' H' σ' ρ' R' D q
  |rt x=>exact id
  |bk ρ'=>exact id
  |ct ρ'=>exact id
 |exc c fs=>exact id
 |wall=>exact id
def zh(h1:SM X C S S1 Sb Sc st s1)(h2:SsM X C S1 S' Sb Sc sts s2):SsM X C S S' Sb Sc (st::sts) (yh s1 s2):=λhK=>by obtain⟨t,a1,a2⟩:=h1 hK;obtain⟨u,b1,b2⟩:=h2 hK;exact⟨_,U1 a1 b1,Fq a2 b2⟩
def zm(h1:SM X C S S' Sb Sc st s1):SsM X C S S' Sb Sc [st] s1:=λhK=>by obtain⟨t,a1,a2⟩:=h1 hK;exact⟨_,kA a1,a2⟩
def uN(i:Nat)(hi:S1[i]?=some 2)(q:k9 C B (S1.set i 0) Sb Sc D f):k9 C B S1 Sb Sc D f:=by
 cases f with
 |ok f=>
  cases f with
  |nx ρ'=>exact λP' H' σ' R'=>q P' H' σ' (R'.freeze hi)
  |rt x=>exact q
  |bk ρ'=>exact q
  |ct ρ'=>exact q
 |exc c fs=>exact q
 |wall=>exact q
def Ct(i:Nat)(h:SsM X C S S1 Sb Sc sts s1)(hi:S1[i]?=some 2:=by rfl):SsM X C S (S1.set i 0) Sb Sc sts s1:=λhK=>by obtain⟨t,a1,a2⟩:=h hK;exact⟨t,a1,λB P H σ ρ R D q=>a2 B P H σ ρ R D (uN i hi q)⟩
def AW(h:LE C S false te m):LS C S (S.set i 0) Sb Sc (DS te (eD i)) (y_ i m):=λB P H σ ρ R D q=>by
 refine h B P H σ ρ R _ ?_;unfold y_ at q;revert q;cases m ρ with
 |ok x=>exact λq v H2 s r=>q P H2 _ ((R.keep s).set r.rep)
 |exc c fs=>exact id
 |wall=>exact id
def o8(hN:X.N.Nodup)(hi:X.N[i]?=some x)(hx:Loc X.env.scope x)(h:EM X C S false e m)(hs:swapsWith e (some (.Name x pos')) pos.line X.env=pure false:=by rfl)(hf:X.fn x=true\/X.env.scope.names.lookup x=some .local:=by first|exact .inl rfl|exact .inr rfl|assumption):
  SM X C S (S.set i 0) Sb Sc (.Assign [.Name x pos'] e pos) (y_ i m):=λhK=>by
 obtain⟨te,a1,a2⟩:=h hK;exact⟨_,nI hN hi hx a1 hs hf,AW a2⟩
def Cu(h:LFr C S te m)(hl:i<S.length)(h0:i≠0):LS C S (S.set i 2) Sb Sc (DS te (eD i)) (y_ i m):=λB P H σ ρ R D q=>by
 refine h B P H σ ρ R _ ?_;unfold y_ at q;revert q;cases m ρ with
 |ok x=>exact λq v H2 s ⟨p,e,hp,r⟩=>by subst e;exact q _ H2 _ (R.Me s hp hl h0 r)
 |exc c fs=>exact id
 |wall=>exact id
def vD(hN:X.N.Nodup)(hi:X.N[i]?=some x)(hx:Loc X.env.scope x)(h:FM X C S e m)(hl:i<S.length:=by decide)(h0:i≠0:=by decide)(hs:swapsWith e (some (.Name x pos')) pos.line X.env=pure false:=by rfl)(hf:X.fn x=true\/X.env.scope.names.lookup x=some .local:=by first|exact .inl rfl|exact .inr rfl|assumption):
  SM X C S (S.set i 2) Sb Sc (.Assign [.Name x pos'] e pos) (y_ i m):=λhK=>by
 obtain⟨te,a1,a2⟩:=h hK;exact⟨_,nI hN hi hx a1 hs hf,Cu a2 hl h0⟩
def qG(h:EM X C S w e m)(hs:swapsWith e none pos.line X.env=pure false:=by rfl):SM X C S S Sb Sc (.Expr e pos) (wN m):=λhK=>by
 obtain⟨te,a1,a2⟩:=h hK;refine⟨_,VY a1 hs,λB P H σ ρ R D q=>a2 B P H σ ρ R _ ?_⟩;unfold wN at q;revert q;cases m ρ with
 |ok x=>exact λq v H2 s r=>q P H2 σ (R.keep s)
 |exc c fs=>exact id
 |wall=>exact id
def jr(h:EM X C S false e m)(hf:C.fr=false:=by rfl):SM X C S S' Sb Sc (.Return (some e) pos) (ZM m):=λhK=>by
 obtain⟨te,a1,a2⟩:=h hK;refine⟨_,gB a1,λB P H σ ρ R D q=>a2 B P H σ ρ R _ ?_⟩;unfold ZM at q;revert q;cases m ρ with
 |ok x=>exact λq v H2 s r=>q v H2 (R.same.trans s) (by unfold AV;rw[hf,if_neg O2];exact r.rep.sub λa m _=>m.1.1)
 |exc c fs=>exact id
 |wall=>exact id
def fb(h:FM X C S e m)(hf:C.fr=true:=by rfl):SM X C S S' Sb Sc (.Return (some e) pos) (ZM m):=λhK=>by
 obtain⟨te,a1,a2⟩:=h hK;refine⟨_,gB a1,λB P H σ ρ R D q=>a2 B P H σ ρ R _ ?_⟩;unfold ZM at q;revert q;cases m ρ with
 |ok x=>exact λq v H2 s r=>q v H2 (R.same.trans s) (by
   unfold AV;rw[if_pos hf];obtain⟨p,e,hp,r⟩:=r;exact⟨p,e,zl.none R.same hp,r.gen rfl Fr.refl λa m _=>⟨m.1.1.1,m.2⟩⟩)
 |exc c fs=>exact id
 |wall=>exact id
def Wg(h:PE X e (eC i))(hi:S[i]?=some 2:=by rfl)(hf:C.fr=true:=by rfl):SM X C S S' Sb Sc (.Return (some e) pos) (ZM (zc i)):=λhK=>by
 refine⟨_,gB h,λB P H σ ρ R D q=>?_⟩;unfold ZM zc at q;cases hρ:ρ[i]? with
 |none=>rw[hρ]at q;exact q.elim
 |some o=>
  cases o with
  |none=>rw[hρ]at q;exact q.elim
  |some y=>rw[hρ]at q;obtain⟨v,hv,h2,_,_⟩:=R.var i y hρ;obtain⟨rfl,ra⟩:=h2 hi;refine⟨_,hv,q _ H R.same ?_⟩;unfold AV;rw[if_pos hf];exact⟨P i,rfl,(R.act i hi).1,ra.gen rfl Fr.refl λa m _=>⟨m.1.1,λz=>m.2 i hi z.symm⟩⟩
def kC(h:TM X C S c t1)(h1:SsM X C S S' Sb Sc sts s1)(h2:SsM X C S S' Sb Sc stt s2):SM X C S S' Sb Sc (.If c sts stt pos) (sIf t1 s1 s2):=λhK=>by
 obtain⟨tt,a1,a2⟩:=h hK;obtain⟨t,b1,b2⟩:=h1 hK;obtain⟨u,c1,c2⟩:=h2 hK;refine⟨_,Eg a1 b1 c1,λB P H σ ρ R D q=>a2 B P H σ ρ R _ ?_⟩;unfold sIf at q;revert q;cases t1 ρ with
 |ok k=>
  intro q H2 s;cases k with
  |true=>exact AI (b2 B P H2 σ ρ (R.keep s) D q)
  |false=>exact AG (c2 B P H2 σ ρ (R.keep s) D q)
 |exc c fs=>exact id
 |wall=>exact id
def Rel.at2(R:Rel W B S P H σ ρ)(hi:S[i]?=some 2)(e:ρ[i]?=some (some y)):σ[i]?=some (some (.ref (P i)))/\ae W (Mof B S P) H (P i) y/\i<ρ.length:=by obtain⟨v,hv,h2,_,_⟩:=R.var i y e;obtain⟨rfl,ra⟩:=h2 hi;exact⟨hv,ra,(N7.mp e).1⟩
def Mof.wr{W:RC}{B:Bs}{P:MN}{H:Hp}{σ:St}{ρ:Sto}{o:HO}(R:Rel W B S P H σ ρ)(hi:S[i]?=some 2):Fr (Mof B S P) H (upd H (P i) o):=λa q e m=>by
 obtain⟨_,o0,e0,n0⟩:=R.act i hi;have:a≠P i:=λz=>by
  rcases m with m|m
  .exact m.2 i hi z.symm
  .rw[z,e0]at e;cases e;exact n0 m
 rw[zg this];exact e
def o9(i:Nat)(m:ME):MS:=λρ=>match ρ[i]? with
 |some (some (.l xs))=>(m ρ).bind λy=>if xs.length<sizeLine then .ok (.nx (ρ.set i (some (.l (xs++[y])))))else .wall
 |_=>.wall
def ZX(ho:PE X o (eC i))(h:EM X C S false e m)(hi:S[i]?=some 2:=by rfl)(Xw:attributeBase o "append" X.env (eval o X.env)=eval o X.env:=by rfl)
  (GV:((backTo p (starEach [e] X.env)).all (λx=>!x.1)&&(backToKw p (keywordEach [] X.env)).all (λx=>x.1.isSome)&&decide ([e].length+([]:List Keyword).length+(if([]:List Keyword).isEmpty then 0 else 1)<30))=true:=by rfl)
  (Xv:(jo.endLine==p.line)=true:=by rfl) (hs:starEach [e] X.env=[(false,eval e X.env)]:=by rfl) (hsw:swapsWith (.Call (.Attribute o "append" jo) [e] [] p) none pos.line X.env=pure false:=by rfl):
  SM X C S S Sb Sc (.Expr (.Call (.Attribute o "append" jo) [e] [] p) pos) (o9 i m):=λhK=>by
 obtain⟨te,a1,a2⟩:=h hK;refine⟨_,VY (Ez a2i PySem.F.slot_list_append PySem.F.type_list_append cb ho (wK a1 V0 hs) Xw GV Xv hs rfl) hsw,λB P H σ ρ R D q=>?_⟩;unfold o9 at q;split at q
 .rename_i xs hx;obtain⟨hσ,⟨vs,hp,rr⟩,hl⟩:=R.at2 hi hx;refine⟨_,hσ,.inl ⟨rfl,_,SqL.of hp⟩,a2 B P H σ ρ R _ ?_⟩;revert q;cases m ρ with
  |ok y=>
   intro q v H2 s r;have q:k9 C B S Sb Sc D (if xs.length<sizeLine then .ok (.nx (ρ.set i (some (.l (xs++[y])))))else .wall):=q;split at q
   .rename_i hz;have R2:=R.keep s;refine⟨_,vs,v,rfl,rfl,s _ _ hp,by rw[rr.len];exact hz,q P _ σ (R2.wr hi hl hσ (by exact id) ?_)⟩;have f:=Mof.wr (o:=.lst (vs++[v])) R2 hi;exact⟨_,zd,((rr.same s).append (.cons r.rep .nil)).gen f λ_ m _=>m⟩
   .exact q.elim
  |exc c fs=>exact id
  |wall=>exact id
 .exact q.elim
def dput{κ α:Type}[DecidableEq κ](kvs:List (κ×α))(k:κ)(v:α):List (κ×α):=
 if kvs.any (λkv=>decide (kv.1=k))=true then kvs.map (λkv=>if kv.1=k then(kv.1,v)else kv)else kvs++[(k,v)]
end
def qy.put(h:qy W M H a es)(hx:Rep W M H x v):qy W M H (dput a k x) (putK es k v):=by
 have key:∀{a:MY}{es:MM},qy W M H a es->a.any (λkv=>decide (kv.1=k))=es.any (λkv=>decide (kv.1=k))/\qy W M H (a.map λkv=>if kv.1=k then(kv.1,x)else kv) (es.map λkv=>if kv.1=k then(kv.1,v)else kv)/\qy W M H (a++[(k,x)]) (es++[(k,v)]):=by
  intro a
  induction a with
  |nil=>intro es h;cases(show _=_ from h);exact⟨rfl,rfl,v,[],rfl,hx,rfl⟩
  |cons kx a ih=>
   intro es h;obtain⟨u,q,rfl,h1,h2⟩:=h;obtain⟨i1,i2,i3⟩:=ih h2;refine⟨by rw[a0i,a0i,i1],?_,⟨u,_,rfl,h1,i3⟩⟩;rw[N5,N5];by_cases e:kx.1=k
   .rw[if_pos e,if_pos e];exact⟨v,_,rfl,hx,i2⟩
   .rw[if_neg e,if_neg e];exact⟨u,_,rfl,h1,i2⟩
 obtain⟨i1,i2,i3⟩:=key h;unfold dput putK;rw[i1];split
 .exact i2
 .exact i3
section
variable {X:Cx}{C:LC}{S S' S1 Sb Sc:MB}{e a b o:MR}{es:MK}{w w1 w2:Bool}{ws:MP}{m m1 m2:ME}{ms:MA}{t1:MT}{s1 s2:MS}{pos p pos':Pos}{x:Str}{st:Nq}{sts stt:Nk}{i:Nat}
def Cv(i:Nat)(mk mv:ME):MS:=λρ=>(mv ρ).bind λv=>match ρ[i]? with
 |some (some (.d kvs))=>(mk ρ).bind λy=>match pk y with
  |some k=>if kvs.length<sizeLine then .ok (.nx (ρ.set i (some (.d (dput kvs k v)))))else .wall
  |none=>.wall
 |_=>.wall
def AX(hu:X.A.units+1<cLine)(ho:PE X o (eC i))(hk:EM X C S w a m1)(hv:EM X C S false e m2)(hi:S[i]?=some 2:=by rfl)(hs:swapsWith e (some (.Subscript o a pos')) pos.line X.env=pure false:=by rfl):
  SM X C S S Sb Sc (.Assign [.Subscript o a pos'] e pos) (Cv i m1 m2):=λhK=>by
 obtain⟨ta,a1,a2⟩:=hk hK;obtain⟨tv,b1,b2⟩:=hv hK;refine⟨_,eK hu ho a1 b1 hs,λB P H σ ρ R D q=>b2 B P H σ ρ R _ ?_⟩;unfold Cv at q;revert q;cases m2 ρ with
 |ok y=>
  intro q v H1 sm1 rv;have R1:=R.keep sm1;have q:k9 C B S Sb Sc D (match ρ[i]? with
   |some (some (.d kvs))=>(m1 ρ).bind λz=>match pk z with
    |some k=>if kvs.length<sizeLine then .ok (.nx (ρ.set i (some (.d (dput kvs k y)))))else .wall
    |none=>.wall
   |_=>.wall):=q
  split at q
  .rename_i kvs hx;obtain⟨hσ,⟨es,hp,rr⟩,hl⟩:=R1.at2 hi hx;refine⟨_,hσ,a2 B P H1 σ ρ R1 _ ?_⟩;revert q;cases m1 ρ with
   |ok z=>
    intro q u H2 sm2 ru;have R2:=R1.keep sm2;have q:k9 C B S Sb Sc D (match pk z with
     |some k=>if kvs.length<sizeLine then .ok (.nx (ρ.set i (some (.d (dput kvs k y)))))else .wall
     |none=>.wall):=q
    split at q
    .rename_i k hk;split at q
     .rename_i hz;have hp2:=sm2 _ _ hp;refine⟨_,_,rfl,by rw[Wd ru.weak hk];exact uc.k hp2 (by rw[qy.len rr];exact hz),q P _ σ (R2.wr hi hl hσ (by exact id) ?_)⟩;have f:=Mof.wr (o:=.dK (putK es k v)) R2 hi;exact⟨_,zd,((rr.same sm2).put (rv.rep.same sm2)).gen f λ_ m _=>m⟩
     .exact q.elim
    .exact q.elim
   |exc c fs=>exact id
   |wall=>exact id
  .exact q.elim
 |exc c fs=>exact id
 |wall=>exact id
def o_(i:Nat)(mk mv:ME):MS:=λρ=>(mv ρ).bind λv=>match ρ[i]? with
 |some (some (.l xs))=>(mk ρ).bind λy=>match y with
  |.i k=>match ixN xs.length k with
   |some j=>.ok (.nx (ρ.set i (some (.l (xs.set j v)))))
   |none=>.wall
  |_=>.wall
 |_=>.wall
def Cw(ho:PE X o (eC i))(hk:EM X C S w a m1)(hv:EM X C S false e m2)(hi:S[i]?=some 2:=by rfl)
  (ha:∀v,assign (.Subscript o a p) X.env v=(do
   let ov<-holding [v] (eval o X.env)
   let iv<-holding [v,ov] (eval a X.env)
   standAt p
   holding [v,ov,iv] (setItem ov iv v)
   release [v,ov,iv] []):=by intro _;rfl)
  (hs:swapsWithSole [.Subscript o a p] e pos.line X.env=pure false:=by rfl) (hw:swappedStores [.Subscript o a p] e X.env=pure none:=by rfl) (h1:(assignEach [.Subscript o a p] X.env).map (·.2)=[assign (.Subscript o a p) X.env]:=by rfl):
  SM X C S S Sb Sc (.Assign [.Subscript o a p] e pos) (o_ i m1 m2):=λhK=>by
 obtain⟨ta,a1,a2⟩:=hk hK;obtain⟨tv,b1,b2⟩:=hv hK;refine⟨_,Ej b1 (Ei ho a1 set_list ha) hs hw h1,λB P H σ ρ R D q=>b2 B P H σ ρ R _ ?_⟩;unfold o_ at q;revert q;cases m2 ρ with
 |ok y=>
  intro q v H1 sm1 rv;have R1:=R.keep sm1;have q:k9 C B S Sb Sc D (match ρ[i]? with
   |some (some (.l xs))=>(m1 ρ).bind λz=>match z with
    |.i k=>match ixN xs.length k with
     |some j=>.ok (.nx (ρ.set i (some (.l (xs.set j y)))))
     |none=>.wall
    |_=>.wall
   |_=>.wall):=q
  split at q
  .rename_i xs hx;obtain⟨hσ,⟨vs,hp,rr⟩,hl⟩:=R1.at2 hi hx;refine⟨_,hσ,a2 B P H1 σ ρ R1 _ ?_⟩;revert q;cases m1 ρ with
   |ok z=>
    intro q u H2 sm2 ru;have R2:=R1.keep sm2;cases z with
    |i k=>
     have q:k9 C B S Sb Sc D (match ixN xs.length k with
      |some j=>.ok (.nx (ρ.set i (some (.l (xs.set j y)))))
      |none=>.wall):=q
     split at q
     .rename_i j hj;refine⟨_,vs,k,j,rfl,ru,sm2 _ _ hp,by rw[rr.len];exact hj,q P _ σ (R2.wr hi hl hσ (by exact id) ?_)⟩;have f:=Mof.wr (o:=.lst (vs.set j v)) R2 hi;exact⟨_,zd,(zI.set (rv.rep.same sm2) j (rr.same sm2)).gen f λ_ m _=>m⟩
     .exact q.elim
    |_=>exact q.elim
   |exc c fs=>exact id
   |wall=>exact id
  .exact q.elim
 |exc c fs=>exact id
 |wall=>exact id
def tR(fs:MZ)(f:Str)(v:PV):List (Str×PV):=match fs with
 |[]=>[(f,v)]
 |kx::r=>if kx.1=f then(f,v)::r else kx::tR r f v
end
def jq.put{W:RC}{M:MF}{H:Hp}{f:Str}{x:PV}{v:V}(hx:Rep W M H x v):∀{a:MZ}{es:Nd},jq W M H a es->jq W M H (tR a f x) (J6 f v es)
 |[],_,h=>by cases(show _=_ from h);exact⟨v,[],rfl,hx,rfl⟩
 |kx::a,_,h=>by
  obtain⟨u,q,rfl,h1,h2⟩:=h;unfold tR J6;by_cases e:kx.1=f
  .rw[if_pos e,if_pos e,e];exact⟨v,q,rfl,hx,h2⟩
  .rw[if_neg e,if_neg e];exact⟨u,_,rfl,h1,jq.put hx h2⟩
def jq.len(h:jq W M H a es):es.length=a.length:=by have:=T6 List.length (jq.iff.mp h).1;simpa using this
section
variable {X:Cx}{C:LC}{S S' S1 Sb Sc:MB}{e a b o:MR}{es:MK}{w w1 w2:Bool}{ws:MP}{m m1 m2:ME}{ms:MA}{t1:MT}{s1 s2:MS}{pos p pos':Pos}{x:Str}{st:Nq}{sts stt:Nk}{i:Nat}
def fc(i:Nat)(cs:MB)(f:Str)(m:ME):MS:=λρ=>(m ρ).bind λv=>match ρ[i]? with
 |some (some (.o c fs))=>if c∈cs/\fs.length<1000 then .ok (.nx (ρ.set i (some (.o c (tR fs f v)))))else .wall
 |_=>.wall
def pb(ho:PE X o (eC i))(hv:EM X C S false e m)(hc:∀c∈cs,Cls X.K (C.W.cls c)/\j8 X.K (C.W.cls c) fn)(hi:S[i]?=some 2:=by rfl)(hs:swapsWith e (some (.Attribute o fn pos')) pos.line X.env=pure false:=by rfl):
  SM X C S S Sb Sc (.Assign [.Attribute o fn pos'] e pos) (fc i cs fn m):=λhK=>by
 obtain⟨tv,b1,b2⟩:=hv hK;refine⟨_,Av ho b1 hs,λB P H σ ρ R D q=>b2 B P H σ ρ R _ ?_⟩;unfold fc at q;revert q;cases m ρ with
 |ok y=>
  intro q v H1 sm1 rv;have R1:=R.keep sm1;have q:k9 C B S Sb Sc D (match ρ[i]? with
   |some (some (.o c fs))=>if c∈cs/\fs.length<1000 then .ok (.nx (ρ.set i (some (.o c (tR fs fn y)))))else .wall
   |_=>.wall):=q
  split at q
  .rename_i c fs hx;split at q
   .rename_i hz;obtain⟨hσ,⟨dx,es,hp,rr⟩,hl⟩:=R1.at2 hi hx;refine⟨_,hσ,_,_,dx,es,rfl,hp,(hc c hz.1).1,(hc c hz.1).2,by rw[rr.len];exact hz.2,q P _ σ (R1.wr hi hl hσ (by exact id) ?_)⟩;have f:=Mof.wr (o:=.ins (C.W.cls c) dx (J6 fn v es)) R1 hi;exact⟨dx,_,zd,(jq.put rv.rep rr).gen f λ_ m _=>m⟩
   .exact q.elim
  .exact q.elim
 |exc c fs=>exact id
 |wall=>exact id
abbrev MG:=PV->Sto->Option Sto
def LG(C:LC)(S S':MB)(g:TG)(mg:MG):Prop:=∀B P H σ ρ x v,Rel C.W B S P H σ ρ->Rep C.W (Mof B S P) H x v->∀Q:St->Hp->Prop,(∃ρ',mg x ρ=some ρ'/\∀σ',Rel C.W B S' P H σ' ρ'->Q σ' H)->g v σ H Q
def GM(X:Cx)(C:LC)(S S':MB)(tg:MR)(mg:MG):Prop:=X.K=C.W.K->∃g,PG X tg g/\LG C S S' g mg
def gNm(i:Nat):MG:=λx ρ=>some (ρ.set i (some x))
def wO(hN:X.N.Nodup)(hi:X.N[i]?=some x)(hx:Loc X.env.scope x)(hf:X.fn x=true\/X.env.scope.names.lookup x=some .local:=by first|exact .inl rfl|exact .inr rfl|assumption):GM X C S (S.set i 0) (.Name x pos) (gNm i):=
 λ_=>⟨_,nH hN hi hx hf,λB P H σ ρ x v R r Q ⟨ρ',e,k⟩=>by cases e;exact k _ (R.set r)⟩
abbrev MGs:=List PV->Sto->Option Sto
def LGs(C:LC)(S S':MB)(g:TGs)(mg:MGs):Prop:=∀B P H σ ρ xs vs,Rel C.W B S P H σ ρ->zI C.W (Mof B S P) H xs vs->∀Q:St->Hp->Prop,(∃ρ',mg xs ρ=some ρ'/\∀σ',Rel C.W B S' P H σ' ρ'->Q σ' H)->g vs σ H Q
def GsM(X:Cx)(C:LC)(S S':MB)(tgs:MK)(mg:MGs):Prop:=X.K=C.W.K->∃g,PGs X tgs g/\LGs C S S' g mg
def uO:MGs:=λxs ρ=>match xs with
 |[]=>some ρ
 |_=>none
def Y3(g:MG)(gs:MGs):MGs:=λxs ρ=>match xs with
 |x::r=>(g x ρ).bind λρ'=>gs r ρ'
 |[]=>none
def pe:GsM X C S S [] uO:=λ_=>⟨_,BK,λB P H σ ρ xs vs R r Q ⟨ρ',e,k⟩=>by
 cases xs with
 |nil=>cases e;cases(show _=_ from r);exact⟨rfl,k _ R⟩
 |cons x xs=>cases e⟩
def Mof.le{B:Bs}{S S':MB}{P:MN}(h:∀j:Nat,S'[j]?=some 2->S[j]?=some 2){a:Addr}(m:Mof B S P a):Mof B S' P a:=⟨m.1,λj hj=>m.2 j (h j hj)⟩
def wQ(h1:GM X C S S1 e g)(h2:GsM X C S1 S' es gs)(hS:∀j:Nat,S1[j]?=some 2->S[j]?=some 2)(hs:(assignEach (e::es) X.env).map (·.2)=assign e X.env::(assignEach es X.env).map (·.2):=by rfl):GsM X C S S' (e::es) (Y3 g gs):=λhK=>by
 obtain⟨t,a1,a2⟩:=h1 hK;obtain⟨u,b1,b2⟩:=h2 hK;refine⟨_,tX a1 b1 hs,λB P H σ ρ xs vs R r Q ⟨ρ',e,k⟩=>?_⟩;cases xs with
 |nil=>cases e
 |cons x xs=>
  obtain⟨v,vr,rfl,rx,rr⟩:=r;have e:(g x ρ).bind (λρ'=>gs xs ρ')=some ρ':=e;cases hg:g x ρ with
  |none=>rw[hg]at e;cases e
  |some ρ1=>rw[hg]at e;exact⟨v,vr,rfl,a2 B P H σ ρ x v R rx _ ⟨ρ1,hg,λσ' R'=>b2 B P H σ' ρ1 xs vr R' (rr.sub λa m _=>Mof.le hS m) Q ⟨ρ',e,k⟩⟩⟩
def gTp(n:Nat)(gs:MGs):MG:=λx ρ=>match x with
 |.t xs=>if xs.length=n then gs xs ρ else none
 |_=>none
def pf(hc:X.calm=true)(h:GsM X C S S' es gs)(hn:(assignEach es X.env).length=n:=by rfl)(hst:(assignEach es X.env).findIdx? (·.1)=none:=by rfl):GM X C S S' (.Tuple es k pos) (gTp n gs):=λhK=>by
 obtain⟨t,a1,a2⟩:=h hK;refine⟨_,Eh hc a1 hn hst,λB P H σ ρ x v R r Q ⟨ρ',e,k⟩=>?_⟩;cases x with
 |t xs=>
  obtain⟨p,vs,rfl,hp,rr⟩:=r;have e:(if xs.length=n then gs xs ρ else none)=some ρ':=e;by_cases hl:xs.length=n
  .rw[if_pos hl]at e;exact⟨p,vs,rfl,hK▸hp,by rw[rr.len];exact hl,a2 B P H σ ρ xs vs R rr Q ⟨ρ',e,k⟩⟩
  .rw[if_neg hl]at e;cases e
 |_=>cases e
def NA(B:Bs)(S:MB)(P:MN):Addr->Prop:=λa=>¬B.xc a/\∀i,S[i]?=some 2->P i≠a
def Cy(W:RC)(M N:MF)(H2:Hp)(J:It)(xs:MX):Prop:=∀H',Fr N H2 H'->
 (∀i x,xs[i]?=some x->J.go i H'/\∀v H'',J.yld i H' v H''->zl H' H''/\∀M':Addr->Prop,(∀a,M a->H2 a≠none->M' a)->Rep W M' H'' x v)/\J.stop xs.length H'
abbrev MI:=Sto->Out (List PV)
def NAc(c:Bool)(B:Bs)(S:MB)(P:MN):Addr->Prop:=if c=true then λ_=>True else NA B S P
def ph(C:LC)(B:Bs)(S:MB)(P:MN)(c:Bool)(H:Hp)(R:It->Hp->Prop):Out (List PV)->Prop
 |.ok xs=>∀J H2,zl H H2->Cy C.W (Mof B S P) (NAc c B S P) H2 J xs->R J H2
 |.exc c fs=>XPo C B c fs
 |.wall=>False
def LI(C:LC)(S:MB)(c:Bool)(wi:TI)(mi:MI):Prop:=∀B P H σ ρ,Rel C.W B S P H σ ρ->∀R:It->Hp->Prop,ph C B S P c H R (mi ρ)->wi σ H R
def IM(X:Cx)(C:LC)(S:MB)(c:Bool)(tg qP:MR)(mi:MI):Prop:=X.K=C.W.K->∃wi,PI X tg qP wi/\LI C S c wi mi
def KI(g:MG)(b:MS):List PV->Sto->Out Fw
 |[],ρ=>.ok (.nx ρ)
 |x::xs,ρ=>(wu (g x ρ)).bind λρ1=>(b ρ1).bind λf=>match f with
  |.nx ρ2=>KI g b xs ρ2
  |.ct ρ2=>KI g b xs ρ2
  |.bk ρ2=>.ok (.nx ρ2)
  |.rt v=>.ok (.rt v)
def Xx(mi:MI)(g:MG)(b:MS):MS:=λρ=>(mi ρ).bind λxs=>KI g b xs ρ
end
open Classical in
def Bs.loop(B:Bs)(S:MB)(P:MN)(H:Hp)(hz:∀a,B.N0 a->(¬((∃i,S[i]?=some 2/\P i=a)\/B.xc a))/\H a≠none):Bs where
 H0:=λa=>if(∃i,S[i]?=some 2/\P i=a)\/B.xc a then none else H a
 M0:=B.Mt
 N0:=B.N0
 nz:=λa h=>by rw[if_neg (hz a h).1];exact(hz a h).2
 pin:=B.pin
 xc:=B.xc
section
variable {W:RC}{B:Bs}{S S':MB}{P P':MN}{H H':Hp}{σ σ':St}{ρ ρ':Sto}
def Rel.hz(R:Rel W B S P H σ ρ):∀a,B.N0 a->(¬((∃i,S[i]?=some 2/\P i=a)\/B.xc a))/\H a≠none:=λa h=>by
 have h0:=B.nz a h;refine⟨λz=>z.elim (λ⟨i,hi,e⟩=>h0 (e▸(R.act i hi).1)) (λz=>h0 (R.exc a z).choose_spec.2.2),λz=>?_⟩;cases q:B.H0 a with
 |none=>exact h0 q
 |some o=>rw[R.same a o q]at z;cases z
def Q8(R:Rel W B S P H σ ρ)(h:(B.loop S P H R.hz).H0 a=none):B.H0 a=none:=by
 cases q:B.H0 a with
 |none=>rfl
 |some o=>have n:¬((∃i,S[i]?=some 2/\P i=a)\/B.xc a):=λz=>z.elim (λ⟨i,hi,e⟩=>by rw[<- e,(R.act i hi).1]at q;cases q) (λz=>by rw[(R.exc a z).choose_spec.2.2]at q;cases q);unfold Bs.loop at h;dsimp only at h;rw[if_neg n,R.same a o q]at h;cases h
def Wh(R:Rel W B S P H σ ρ):zl B.H0 (B.loop S P H R.hz).H0:=λa o h=>by have n:¬((∃i,S[i]?=some 2/\P i=a)\/B.xc a):=λz=>z.elim (λ⟨i,hi,e⟩=>by rw[<- e,(R.act i hi).1]at h;cases h) (λz=>by rw[(R.exc a z).choose_spec.2.2]at h;cases h);unfold Bs.loop;dsimp only;rw[if_neg n];exact R.same a o h
def aq(R:Rel W B S P H σ ρ)(h:(B.loop S P H R.hz).Mt a):B.Mt a:=h.elim id λz=>.inr (Q8 R z)
def Rel.loop(R:Rel W B S P H σ ρ):Rel W (B.loop S P H R.hz) S P H σ ρ:=by
 have sM:∀a,Mof B S P a->H a≠none->Mof (B.loop S P H R.hz) S P a:=λa m _=>⟨⟨.inl m.1.1,m.1.2⟩,m.2⟩;refine⟨λa o h=>?_,R.len,λi x e=>?_,λi hi=>⟨?_,(R.act i hi).2⟩,R.inj,R.pin,λa h=>?_,R.axc⟩
 .unfold Bs.loop at h;dsimp only at h;split at h
  .cases h
  .exact h
 .obtain⟨v,h1,h2,h3,h4⟩:=R.var i x e;exact⟨v,h1,λz=>⟨(h2 z).1,(h2 z).2.gen rfl Fr.refl sM⟩,λz=>(h3 z).sub (λ_ m _=>m) sM,λz z'=>(h4 z z').sub sM⟩
 .unfold Bs.loop;dsimp only;rw[if_pos (.inl ⟨i,hi,rfl⟩)]
 .obtain⟨o,e,n,_⟩:=R.exc a h;exact⟨o,e,n,by unfold Bs.loop;dsimp only;rw[if_pos (.inr h)]⟩
def Rel.AY(R:Rel W B S P H σ ρ)(R':Rel W (B.loop S P H R.hz) S' P' H' σ' ρ'):Rel W B S' P' H' σ' ρ':=by have sM:∀a,Mof (B.loop S P H R.hz) S' P' a->H' a≠none->Mof B S' P' a:=λa m _=>⟨⟨aq R m.1.1,m.1.2⟩,m.2⟩;refine⟨(Wh R).trans R'.same,R'.len,λi x e=>?_,λi hi=>⟨Q8 R (R'.act i hi).1,(R'.act i hi).2⟩,R'.inj,R'.pin,λa h=>let⟨o,e,n⟩:=R'.exc a h;⟨o,e,n.1,Q8 R n.2⟩,R'.axc⟩;obtain⟨v,h1,h2,h3,h4⟩:=R'.var i x e;exact⟨v,h1,λz=>⟨(h2 z).1,(h2 z).2.gen rfl Fr.refl sM⟩,λz=>(h3 z).sub (λ_ m _=>m) sM,λz z'=>(h4 z z').sub sM⟩
def Cz(R:Rel W B S P H σ ρ)(s:zl (B.loop S P H R.hz).H0 H'):Fr (NA B S P) H H':=λa o h m=>by
 have n:¬((∃i,S[i]?=some 2/\P i=a)\/B.xc a):=λz=>by
  rcases z with⟨i,hi,e⟩|z
  .rcases m with m|m
   .exact m.2 i hi e
   .obtain⟨_,o0,e0,n0⟩:=R.act i hi;rw[e,h]at e0;cases e0;exact n0 m
  .rcases m with m|m
   .exact m.1 z
   .obtain⟨o0,e0,n0,_⟩:=R.exc a z;rw[h]at e0;cases e0;exact n0 m
 refine s a o ?_;unfold Bs.loop;dsimp only;rw[if_neg n];exact h
def uP(hW:C.W=W)(R:Rel W B S P H σ ρ)(q:XPo C B c fs):XPo C (B.loop S P H R.hz) c fs:=λe dx es H2 s h1 h2 h3=>q e dx es H2 ((Wh R).trans s) h1 h2 (h3.sub λa m _=>aq R m)
def CA(hW:C.W=W)(R:Rel W B S P H σ ρ)(h:AV C (B.loop S P H R.hz) H' x v):AV C B H' x v:=by
 unfold AV at h ⊢;by_cases f:C.fr=true
 .rw[if_pos f]at h ⊢;obtain⟨p,e,hp,r⟩:=h;exact⟨p,e,Q8 R hp,r.gen rfl Fr.refl λa m _=>⟨aq R m.1,m.2⟩⟩
 .rw[if_neg f]at h ⊢;exact h.sub λa m _=>aq R m
end
section
variable {X:Cx}{C:LC}{S S' S1 Sb Sc:MB}{pos:Pos}
def uQ(hi:∀R:It->Hp->Prop,ph C B S P false H R (mi ρ)->wi σ H R)(hg:LG C S S1 g mg)(hb:LS C S1 S S S tb mb)(R:Rel C.W B S P H σ ρ)(D:Ends)(q:k9 C B S Sb Sc D (Xx mi mg mb ρ)):Ek wi g tb D σ H:=by
 refine hi _ ?_;unfold Xx at q;revert q;cases mi ρ with
 |exc c fs=>exact id
 |wall=>exact id
 |ok xs=>
  intro q J H2 s2 io;have R2:=R.keep s2;have q:k9 C B S Sb Sc D (KI mg mb xs ρ):=q;refine⟨λi n σ' H'=>n=xs.length-i/\i<=xs.length/\∃ρ' P',Rel C.W (B.loop S P H2 R2.hz) S P' H' σ' ρ'/\k9 C B S Sb Sc D (KI mg mb (xs.drop i) ρ'),⟨_,rfl,S7 _,ρ,P,R2.loop,q⟩,?_⟩
  rintro i n σ' H' ⟨rfl,hle,ρ',P',R',q'⟩
  have io':=io H' (Cz R2 R'.same);by_cases hlt:i<xs.length
  .have hx:xs[i]?=some xs[i]:=N6 hlt;obtain⟨go,yl⟩:=io'.1 i _ hx;refine .inr ⟨go,λσ2 H2'=>i+1<=xs.length/\∃ρ' P',Rel C.W (B.loop S P H2 R2.hz) S P' H2' σ2 ρ'/\k9 C B S Sb Sc D (KI mg mb (xs.drop (i+1)) ρ'),λσ2 H2' h=>⟨xs.length-(i+1),by omega,rfl,h.1,h.2⟩,λv H'' hy=>?_⟩;obtain⟨sy,ry⟩:=yl v H'' hy;have Ry:=R'.keep sy;have rx:=ry (Mof (B.loop S P H2 R2.hz) S P') λa m hn=>⟨⟨.inl m.1.1,m.1.2⟩,λj hj e=>by
    have z:=(R'.act j hj).1;rw[e]at z;unfold Bs.loop at z;dsimp only at z;rw[if_neg (λz=>z.elim (λ⟨k,hk,ek⟩=>m.2 k hk ek) m.1.2)]at z;exact hn z⟩
   rw[a0S hlt]at q';have q':k9 C B S Sb Sc D ((wu (mg xs[i] ρ')).bind λρ1=>(mb ρ1).bind λf=>match f with
    |.nx ρ2=>KI mg mb (xs.drop (i+1)) ρ2
    |.ct ρ2=>KI mg mb (xs.drop (i+1)) ρ2
    |.bk ρ2=>.ok (.nx ρ2)
    |.rt v=>.ok (.rt v)):=q'
   cases hgx:mg xs[i] ρ' with
   |none=>rw[hgx]at q';exact q'.elim
   |some ρ1=>
    rw[hgx]at q';refine hg _ P' H'' σ' ρ' _ v Ry rx _ ⟨ρ1,hgx,λσ1 R1=>hb _ P' H'' σ1 ρ1 R1 _ ?_⟩;have q':k9 C B S Sb Sc D ((mb ρ1).bind λf=>match f with
     |.nx ρ2=>KI mg mb (xs.drop (i+1)) ρ2
     |.ct ρ2=>KI mg mb (xs.drop (i+1)) ρ2
     |.bk ρ2=>.ok (.nx ρ2)
     |.rt v=>.ok (.rt v)):=q'
    revert q';cases mb ρ1 with
    |exc c fs=>exact λq'=>uP rfl R2 q'
    |wall=>exact id
    |ok f=>
     cases f with
     |nx ρ2=>exact λq' P3 H3 σ3 R3=>⟨hlt,ρ2,P3,R3,q'⟩
     |ct ρ2=>exact λq' P3 H3 σ3 R3=>⟨hlt,ρ2,P3,R3,q'⟩
     |bk ρ2=>exact λq' P3 H3 σ3 R3=>q' P3 H3 σ3 (R2.AY R3)
     |rt x=>exact λq' v H3 s3 h3=>q' v H3 ((Wh R2).trans s3) (CA rfl R2 h3)
  .have e:i=xs.length:=by omega
   subst e;rw[a1x]at q';exact .inl ⟨io'.2,q' P' H' σ' (R2.AY R')⟩
def Fs(hi:LI C S false wi mi)(hg:LG C S S1 g mg)(hb:LS C S1 S S S tb mb):LS C S S Sb Sc (Ek wi g tb) (Xx mi mg mb):=λB P H σ ρ R D q=>uQ (hi B P H σ ρ R) hg hb R D q
def k_(hp:PassesOwn (NO X) X.A X.env X.xe)(hc:X.calm=true)(hi:IM X C S false tg qP mi)(hg:GM X C S S1 tg mg)(hb:SsM X C S1 S S S body mb)(hs:∀x,foldedSetIterable qP X.env x=pure x:=by intro _;rfl):
  SM X C S S Sb Sc (.For tg qP body [] pos) (Xx mi mg mb):=λhK=>by
 obtain⟨wi,a1,a2⟩:=hi hK;obtain⟨g,b1,b2⟩:=hg hK;obtain⟨tb,c1,c2⟩:=hb hK;exact⟨_,nN hp hc a1 b1 c1 hs,Fs a2 b2 c2⟩
def js(c:MT)(b:MS):Nat->Sto->Out Fw
 |0,_=>.wall
 |n+1,ρ=>(c ρ).bind λt=>if t=true then(b ρ).bind λf=>match f with
   |.nx ρ2=>js c b n ρ2
   |.ct ρ2=>js c b n ρ2
   |.bk ρ2=>.ok (.nx ρ2)
   |.rt v=>.ok (.rt v)
  else .ok (.nx ρ)
open Classical in
def Ut(c:MT)(b:MS):MS:=λρ=>if h:∃n,js c b n ρ≠.wall then js c b (choose h) ρ else .wall
def uR(hc:LT C S tc c)(hb:LS C S S S S tb b):LS C S S Sb Sc (Aq tc tb) (Ut c b):=λB P H σ ρ R D q=>by
 unfold Ut at q;split at q
 .rename_i h;generalize Classical.choose h=n0 at q;refine⟨λn σ' H'=>∃ρ' P',Rel C.W B S P' H' σ' ρ'/\k9 C B S Sb Sc D (js c b n ρ'),⟨n0,ρ,P,R,q⟩,?_⟩
  rintro n σ' H' ⟨ρ',P',R',q'⟩
  cases n with
  |zero=>exact q'.elim
  |succ n=>
   refine hc B P' H' σ' ρ' R' _ ?_;unfold js at q';revert q';cases c ρ' with
   |exc c fs=>exact id
   |wall=>exact id
   |ok k=>
    intro q' H1 s1;cases k with
    |false=>exact AG (q' P' H1 σ' (R'.keep s1))
    |true=>
     refine AI ⟨λσ2 H2=>∃ρ' P',Rel C.W B S P' H2 σ2 ρ'/\k9 C B S Sb Sc D (js c b n ρ'),λσ2 H2 h=>⟨n,a0r n,h⟩,hb B P' H1 σ' ρ' (R'.keep s1) _ ?_⟩;have q':k9 C B S Sb Sc D ((b ρ').bind λf=>match f with
      |.nx ρ2=>js c b n ρ2
      |.ct ρ2=>js c b n ρ2
      |.bk ρ2=>.ok (.nx ρ2)
      |.rt v=>.ok (.rt v)):=q'
     revert q';cases b ρ' with
     |exc c fs=>exact id
     |wall=>exact id
     |ok f=>
      cases f with
      |nx ρ2=>exact λq' P3 H3 σ3 R3=>⟨ρ2,P3,R3,q'⟩
      |ct ρ2=>exact λq' P3 H3 σ3 R3=>⟨ρ2,P3,R3,q'⟩
      |bk ρ2=>exact λq'=>q'
      |rt x=>exact λq'=>q'
 .exact q.elim
def uS(hp:PassesOwn (NO X) X.A X.env X.xe)(hc:TM X C S c mc)(hb:SsM X C S S S S body mb):SM X C S S Sb Sc (.While c body [] pos) (Ut mc mb):=λhK=>by obtain⟨tc,a1,a2⟩:=hc hK;obtain⟨tb,c1,c2⟩:=hb hK;exact⟨_,tY hp a1 c1,uR a2 c2⟩
end
def LEn(C:LC)(S:MB)(te:TE)(m:ME):Prop:=∀B P H σ ρ,Rel C.W B S P H σ ρ->∀Q,zJ C B H (λH2=>yG C.W (NA B S P) (Mof B S P) H2) Q (m ρ)->te σ H Q
def EN(X:Cx)(C:LC)(S:MB)(e:MR)(m:ME):Prop:=X.K=C.W.K->∃te,PE X e te/\LEn C S te m
section
variable {X:Cx}{C:LC}{S S' S1 Sb Sc:MB}{e a b o qP tg:MR}{es:MK}{w w1 w2:Bool}{ws:MP}{m m1 m2:ME}{ms:MA}{t1:MT}{s1 s2:MS}{pos p pos':Pos}{x:Str}{st:Nq}{sts stt:Nk}{i:Nat}
def Mof.na{B:Bs}{P:MN}{a:Addr}(m:Mof B S P a):NA B S P a:=⟨m.1.2,m.2⟩
def EM.en(h:EM X C S false e m):EN X C S e m:=λhK=>by obtain⟨te,a1,a2⟩:=h hK;exact⟨te,a1,λB P H σ ρ R Q q=>a2 B P H σ ρ R Q (ZT q λx v H2 s hr=>yG.sub hr (λa m _=>Mof.na m) λ_ m _=>m)⟩
def KJ(h:PE X e (eC i))(hS:S[i]?=some 1:=by rfl):EN X C S e (zc i):=λ_=>⟨_,h,λB P H σ ρ R Q q=>lv R q λx v hv e=>by
 obtain⟨v',hv',_,h3,_⟩:=R.var i x e;rw[hv]at hv';cases hv';refine yG.sub (h3 hS) (λa n _=>?_) λ_ m _=>m;have h0:=B.nz a n;exact⟨λz=>h0 (R.exc a z).choose_spec.2.2,λj hj e=>h0 (e▸(R.act j hj).1)⟩⟩
def Lm(K:Nh)(tl:TE):TI:=λσ H R=>tl σ H λx H1=>(∃a,x=.ref a/\(∃xs,SqL K H1 a xs)/\R (Itl K a) H1)\/∃a,x=.ref a/\(∃xs,SqT K H1 a xs)/\R (Itt K a) H1
def AZ(hl:PE X l tl):PI X tg l (Lm X.K tl):=by
 intro pins s σ H R I h;refine thn (hl pins s σ H _ I h) λv s1 ⟨x,H1,I1,r1,q1⟩=>?_;rcases q1 with⟨a,e,⟨xs,hq⟩,q⟩|⟨a,e,⟨xs,hq⟩,q⟩
 .subst e;cases r1;obtain⟨its,rv,p,hz⟩:=I1.list hq;refine wpAny_pyIter_list p.isList ?_;refine⟨s1.heap.objs.size,[s1.heap.objs.size],_,_,H1,rfl,I1.kept (t':=s1.toks) λb o e=>M6 _ e,nJ a _,⟨_,O8 _ rfl,rfl,rfl⟩,λb hb=>?_,q⟩;have e:b=s1.heap.objs.size:=by simpa using hb
  subst e;exact I1.DT (M7 _) (I1.hok.fresh (M7 _))
 .subst e;cases r1;obtain⟨its,rv,p,hz⟩:=I1.tuple hq;refine wpAny_pyIter_tuple (show s1.heap.IsTuple a its.toArray from p) ?_;refine⟨s1.heap.objs.size,[s1.heap.objs.size],_,_,H1,rfl,I1.kept (t':=s1.toks) λb o e=>M6 _ e,lM a _,⟨_,O8 _ rfl,rfl,rfl⟩,λb hb=>?_,q⟩;have e:b=s1.heap.objs.size:=by simpa using hb
  subst e;exact I1.DT (M7 _) (I1.hok.fresh (M7 _))
def pq{W:RC}{K:Nh}{M N:MF}{H2:Hp}{a:Addr}{xs:MX}{vs:ML}(hMN:∀a,M a->N a)(h:∀H',Fr N H2 H'->SqL K H' a vs)(r:zI W M H2 xs vs):Cy W M N H2 (Itl K a) xs:=λH' f=>by refine⟨λi x hx=>?_,vs,h H' f,by rw[r.len];exact M7 _⟩;obtain⟨v,hv,rv⟩:=r.get hx;refine⟨⟨vs,v,h H' f,hv⟩,λv' H'' hy=>?_⟩;obtain⟨rfl,y⟩:=hy;have:=y vs (h _ f);rw[hv]at this;cases this;exact⟨zl.refl _,λM' sM=>Rep.gen (λa o h m=>f a o h (m.imp (hMN a) id)) (λa m n=>sM a m n) rv⟩
def Ft{W:RC}{K:Nh}{M N:MF}{H2:Hp}{a:Addr}{xs:MX}{vs:ML}(hMN:∀a,M a->N a)(h:∀H',Fr N H2 H'->SqT K H' a vs)(r:zI W M H2 xs vs):Cy W M N H2 (Itt K a) xs:=λH' f=>by refine⟨λi x hx=>?_,vs,h H' f,by rw[r.len];exact M7 _⟩;obtain⟨v,hv,rv⟩:=r.get hx;refine⟨⟨vs,v,h H' f,hv⟩,λv' H'' hy=>?_⟩;obtain⟨rfl,y⟩:=hy;have:=y vs (h _ f);rw[hv]at this;cases this;exact⟨zl.refl _,λM' sM=>Rep.gen (λa o h m=>f a o h (m.imp (hMN a) id)) (λa m n=>sM a m n) rv⟩
def items:PV->Out (List PV)
 |.l xs=>.ok xs
 |.t xs=>.ok xs
 |.sc ns=>.ok (ns.map PV.i)
 |_=>.wall
def yn(m:ME):MI:=λρ=>(m ρ).bind items
variable {cc:Bool}
def Mof.nac{B:Bs}{P:MN}{a:Addr}(m:Mof B S P a):NAc cc B S P a:=by
 unfold NAc;cases cc with
 |true=>rw[if_pos rfl];trivial
 |false=>rw[if_neg O2];exact Mof.na m
def pw(hK:X.K=C.W.K)(a2:∀B P H σ ρ,Rel C.W B S P H σ ρ->∀Q,zJ C B H (λH2=>yG C.W (NAc cc B S P) (Mof B S P) H2) Q (m ρ)->te σ H Q):LI C S cc (Lm X.K te) (yn m):=λB P H σ ρ R Q q=>by
 refine a2 B P H σ ρ R _ ?_;unfold yn at q;revert q;cases m ρ with
 |exc c fs=>exact id
 |wall=>exact id
 |ok y=>
  intro q v H2 s r;cases y with
  |l xs=>obtain⟨p,vs,rfl,n,hp,rr⟩:=r;exact .inl ⟨p,rfl,⟨vs,SqL.of hp⟩,q _ H2 s (pq (λa m=>Mof.nac m) (λH' f=>SqL.of (f _ _ hp (.inl n))) rr)⟩
  |t xs=>obtain⟨p,vs,rfl,hp,rr⟩:=r;rw[<- hK]at hp;exact .inr ⟨p,rfl,⟨vs,hp⟩,q _ H2 s (Ft (λa m=>Mof.nac m) (λH' f=>f.sqT hp) rr)⟩
  |sc ns=>obtain⟨p,rfl,hp⟩:=r;rw[<- hK]at hp;exact .inl ⟨p,rfl,⟨_,hp.sq⟩,q _ H2 s (pq (vs:=ns.map V.int) (λa m=>Mof.nac m) (λH' f=>(hp.frame f).sq) zI.ints)⟩
  |_=>exact q.elim
def ZY(h:EN X C S e m):IM X C S false tg e (yn m):=λhK=>by obtain⟨te,a1,a2⟩:=h hK;exact⟨_,AZ a1,pw hK a2⟩
def QO(h:EM X C S w e m):IM X C S true tg e (yn m):=λhK=>by obtain⟨te,a1,a2⟩:=h hK;exact⟨_,AZ a1,pw hK λB P H σ ρ R Q q=>a2 B P H σ ρ R Q (ZT q λx v H2 s r=>r.weak)⟩
def nu(lo:Int)(n:Nat):List PV:=(List.range n).map λk=>.i (lo+(k:Nat))
def CB{lo:Int}{n i:Nat}{x:PV}(h:(nu lo n)[i]?=some x):i<n/\x=.i (lo+i):=by unfold nu at h;rw[P2]at h;obtain⟨k,hk,rfl⟩:=t0.mp h;rw[N7]at hk;obtain⟨h1,h2⟩:=hk;rw[T4]at h1;rw[a1l]at h2;subst h2;exact⟨h1,rfl⟩
def CC{lo:Int}{n:Nat}:(nu lo n).length=n:=by unfold nu;rw[u8,T4]
def Fu{W:RC}{M N:MF}{H2:Hp}{lo:Int}{n:Nat}:Cy W M N H2 (Itr lo n) (nu lo n):=λH' f=>by refine⟨λi x hx=>?_,by rw[CC];exact M7 _⟩;obtain⟨hi,rfl⟩:=CB hx;refine⟨hi,λv H'' hy=>?_⟩;obtain⟨rfl,rfl⟩:=hy;exact⟨zl.refl _,λ_ _=>rfl⟩
def px:List PV->Out (List PV)
 |[.i n]=>if -(2 ^ 62)<=n/\n<2 ^ 62 then .ok (nu 0 n.toNat)else .wall
 |_=>.wall
def Q9(ms:MA):MI:=λρ=>(ms ρ).bind px
def Kb(hg:Gl X "range")(hm:X.mg "range"=none)(ha:AM X C S ws [a] ms)(hs:starEach [a] X.env=[(false,eval a X.env)]:=by rfl):IM X C S cc tg (.Call (.Name "range" p) [a] [] pos) (Q9 ms):=λhK=>by
 obtain⟨ta,a1,a2⟩:=ha hK;refine⟨_,nK hg hm a1 hs,λB P H σ ρ R Q q=>a2 B P H σ ρ R _ ?_⟩;unfold Q9 at q;revert q;cases ms ρ with
 |exc c fs=>exact id
 |wall=>exact id
 |ok xs=>
  intro q vs H2 s r;have r:=r.weak;have q:ph C B S P cc H Q (px xs):=q;unfold px at q;split at q
  .split at q
   .rename_i hn;obtain⟨v,r',rfl,hx,hr⟩:=r;cases(show _=_ from hr);cases(show _=_ from hx);exact⟨_,rfl,hn.1,hn.2,q _ H2 s Fu⟩
   .exact q.elim
  .exact q.elim
end
def noX{α:Type}:Out α->Out α
 |.exc _ _=>.wall
 |o=>o
def lcP(g:MG)(c:MT)(e:ME):List PV->Sto->List PV->Out PV
 |[],_,acc=>.ok (.l acc)
 |x::xs,ρ,acc=>(wu (g x ρ)).bind λρ1=>(noX (c ρ1)).bind λt=>if t=true then(noX (e ρ1)).bind λy=>if acc.length<sizeLine then lcP g c e xs ρ1 (acc++[y])else .wall else lcP g c e xs ρ1 acc
def au(ρ:Sto)(fr:MW):Sto:=fr.map λo=>match o with|none=>none|some j=>(ρ[j]?).join
def mLC(mi:MI)(fr:MW)(g:MG)(c:MT)(e:ME):ME:=λρ=>(mi ρ).bind λxs=>lcP g c e xs (au ρ fr) []
def uT:MT:=λ_=>.ok true
def inS(S:MB)(fr:MW):List Nat:=fr.map λo=>match o with|none=>0|some j=>if S[j]?=some 2\/S[j]?=some 1 then 1 else 0
def lcB(B:Bs)(S:MB)(P:MN)(H:Hp)(acc:Addr):Bs:=⟨H,Mof B S P,λa=>H a≠none,λ_ h=>h,none,λa=>a=acc⟩
def fe{S:MB}{fr:MW}{k c:Nat}(h:(inS S fr)[k]?=some c):c≠2:=by
 unfold inS at h;rw[P2]at h;obtain⟨o,ho,e⟩:=t0.mp h;intro z;rw[z]at e;cases o with
 |none=>cases e
 |some j=>dsimp only at e;split at e<;>cases e
section
variable {X:Cx}{C:LC}{S S' S1 Sb Sc:MB}{e a b o qP tg elt:MR}{es ifs:MK}{w w1 w2:Bool}{ws:MP}{m m1 m2 me:ME}{ms:MA}{t1 mc:MT}{mg:MG}{mi:MI}{s1 s2:MS}{pos p pos':Pos}{x:Str}{st:Nq}{sts stt:Nk}{i:Nat}{scope:Scope}
def Rel.comp{W:RC}{B:Bs}{P:MN}{H H':Hp}{σ:St}{ρ:Sto}{acc:Addr}{fr:MW}{ys:ML}(R:Rel W B S P H σ ρ)(ha:H acc=none)(s:zl H H')(hy:H' acc=some (.lst ys)):Rel W (lcB B S P H acc) (inS S fr) (λ_=>0) H' (tM σ fr) (au ρ fr):=by
 have n2:∀{k:Nat},(inS S fr)[k]?=some 2->False:=λ{k} h=>fe h rfl;have sM:∀a,Mof B S P a->H a≠none->Mof (lcB B S P H acc) (inS S fr) (λ_=>0) a:=λa m n=>⟨⟨.inl m,λz=>n ((show a=acc from z)▸ha)⟩,λi hi=>(n2 hi).elim⟩;refine⟨s,by unfold tM au;rw[u8,u8],λk x e=>?_,λi hi=>(n2 hi).elim,λi j hi=>(n2 hi).elim,λhi=>(n2 hi).elim,λa h=>?_,λi hi=>(n2 hi).elim⟩
 .unfold au at e;rw[P2]at e;obtain⟨o,ho,e⟩:=t0.mp e;cases o with
  |none=>cases e
  |some j=>
   have e:(ρ[j]?).join=some x:=e;have hj:ρ[j]?=some (some x):=by
    cases q:ρ[j]? with
    |none=>rw[q]at e;cases e
    |some z=>rw[q]at e;cases z with
     |none=>cases e
     |some z=>cases e;rfl
   obtain⟨v,hv,h2,h3,h4⟩:=R.var j x hj;have hS:(inS S fr)[k]?=some (if S[j]?=some 2\/S[j]?=some 1 then 1 else 0):=by unfold inS;rw[P2,ho];rfl
   refine⟨v,by unfold tM;rw[P2,ho];show some ((σ[j]?).join)=_;rw[hv];rfl,λz=>(n2 z).elim,λz=>?_,λz z'=>?_⟩
   .rw[hS]at z;by_cases c2:S[j]?=some 2
    .obtain⟨rfl,ra⟩:=h2 c2;obtain⟨_,o,eo,_⟩:=R.act j c2;exact((ra.GX (N:=λa=>H a≠none) (by rw[eo];intro z;cases z)).sub (λ_ m _=>m) sM).same s
    .by_cases c1:S[j]?=some 1
     .exact((h3 c1).sub (λa n q=>(R.hz a n).2) sM).same s
     .rw[if_neg (by rintro(q|q);exact c2 q;exact c1 q)]at z;cases z
   .rw[hS]at z';by_cases c:S[j]?=some 2\/S[j]?=some 1
    .rw[if_pos c]at z';exact absurd rfl z'
    .exact((h4 (λq=>c (.inl q)) (λq=>c (.inr q))).sub sM).same s
 .cases(show a=acc from h);exact⟨_,hy,id,ha⟩
def TsM(X:Cx)(C:LC)(S:MB)(ifs:MK)(m:MT):Prop:=X.K=C.W.K->∃tt,PTs X ifs tt/\LT C S tt m
def Uu:TsM X C S [] uT:=λ_=>⟨_,Ca,λB P H σ ρ R Q q=>q H (zl.refl _)⟩
def A4(h:TM X C S c t1):TsM X C S [c] t1:=λhK=>let⟨tt,a1,a2⟩:=h hK;⟨tt,Cb a1,a2⟩
def aw{ι:Type}{Y:ι->Cx}(h:∀z,EM (Y z) C S w e m)(hK:∀z,(Y z).K=C.W.K):∃te,(∀z,PE (Y z) e te)/\LE C S w te m:=
 ⟨λσ H Q=>∀z,(Classical.choose (h z (hK z))) σ H Q,λz pins s σ H Q I q=>(S4 (h z (hK z))).1 pins s σ H Q I (q z),λB P H σ ρ R Q q z=>(S4 (h z (hK z))).2 B P H σ ρ R Q q⟩
def ax{ι:Type}{Y:ι->Cx}(h:∀z,TsM (Y z) C S ifs mc)(hK:∀z,(Y z).K=C.W.K):∃te,(∀z,PTs (Y z) ifs te)/\LT C S te mc:=
 ⟨λσ H Q=>∀z,(Classical.choose (h z (hK z))) σ H Q,λz pins s σ H Q I q=>(S4 (h z (hK z))).1 pins s σ H Q I (q z),λB P H σ ρ R Q q z=>(S4 (h z (hK z))).2 B P H σ ρ R Q q⟩
def ay{ι:Type}{Y:ι->Cx}(h:∀z,GM (Y z) C S S1 tg mg)(hK:∀z,(Y z).K=C.W.K):∃g,(∀z,PG (Y z) tg g)/\LG C S S1 g mg:=
 ⟨λv σ H Q=>∀z,(Classical.choose (h z (hK z))) v σ H Q,λz pins s σ H v u Q I r q=>(S4 (h z (hK z))).1 pins s σ H v u Q I r (q z),λB P H σ ρ x v R r Q q z=>(S4 (h z (hK z))).2 B P H σ ρ x v R r Q q⟩
def CD{wi:TI}{g:TG}{tc:TT}{te:TE}{fr:MW}{Si:MB}{W:RC}{B:Bs}{P:MN}{H:Hp}{σ:St}{ρ:Sto}(hi:∀R:It->Hp->Prop,ph C B S P true H R (mi ρ)->wi σ H R)(hW:W=C.W)(hS:Si=inS S fr)(hg:LG ⟨W,E0,false⟩ Si Si g mg)(ht:LT ⟨W,E0,false⟩ Si tc mc)(he:LE ⟨W,E0,false⟩ Si false te me)(R:Rel C.W B S P H σ ρ)(Q:VK)(q:zJ C B H (RFr C.W (Mof B S P) H) Q (mLC mi fr mg mc me ρ)):tLC wi g tc te fr σ H Q:=by
 subst hW hS;refine hi _ ?_;unfold mLC at q;revert q;cases mi ρ with
 |exc c fs=>exact id
 |wall=>exact id
 |ok xs=>
  intro q J H1 s1 io acc ha;have R1:=R.keep s1;have q:zJ C B H (RFr C.W (Mof B S P) H) Q (lcP mg mc me xs (au ρ fr) []):=q;have sM:∀a,Mof (lcB B S P H1 acc) (inS S fr) (λ_=>0) a->Mof B S P a/\a≠acc:=λa m=>⟨m.1.1.elim id λn=>R1.new a n,m.1.2⟩;refine⟨λi n σ' H'=>n=xs.length-i/\i<=xs.length/\∃ρ' ys vs,Rel C.W (lcB B S P H1 acc) (inS S fr) (λ_=>0) H' σ' ρ'/\H' acc=some (.lst vs)/\zI C.W (Mof (lcB B S P H1 acc) (inS S fr) (λ_=>0)) H' ys vs/\zJ C B H (RFr C.W (Mof B S P) H) Q (lcP mg mc me (xs.drop i) ρ' ys),
   ⟨_,rfl,S7 _,au ρ fr,[],[],R1.comp ha (zl.upd ha) zd,zd,rfl,q⟩,?_⟩
  rintro i n σ' H' ⟨rfl,hle,ρ',ys,vs,R',hacc,rys,q'⟩
  have io':=io H' (zl.fr R'.same);by_cases hlt:i<xs.length
  .have hx:xs[i]?=some xs[i]:=N6 hlt;obtain⟨go,yl⟩:=io'.1 i _ hx;refine .inr ⟨go,λσ2 H2'=>i+1<=xs.length/\∃ρ' ys vs,Rel C.W (lcB B S P H1 acc) (inS S fr) (λ_=>0) H2' σ2 ρ'/\H2' acc=some (.lst vs)/\zI C.W (Mof (lcB B S P H1 acc) (inS S fr) (λ_=>0)) H2' ys vs/\zJ C B H (RFr C.W (Mof B S P) H) Q (lcP mg mc me (xs.drop (i+1)) ρ' ys),λσ2 H2' h=>⟨xs.length-(i+1),by omega,rfl,h.1,h.2⟩,λv H'' hy=>?_⟩;obtain⟨sy,ry⟩:=yl v H'' hy;have Ry:=R'.keep sy;have rx:=ry (Mof (lcB B S P H1 acc) (inS S fr) (λ_=>0)) λa m hn=>⟨⟨.inl m,λz=>hn ((show a=acc from z)▸ha)⟩,λj hj=>(fe hj rfl).elim⟩;rw[a0S hlt]at q';unfold lcP at q';cases hgx:mg xs[i] ρ' with
   |none=>rw[hgx]at q';exact q'.elim
   |some ρ1=>
    rw[hgx]at q';refine hg _ _ H'' σ' ρ' _ v Ry rx _ ⟨ρ1,hgx,λσ1 R1'=>ht _ _ H'' σ1 ρ1 R1' _ ?_⟩;have q':zJ C B H (RFr C.W (Mof B S P) H) Q ((noX (mc ρ1)).bind λt=>if t=true then(noX (me ρ1)).bind λy=>if ys.length<sizeLine then lcP mg mc me (xs.drop (i+1)) ρ1 (ys++[y])else .wall else lcP mg mc me (xs.drop (i+1)) ρ1 ys):=q';revert q';cases mc ρ1 with
    |exc c fs=>exact λq'=>q'.elim
    |wall=>exact id
    |ok t=>
     intro q' H5 s5;have R5:=R1'.keep s5;have hacc5:=s5 _ _ (sy _ _ hacc);have rys5:=(rys.same sy).same s5;cases t with
     |false=>exact AG ⟨hlt,ρ1,ys,vs,R5,hacc5,rys5,q'⟩
     |true=>
      refine AI (he _ _ H5 σ1 ρ1 R5 _ ?_);have q':zJ C B H (RFr C.W (Mof B S P) H) Q ((noX (me ρ1)).bind λy=>if ys.length<sizeLine then lcP mg mc me (xs.drop (i+1)) ρ1 (ys++[y])else .wall):=q';revert q';cases me ρ1 with
      |exc c fs=>exact λq'=>q'.elim
      |wall=>exact id
      |ok y=>
       intro q' v6 H6 s6 r6;have q':zJ C B H (RFr C.W (Mof B S P) H) Q (if ys.length<sizeLine then lcP mg mc me (xs.drop (i+1)) ρ1 (ys++[y])else .wall):=q';split at q'
       .rename_i hz;have R6:=R5.keep s6;have fr6:Fr (Mof (lcB B S P H1 acc) (inS S fr) (λ_=>0)) H6 (upd H6 acc (.lst (vs++[v6]))):=λa o h m=>by
         have:a≠acc:=λz=>by
          rcases m with m|m
          .exact m.1.2 z
          .rw[z,s6 _ _ hacc5]at h;cases h;exact m
         rw[zg this];exact h
        exact⟨vs,s6 _ _ hacc5,by rw[rys5.len];exact hz,hlt,ρ1,ys++[y],vs++[v6],R6.wrx (show(lcB B S P H1 acc).xc acc from rfl) (by exact id),zd,((rys5.same s6).append (.cons r6.rep .nil)).gen fr6 λ_ m _=>m,q'⟩
       .exact q'.elim
  .have e:i=xs.length:=by omega
   subst e;rw[a1x]at q';exact .inl ⟨io'.2,q' _ H' (s1.trans R'.same) ⟨acc,rfl,zl.none s1 ha,vs,hacc,rys.sub λa m _=>sM a m⟩⟩
def CF{wi:TI}{g:TG}{tc:TT}{te:TE}{fr:MW}{Si:MB}{W:RC}(hi:LI C S true wi mi)(hW:W=C.W)(hS:Si=inS S fr)(hg:LG ⟨W,E0,false⟩ Si Si g mg)(ht:LT ⟨W,E0,false⟩ Si tc mc)(he:LE ⟨W,E0,false⟩ Si false te me):LFr C S (tLC wi g tc te fr) (mLC mi fr mg mc me):=λB P H σ ρ R Q q=>CD (hi B P H σ ρ R) hW hS hg ht he R Q q
abbrev CI:=List Addr×List (Addr×Obj)×Shared×Hp×Addr
abbrev cxI(X:Cx)(scope:Scope)(N:MD)(z:CI):Cx:=qo X scope N z.1 z.2.1 z.2.2.1 z.2.2.2.1 z.2.2.2.2
def pA(N:MD)(fr:MW)(Si:MB)(hc:X.calm=true)(hok:oy X scope N fr=true)(hi:IM X C S true tg qP mi)(hg:∀z:CI,GM (cxI X scope N z) ⟨C.W,E0,false⟩ Si Si tg mg)(ht:∀z:CI,TsM (cxI X scope N z) ⟨C.W,E0,false⟩ Si ifs mc)(he:∀z:CI,EM (cxI X scope N z) ⟨C.W,E0,false⟩ Si false elt me)(hS:Si=inS S fr:=by rfl)
  (hs:∀x,foldedSetIterable qP X.env x=pure x:=by intro _;rfl):FM X C S (.ListComp elt [⟨tg,qP,ifs,0⟩] scope pos) (mLC mi fr mg mc me):=λhK=>by
 obtain⟨wi,a1,a2⟩:=hi hK;obtain⟨g,b1,b2⟩:=ay hg λ_=>hK;obtain⟨tc,c1,c2⟩:=ax ht λ_=>hK;obtain⟨te,d1,d2⟩:=aw he λ_=>hK;exact⟨_,EV N fr hc hok a1 (λfp pn s H L=>b1 ⟨fp,pn,s,H,L⟩) (λfp pn s H L=>c1 ⟨fp,pn,s,H,L⟩) (λfp pn s H L=>d1 ⟨fp,pn,s,H,L⟩) hs,CF a2 rfl hS b2 c2 d2⟩
variable {y:Str}{nC py:Pos}
def Ig(N:MD)(fr:MW)(Si:MB)(hN:X.N.Nodup)(hy:X.N[i]?=some y)(hl:X.env.scope.names.lookup y=some .local)(hc:X.calm=true)(hok:oy X scope N fr=true)(hi:IM X C S true tg qP mi)(hg:∀z:CI,GM (cxI X scope N z) ⟨C.W,E0,false⟩ Si Si tg mg)(ht:∀z:CI,TsM (cxI X scope N z) ⟨C.W,E0,false⟩ Si ifs mc)(he:∀z:CI,EM (cxI X scope N z) ⟨C.W,E0,false⟩ Si false elt me)(hS:Si=inS S fr:=by rfl)
  (hsw:swapsWith (.ListComp elt [⟨tg,qP,ifs,0⟩] scope pos) (some (.Name y py)) nC.line X.env=pure true:=by rfl) (hs:∀x,foldedSetIterable qP X.env x=pure x:=by intro _;rfl):SM X C S (S.set i 0) Sb Sc (.Assign [.Name y py] (.ListComp elt [⟨tg,qP,ifs,0⟩] scope pos) nC) (y_ i (mLC mi fr mg mc me)):=λhK=>by
 obtain⟨wi,a1,a2⟩:=hi hK;obtain⟨g,b1,b2⟩:=ay hg λ_=>hK;obtain⟨tc,c1,c2⟩:=ax ht λ_=>hK;obtain⟨te,d1,d2⟩:=aw he λ_=>hK;refine⟨_,EW N fr hN hy hl hc hok a1 (λfp pn s H L=>b1 ⟨fp,pn,s,H,L⟩) (λfp pn s H L=>c1 ⟨fp,pn,s,H,L⟩) (λfp pn s H L=>d1 ⟨fp,pn,s,H,L⟩) hsw hs,AW λB P H σ ρ R Q q=>CF a2 rfl hS b2 c2 d2 B P H σ ρ R Q (ZT q λx v H2 s hr=>RV.of (hr.rep R.new))⟩
end
def ZZ(fr:Bool)(n:Nat)(ms:MS)(xs:MX):Out PV:=match ms (xs.map some++List.replicate (n-xs.length) none)with
 |.ok (.nx _)=>if fr=true then .wall else .ok .n
 |.ok (.rt x)=>.ok x
 |.ok (.bk _)=>.wall
 |.ok (.ct _)=>.wall
 |.exc c fs=>.exc c fs
 |.wall=>.wall
def QP(ws:MP)(n:Nat):List Nat:=ws.map (λw=>if w=true then 1 else 0)++List.replicate (n-ws.length) 0
def cH{ws:MP}{n k:Nat}:(QP ws n)[k]?≠some 2:=by
 unfold QP;rw[a1G];split
 .rw[P2];intro h;obtain⟨w,_,e⟩:=t0.mp h;split at e<;>cases e
 .rw[a0B];intro h;split at h<;>cases h
def qS.get{W:RC}{M:MF}{H:Hp}:∀{ws:MP}{xs:MX}{vs:ML}{k:Nat}{x:PV},qS W M H ws xs vs->xs[k]?=some x->∃v w,vs[k]?=some v/\ws[k]?=some w/\yG W (if w=true then λ_=>True else M) M H x v
 |[],_,_,_,_,⟨e1,e2⟩,h=>by subst e1;simp at h
 |w::ws,_,_,0,x,⟨y,v,xr,vr,e1,e2,h1,h2⟩,h=>by subst e1;subst e2;simp at h;subst h;exact⟨v,w,rfl,rfl,h1⟩
 |w::ws,_,_,k+1,x,⟨y,v,xr,vr,e1,e2,h1,h2⟩,h=>by subst e1;subst e2;simp only[List.getElem?_cons_succ]at h ⊢;exact qS.get h2 h
def cI{xs:MX}{n k:Nat}{x:PV}(h:(xs.map some++List.replicate (n-xs.length) none)[k]?=some (some x)):xs[k]?=some x:=by
 rw[a1G]at h;split at h
 .rw[P2]at h;obtain⟨y,hy,e⟩:=t0.mp h;cases e;exact hy
 .rw[a0B]at h;split at h<;>cases h
def pB(H:Hp)(M:MF):Bs:=⟨H,M,λa=>H a≠none,λ_ h=>h,none,λ_=>False⟩
def cJ(h:qS W M H ws xs vs)(hn:ws.length<=N.length):Rel W (pB H M) (QP ws N.length) (λ_=>0) H (start N vs) (xs.map some++List.replicate (N.length-xs.length) none):=by
 have n2:∀{k:Nat},(QP ws N.length)[k]?=some 2->False:=λ{k} h=>cH h;have sM:∀a,M a->H a≠none->Mof (pB H M) (QP ws N.length) (λ_=>0) a:=λa m _=>⟨⟨.inl m,id⟩,λi hi=>(n2 hi).elim⟩;obtain⟨l1,l2⟩:=h.len;refine⟨zl.refl _,?_,λk x e=>?_,λi hi=>(n2 hi).elim,λi j hi=>(n2 hi).elim,λhi=>(n2 hi).elim,λa h=>h.elim,λi hi=>(n2 hi).elim⟩
 .unfold start;rw[O6,O6,u8,u8,a0N,a0N,l1,l2]
 .obtain⟨v,w,hv,hw,r⟩:=h.get (cI e);have hk:k<vs.length:=(N7.mp hv).1;have hS:(QP ws N.length)[k]?=some (if w=true then 1 else 0):=by unfold QP;rw[T5 (by rw[u8,<- l1];exact hk),P2,hw];rfl
  refine⟨v,?_,λz=>(n2 z).elim,λz=>?_,λ_ z=>?_⟩
  .unfold L2.start;rw[T5 (by rw[u8];exact hk),P2,hv];rfl
  .rw[hS]at z;refine yG.sub r (λa _ n=>n) sM
  .rw[hS]at z;cases w with
   |true=>exact absurd rfl z
   |false=>exact(yG.iff.mp r).sub sM
section
variable {P:MV}{w:M_}{K:Nh}{mg:Mz}{base:Heap}
def zC{x qual:Str}{st:Nq}{f:Addr}{fd:Na}{N ps:MD}{k n:Nat}{W:RC}{fr:Bool}{ws:MP}{ms:MS}{S' Sb Sc:MB}(F:Fun K x qual st f fd)(S:zk N ps (zi st))(hW:K=W.K)(hl:ws.length=ps.length)(hN:N.length=n)(hn:ws.length<=n)
  (h:∀(cdv:Value)(A:Nb)(outer:List Env)(s:MH)(H:Hp)(E:XK),qQ k (A.deeper (envOfC qual (zi st) s.heap.objs.size f cdv))->SsM (thr (U3 (CXe P w) P w K mg base N qual (zi st) f cdv A outer s H E) E) ⟨W,E,fr⟩ (QP ws n) S' Sb Sc (vA st) ms):
  y8 P w K mg base (CXe P w) (k+1) f fd ps (lsp W fr ws (ZZ fr n ms)):=by
 subst hN;refine F.okX S (Co hl) λcdv A outer s H vs Q E hr ⟨M,xs,ha,q⟩=>?_;obtain⟨ts,t1,t2⟩:=h cdv A outer s H E hr hW;refine⟨ts,t1,t2 (pB H M) _ H _ _ (cJ ha hn) _ ?_⟩;unfold ZZ at q;revert q;cases ms (xs.map some++List.replicate (N.length-xs.length) none)with
 |exc c fs=>exact λq e dx es H2 s h1 h2 h3=>q e dx es H2 s h1 h2 h3
 |wall=>exact id
 |ok fl=>
  cases fl with
  |nx ρ'=>
   intro q P' H' σ' R';cases fr with
   |true=>exact q.elim
   |false=>exact q .non H' R'.same rfl
  |rt y=>exact λq v H' s r=>q v H' s r
  |bk ρ'=>exact λq=>q.elim
  |ct ρ'=>exact λq=>q.elim
def Ih(c:Nat)(n:Nat)(ms:MS)(xs:MX):Out PV:=match ms (some (.o c [])::(xs.map some++List.replicate (n-xs.length) none))with
 |.ok (.nx ρ)=>match ρ[0]? with
  |some (some x)=>.ok x
  |_=>.wall
 |.ok (.rt _)=>.wall
 |.ok (.bk _)=>.wall
 |.ok (.ct _)=>.wall
 |.exc c fs=>.exc c fs
 |.wall=>.wall
def bsI(H:Hp)(M:MF)(x:Addr):Bs:=⟨erase H x,M,λa=>erase H x a≠none,λ_ h=>h,some x,λ_=>False⟩
def YR:zl (erase H x) H:=λa o h=>by
 unfold erase at h;split at h
 .cases h
 .exact h
def my(h:qS W M (erase H x) ws xs vs)(hx:H x=some (.ins (W.cls c) dx []))(hN:N.length=n+1)(hn:ws.length<=n):
  Rel W (bsI H M x) (2::QP ws n) (λ_=>x) H (start N (.ref x::vs)) (some (.o c [])::(xs.map some++List.replicate (n-xs.length) none)):=by
 have e0:erase H x x=none:=by unfold erase;rw[if_pos rfl]
 have n2:∀{k:Nat},(2::QP ws n)[k]?=some 2->k=0:=λ{k} h=>by
  cases k with
  |zero=>rfl
  |succ k=>rw[P6]at h;exact(cH h).elim
 have sM:∀a,M a->erase H x a≠none->Mof (bsI H M x) (2::QP ws n) (λ_=>x) a:=λa m z=>⟨⟨.inl m,id⟩,λi hi q=>z (q▸e0)⟩;obtain⟨l1,l2⟩:=h.len;refine⟨YR,?_,λk y e=>?_,λi hi=>⟨e0,_,hx,id⟩,λi j hi hj _=>(n2 hi).trans (n2 hj).symm,λhi p hp=>(T1 hp),λa h=>h.elim,λi hi=>id⟩
 .unfold L2.start;simp only[List.length_cons,List.length_append,List.length_map,List.length_replicate,l1,l2,hN];omega
 .cases k with
  |zero=>cases e;exact⟨.ref x,rfl,λ_=>⟨rfl,dx,[],hx,rfl⟩,(λz=>by cases z),λz=>absurd rfl z⟩
  |succ k=>
   rw[P6]at e;obtain⟨v,w,hv,hw,r⟩:=h.get (cI e);have hk:k<vs.length:=(N7.mp hv).1;have hS:(2::QP ws n)[k+1]?=some (if w=true then 1 else 0):=by rw[P6];unfold QP;rw[T5 (by rw[u8,<- l1];exact hk),P2,hw];rfl
   have r2:yG W (if w=true then λ_=>True else M) M H y v:=yG.same r YR;refine⟨v,?_,(λz=>by cases(n2 z)),λz=>?_,λ_ z=>?_⟩
   .unfold L2.start;rw[N5,List.cons_append,P6,T5 (by rw[u8];exact hk),P2,hv];rfl
   .exact yG.same (yG.sub r (λa _ n=>n) sM) YR
   .rw[hS]at z;cases w with
    |true=>exact absurd rfl z
    |false=>exact Rep.same ((yG.iff.mp r).sub sM) YR
def pC{x qual:Str}{st:Nq}{f:Addr}{fd:Na}{N ps:MD}{k n c:Nat}{W:RC}{ws:MP}{ms:MS}{S' Sb Sc:MB}(F:Fun K x qual st f fd)(S:zk N ps (zi st))(hW:K=W.K)(hl:ws.length+1=ps.length)(hN:N.length=n+1)(hn:ws.length<=n)(h2:S'[0]?=some 2)
  (h:∀(cdv:Value)(A:Nb)(outer:List Env)(s:MH)(H:Hp)(E:XK),qQ k (A.deeper (envOfC qual (zi st) s.heap.objs.size f cdv))->SsM (thr (U3 (CXe P w) P w K mg base N qual (zi st) f cdv A outer s H E) E) ⟨W,E,false⟩ (2::QP ws n) S' Sb Sc (vA st) ms):
  y8 P w K mg base (CXe P w) (k+1) f fd ps (G9 W c ws (Ih c n ms)):=by
 refine F.okX S (uL hl) λcdv A outer s H vs Q E hr ⟨M,x,dx,xs,avs,e,hx,ha,q⟩=>?_;subst e;obtain⟨ts,t1,t2⟩:=h cdv A outer s H E hr hW;refine⟨ts,t1,t2 (bsI H M x) _ H _ _ (my ha hx hN hn) _ ?_⟩;unfold Ih at q;revert q;cases ms (some (.o c [])::(xs.map some++List.replicate (n-xs.length) none))with
 |exc c fs=>exact λq e dx es H2 s h1 h2 h3=>q e dx es H2 s h1 h2 h3
 |wall=>exact id
 |ok fl=>
  cases fl with
  |nx ρ'=>
   intro q P' H' σ' R';have q:Ll W M H x Q E (match ρ'[0]? with|some (some x)=>.ok x|_=>.wall):=q;split at q
   .rename_i y hy;obtain⟨_,ra,_⟩:=R'.at2 h2 hy;have e:=R'.pin h2 x rfl;rw[e]at ra;exact q H' R'.same (ra.gen rfl Fr.refl λa m _=>⟨m.1.1,λz=>m.2 0 h2 (e.trans z.symm)⟩)
   .exact q.elim
  |rt y=>exact λq=>q.elim
  |bk ρ'=>exact λq=>q.elim
  |ct ρ'=>exact λq=>q.elim
end
def tS(C:Addr)(fs:MD):Sp:=λvs H Q _=>∃e us,vs=.ref e::us/\us.length=fs.length/\H e=some (XO e C none .none)/\∀dx,H dx=none->Q .non (upd (upd H dx (XD dx (fs.zip us))) e (XO e C (some dx) .none))
def Zo(c:Nat)(fns:MD)(ms:MA):MS:=λρ=>(ms ρ).bind λxs=>if xs.length=fns.length/\xs.length<=1000 then .exc c (fns.zip xs)else .wall
def jq.zip{W:RC}{M:MF}{H:Hp}:∀{fns:MD}{xs:MX}{vs:ML},zI W M H xs vs->xs.length=fns.length->jq W M H (fns.zip xs) (fns.zip vs)
 |[],[],_,h,_=>by cases(show _=_ from h);rfl
 |f::fns,x::xs,_,h,e=>by obtain⟨v,r,rfl,h1,h2⟩:=h;exact⟨v,_,rfl,h1,jq.zip h2 (by simpa using e)⟩
 |[],_::_,_,_,e=>by cases e
 |_::_,[],_,_,e=>by cases e
def jE(hh:X.calm=true)(M:XMk X.K (C.W.cls c) f)(xc:ZQ X.K (C.W.cls c))(F:y8 X.prog X.w X.K X.mg X.base (CXe X.prog X.w) k f fd ps (tS (C.W.cls c) fns))(hr:qQ (k+1) X.A)(hg:Gl X x)(hm:X.mg x=some (.ref (C.W.cls c)))(hb:Binds X.K fd ps [])
  (ha:AM (thr X C.E) C S ws (e::es) ms) (hw:ws.all (!·)=true:=by rfl) (hdb:(x==("__debug__":Str))=false:=by decide) (he:starEach (e::es) X.env=(false,eval e X.env)::starEach es X.env:=by rfl) (hpl:(backTo vz (starEach es X.env)).any (·.1)=false:=by rfl):
  SM (thr X C.E) C S S' Sb Sc (.Raise (some (.Call (.Name x p) (e::es) [] vz)) none pos) (Zo c fns ms):=λhK=>by
 obtain⟨ta,a1,a2⟩:=ha hK;refine⟨_,uq hh (uo (X:=thr X C.E) M F hr hg hm hb zR a1 hdb he hpl),λB P H σ ρ R D q=>?_⟩;show ta σ H _;refine a2 B P H σ ρ R _ ?_;unfold Zo at q;revert q;cases ms ρ with
 |exc c fs=>exact id
 |wall=>exact id
 |ok xs=>
  intro q vs H1 s1 r1;have rs:=r1.GZ hw;have q:k9 C B S' Sb Sc D (if xs.length=fns.length/\xs.length<=1000 then .exc c (fns.zip xs)else .wall):=q;split at q
  .rename_i hz;refine⟨by rw[rs.len];exact hz.2,λy hy=>⟨y,vs,rfl,by rw[rs.len];exact hz.1,zd,λdx hdx=>⟨rfl,y,_,dx,rfl,hK▸xc,zd,?_⟩⟩⟩;have ne:dx≠y:=λz=>by rw[z,zd]at hdx;cases hdx
   rw[zg ne]at hdx;rw[wJ];have sm:zl H1 (upd (upd (upd H1 y (XO y (C.W.cls c) none .none)) dx (XD dx (fns.zip vs))) y (XC y (C.W.cls c) dx)):=λb q hb=>by rw[zg (yd hb hy),zg (yd hb hdx),zg (yd hb hy)];exact hb
   exact q y dx (fns.zip vs) _ (R.same.trans (s1.trans sm)) zd (by rw[zg ne,zd]) ((jq.zip rs hz.1).gen sm.fr λa m _=>m.1.1)
  .exact q.elim
def Q_{S:MB}{i:Nat}:∀j:Nat,(S.set i 0)[j]?=some 2->S[j]?=some 2:=λ_ h=>(yL (c:=0) h).1
def mz:PV->PV->Out PV
 |.l a,.l b=>if a.length+b.length<=sizeLine then .ok (.l (a++b))else .wall
 |_,_=>.wall
section
variable {X:Cx}{C:LC}{S:MB}{e a b:MR}{w w1 w2:Bool}{m m1 m2:ME}{pos:Pos}
def A5(h1:EM X C S w1 a m1)(h2:EM X C S w2 b m2):FM X C S (.BinOp a .Add b pos) (mOp mz m1 m2):=λhK=>by
 obtain⟨ta,a1,a2⟩:=h1 hK;obtain⟨tb,b1,b2⟩:=h2 hK;refine⟨_,El AD a1 b1,λB P H σ ρ R Q q=>a2 B P H σ ρ R _ (wM q λx v H1 s1 r1 q1=>b2 B P H1 σ ρ (R.keep s1) _ (wM q1 λy u H2 s2 r2 q2=>?_))⟩;have r1:=r1.same s2;unfold mz at q2;split at q2
 .split at q2
  .rename_i hz;obtain⟨p,vs,rfl,_,hp,rr⟩:=r1;obtain⟨p',vs',rfl,_,hp',rr'⟩:=r2;exact⟨p,p',vs,vs',rfl,rfl,hp,hp',by rw[rr.len,rr'.len];exact hz,λz hz=>q2 _ _ (zl.upd hz) (ZV (rr.append rr') hz)⟩
  .exact q2.elim
 .exact q2.elim
def pD:ME:=λ_=>.ok (.d [])
def ff:FM X C S (.Dict [] [] pos) pD:=λhK=>⟨_,ue,λB P H σ ρ R Q q=>λp hp=>q _ _ (zl.upd hp) (Cm (xs:=[]) (vs:=[]) rfl hp)⟩
end
section
variable {α β:Type}
def kD{a:α}{f:α->Out β}:(Out.ok a).bind f=f a:=rfl
def Uv(h1:-(2 ^ 64)<a)(h2:a<2 ^ 64):Y2 (.i a) (.i b)=.ok (.i (a*b)):=by show(if Ar a b\/_ then _ else _)=_;rw[if_pos (.inl (.inl ⟨h1,h2⟩))]
def A6(h1:0<b)(h2:b<1073741824):kg (.i a) (.i b)=.ok (.i (a / b)):=by show(if DU a b then _ else _)=_;rw[if_pos ⟨h1,h2⟩]
def vc(h1:0<b):zS (.i a) (.i b)=.ok (.i (a % b)):=by show(if 0<b then _ else _)=_;rw[if_pos h1]
def Ii:pIx (.l xs) (.i a)=wu (atI xs a):=rfl
def cK{a:α}:wu (some a)=.ok a:=rfl
def Fv(h:z.length<=sizeLine):Us [.s z]=.ok (.i z.length):=by show(if _ then _ else _)=_;rw[if_pos h]
def pE{xs:List α}(h:0<=k):atI xs k=xs[k.toNat]?:=by
 unfold atI ixN;rw[if_pos h];by_cases c:k<xs.length
 .rw[if_pos c];rfl
 .rw[if_neg c];symm;exact a10.mpr (by omega)
def pF(h:js c b n ρ=o)(hw:o≠.wall):Ut c b ρ=o:=by
 have mono:∀(n k:Nat)(ρ:Sto),js c b n ρ≠.wall->js c b (n+k) ρ=js c b n ρ:=by
  intro n
  induction n with
  |zero=>intro k ρ h;exact absurd rfl h
  |succ n ih=>
   intro k ρ h;rw[show n+1+k=(n+k)+1 by omega];unfold js at h ⊢;cases hc:c ρ with
   |exc c fs=>rfl
   |wall=>rfl
   |ok t=>
    rw[hc]at h;cases t with
    |false=>rfl
    |true=>
     simp only[kD,if_true]at h ⊢;cases hb:b ρ with
     |exc c fs=>rfl
     |wall=>rfl
     |ok f=>
      rw[hb]at h;cases f with
      |nx ρ2=>exact ih k ρ2 h
      |ct ρ2=>exact ih k ρ2 h
      |bk ρ2=>rfl
      |rt v=>rfl
 have ex:∃n,js c b n ρ≠.wall:=⟨n,h▸hw⟩;unfold Ut;rw[dif_pos ex];have hs:=S4 ex;generalize Classical.choose ex=n0 at hs;rcases Nat.le_total n n0 with g|g
 .obtain⟨k,rfl⟩:=Nat.le.dest g;rw[mono n k ρ (h▸hw)];exact h
 .obtain⟨k,rfl⟩:=Nat.le.dest g;rw[<- mono n0 k ρ hs];exact h
def pG:KI g b (x::xs) ρ=(wu (g x ρ)).bind λρ1=>(b ρ1).bind λf=>match f with
  |.nx ρ2=>KI g b xs ρ2
  |.ct ρ2=>KI g b xs ρ2
  |.bk ρ2=>.ok (.nx ρ2)
  |.rt v=>.ok (.rt v):=rfl
def pH{α:Type}[BEq α][LawfulBEq α][DecidableEq α]{a b:α}:(a==b)=decide (a=b):=by
 by_cases h:a=b
 .subst h;simp
 .simp[h]
def Ij:Vo n (.i a) (.i b)=.ok (.b (xor n (decide (a=b)))):=by show Out.ok (PV.b (xor n (a==b)))=_;rw[pH]
def Ik:Vo n (.s x) (.s y)=.ok (.b (xor n (decide (x=y)))):=by show Out.ok (PV.b (xor n (x==y)))=_;rw[pH]
def Il:Vo n (.l xs) (.l ys)=match uE (gQ 7) xs ys with|some b=>.ok (.b (xor n b))|none=>.wall:=rfl
def zY{fr:Bool}{n:Nat}{ms:MS}{xs:MX}{x:PV}(h:ms (xs.map some++List.replicate (n-xs.length) none)=.ok (.rt x)):ZZ fr n ms xs=.ok x:=by unfold ZZ;rw[h]
def CG(h:s ρ=.ok (.nx ρ')):yh s t ρ=t ρ':=by unfold yh;rw[h];rfl
def az(h:s ρ=.ok (.rt x)):yh s t ρ=.ok (.rt x):=by unfold yh;rw[h];rfl
def Wi{k:Str}{v:PV}{r:MZ}:List.lookup k ((k,v)::r)=some v:=by simp[List.lookup]
def qH{k j:Str}{v:PV}{r:MZ}(h:(k==j)=false):List.lookup k ((j,v)::r)=List.lookup k r:=by simp[List.lookup,h]
def pJ:List.lookup k ([]:List (Str×PV))=none:=rfl
def aA:tR [] k v=[(k,v)]:=rfl
def Wj(h:(j==k)=false):tR ((j,x)::r) k v=(j,x)::tR r k v:=by show(if j=k then _ else _)=_;rw[if_neg (by simpa using h)]
end
def A7{α:Type}{a:α}:noX (.ok a)=.ok a:=rfl
def Wk{α:Type}{g:MG}{c:MT}{e:ME}(it:α->PV)(keep:α->Bool)(out:α->PV)(J:Sto->Prop):∀(xs:List α)(ρ:Sto)(acc:MX),J ρ->(∀x∈xs,∀ρ,J ρ->∃ρ1,g (it x) ρ=some ρ1/\J ρ1/\c ρ1=.ok (keep x)/\(keep x=true->e ρ1=.ok (out x)))->acc.length+xs.length<=100000->lcP g c e (xs.map it) ρ acc=.ok (.l (acc++(xs.filter keep).map out))
 |[],ρ,acc,_,_,_=>by simp[lcP]
 |x::xs,ρ,acc,hJ,h,hl=>by
  obtain⟨ρ1,h1,h2,h3,h4⟩:=h x M3 ρ hJ;rw[v4]at hl;rw[N5];unfold lcP;rw[h1,cK,kD,h3,A7,kD];cases hk:keep x with
  |true=>rw[if_pos rfl,h4 hk,A7,kD,if_pos (N9 (show acc.length<100000 by omega) (by decide)),List.filter_cons_of_pos hk,N5];rw[Wk it keep out J xs ρ1 (acc++[out x]) h2 (λz hz=>h z (M8 _ hz)) (by rw[O6];show acc.length+1+_<=_;omega),T9];rfl
  |false=>rw[if_neg O2,List.filter_cons_of_neg (by rw[hk];exact O2)];exact Wk it keep out J xs ρ1 acc h2 (λz hz=>h z (M8 _ hz)) (by omega)
def Kc{α:Type}(it:α->PV)(out:α->PV)(J:Sto->Prop)(xs:List α)(ρ:Sto)(hJ:J ρ)(h:∀x∈xs,∀ρ,J ρ->∃ρ1,g (it x) ρ=some ρ1/\J ρ1/\e ρ1=.ok (out x))(hl:xs.length<=100000):lcP g uT e (xs.map it) ρ []=.ok (.l (xs.map out)):=by rw[Wk (c:=uT) it (λ_=>true) out J xs ρ [] hJ (λx hx ρ hρ=>let⟨ρ1,a,b,c⟩:=h x hx ρ hρ;⟨ρ1,a,b,rfl,λ_=>c⟩) (by simpa using hl)];rw[List.filter_eq_self.mpr λ_ _=>rfl];rfl
end L2
namespace L2
open PySem
end L2
namespace L2
open PySem PySem.Spec PyProof.Rows PySem.W
section
variable {X:Cx}
def Fx(X:Cx)(T:String)(r:List V->Hp->VK->Prop):Prop:=
 ∀(pins:My)(s:MH)(σ:St)(H:Hp)(vs:ML)(us:MJ)(Q:VK),Inv X pins σ H s->Vals vs us->r vs H Q->
  wpAny (NO X) X.A (call (.type T) us) (λv s1=>wpAny (NO X) X.A (call (.type "list") [v]) (EP X pins σ Q) X.xe s1) X.xe s
def pK(hc:Fx X T r)(hgl:Gl X "list")(hml:X.mg "list"=none)(hg:Gl X x)(hm:X.mg x=none)(hv:bootBuiltins x=some (.type T))(ha:PA X (e::es) t)
  (hn:x≠"__name__":=by decide) (hdb:(x==("__debug__":Str))=false:=by decide)
  (he:starEach (e::es) X.env=(false,eval e X.env)::starEach es X.env:=by rfl) (hpl:(backTo pos' (starEach es X.env)).any (·.1)=false:=by rfl):
  PE X (.Call (.Name "list" p) [.Call (.Name x p') (e::es) [] pos'] [] pos) (tCB r t):=by
 intro pins s σ H Q I h;refine a0h (Kz I hgl hml a2q ?_ (by decide) (by decide));refine a0I ?_ rfl rfl;show wpAny _ _ (spliced [(false,eval (.Call (.Name x p') (e::es) [] pos') X.env)]) _ _ s;refine a01 ?_;refine a0h (Kz I hg hm hv ?_ hn hdb);refine a0I (thn (ha pos' pins s σ H _ I h) λus s1 ⟨vs,H1,I1,r1,q1⟩=>thn (hc pins s1 σ H1 vs us Q I1 r1 q1) λv s2 h2=>?_) he hpl;exact a1p h2
def Wl:∀{xs:ML}{us:MJ},xs.length=us.length->(∀(j:Nat) x u,xs[j]?=some x->us[j]?=some u->RelV x u)->Vals xs us
 |[],[],_,_=>.nil
 |x::xs,u::us,hl,h=>.cons (h 0 x u rfl rfl) (Wl (by simpa using hl) λj y v e1 e2=>h (j+1) y v (by simpa using e1) (by simpa using e2))
def g5(I:Inv X pins σ H s)(hs:s.heap.objs.size<=l)(hk:∀b o,s.heap.get? b=some o->h'.get? b=some o)
  (hl:h'.get? l=some { cls:=.type "list",dict:=none,data:=.seq acc c,slots:=#[] }) (hz:ys.length<=sizeLine) (hy:ys.length=acc.size) (hv:∀(j:Nat) x u,ys[j]?=some x->acc[j]?=some u->RelV x u) (q:∀l,H l=none->Q (.ref l) (upd H l (.lst ys))):
  EP X pins σ Q (.ref l) { s with heap:=h',toks:=tk }:=
 ⟨.ref l,_,I.laid (t':=tk) hk hs (show yF X.prog X.w _ h' _ (.lst ys)from⟨hz,acc.toList,c,Wl (by rw[a0X];exact hy) (λj x u e1 e2=>hv j x u e1 (by simpa using e2)),by rw[Array.toArray_toList];exact hl⟩),rfl,q _ (I.hok.fresh hs)⟩
end
def pL:typeLookup (.type "list_reverseiterator") "__len__"=pure none:=by rw[a1i,a0O];kernel_rfl
def uU:typeLookup (.type "list_reverseiterator") "__length_hint__"=pure (some (.builtin "list_reverseiterator.__length_hint__")):=by rw[a1i,a0O];kernel_rfl
def CH(hT:s.TypeIs (.ref it) "list_reverseiterator")(h:Q false s):wpAny (model prog w) A (Builtin.List.listLengthHint (.ref it)) Q E s:=by
 unfold Builtin.List.listLengthHint;refine f8 (a1F hT pL ?_);show wpAny _ _ (specialOf (Value.ref it) (Str.ofString "__length_hint__") >>= _) _ _ _;refine f8 (a1F hT uU ?_);generalize hid:("list_reverseiterator.__length_hint__":String)=id0
 (fail_if_success (clear hid id0));wp_delta
 rw[show splitId id0=some ("list_reverseiterator","__length_hint__")from by subst hid;decide +kernel];subst hid;refine f8 (a1d (b:=true) hT (by rw[a2y];kernel_rfl) ?_);exact M9 h
def CJ{Q:MC}{it l:Addr}{items:Nn}(hh:A.handled=none)(hne:l≠it)(hit:s.heap.IsRevIter it l ((items.size:Int)-1))(hli:s.heap.IsList l items)(hn:items.size<=sizeLine)
  (hQ:∀h' tk acc' c',(∀b o,b≠it->s.heap.get? b=some o->h'.get? b=some o)->h'.get? s.heap.objs.size=some { cls:=.type "list",dict:=none,data:=.seq acc' c',slots:=#[] }->ItemsOf (λi v=>items[items.size-1-i]?=some v) acc' items.size->Q (.ref s.heap.objs.size) { s with heap:=h',toks:=tk }):
  wpAny (model prog w) A (call (.type "list") [.ref it]) Q E s:=by
 have l1:it<s.heap.objs.size:=by obtain⟨o,ho,_⟩:=hit;exact N4 ho
 have l2:l<s.heap.objs.size:=by obtain⟨o,ho,_⟩:=hli;exact N4 ho
 refine a2z (Q₁:=λobj s₁=>obj=.ref s.heap.objs.size/\s₁={ s with heap:=s.heap.push { cls:=.type "list",data:=.seq #[] } }) a2M (a2j _) a2k
  (code_list_new _ ⟨rfl,rfl⟩) λobj s₁ h₁=>?_
 obtain⟨rfl,rfl⟩:=h₁;have hS:(s.heap.push { cls:=.type "list",data:=.seq #[] }).get? s.heap.objs.size=some { cls:=.type "list",data:=.seq #[] }:=O8 _ rfl;refine⟨⟨_,hS,rfl⟩,a19 _ _,?_⟩;show wpAny _ _ (do let old<-Builtin.List.listItems (.ref s.heap.objs.size);Builtin.List.listUpdate (.ref s.heap.objs.size) (λ_=>#[]);letGo old.toList.reverse;Builtin.List.listExtendWith (.ref s.heap.objs.size) (.ref it) .none) _ _ _;refine f8 ?_;unfold Builtin.List.listItems;refine f8 (wpAny_seqItems hS rfl (M9 ?_));show wpAny _ _ (updateSeq s.heap.objs.size (λ_=>#[]) >>= λ_=>letGo (#[]:Array Value).toList.reverse >>= λ_=>Builtin.List.listExtendWith (.ref s.heap.objs.size) (.ref it) .none) _ _ _;refine f8 (a1H hS rfl ?_);have hS₂:=a0j (Obj.mapSeq (λ_=>(#[]:Array Value))) hS rfl;refine f8 (a22 ?_);have kp:∀b o,s.heap.get? b=some o->((s.heap.push { cls:=.type "list",data:=.seq #[] }).update s.heap.objs.size (Obj.mapSeq (λ_=>(#[]:Array Value)))).get? b=some o:=λb o e=>
  (P8 _ _ (a0l (N4 e))).trans (M6 _ e)
 generalize((s.heap.push { cls:=.type "list",data:=.seq #[] }).update s.heap.objs.size (Obj.mapSeq (λ_=>(#[]:Array Value))))=h2 at hS₂ kp;have hit2:h2.IsRevIter it l ((items.size:Int)-1):=by obtain⟨o,ho,z⟩:=hit;exact⟨o,kp _ _ ho,z⟩
 have hli2:h2.IsList l items:=by obtain⟨o,ho,z⟩:=hli;exact⟨o,kp _ _ ho,z⟩
 unfold Builtin.List.listExtendWith;refine f8 (a1a (T:="list_reverseiterator") hit2.typeIs ?_);have hne1:s.heap.objs.size≠it:=a0l l1;have hne2:s.heap.objs.size≠l:=a0l l2;have h1:Builtin.List.listSameRef (.ref s.heap.objs.size) (.ref it)=false:=by simp[Builtin.List.listSameRef,hne1]
 rw[if_neg (by rw[h1];decide)];refine f8 (wpAny_pyIter_revIter hit2 ?_);refine f8 (T8 (CH hit2.typeIs ?_));rw[if_neg (by decide)];refine M9 ⟨a1T a11 _,a2F (Walks.listRev (A:=A.in1.in1) hh it l hne items).toS hn s.heap.objs.size (by simp[hne1,hne2]) _ items.size 0 _ _ _ rfl (S7 _) (show _/\Heap.IsRevIter h2 _ _ _/\_ from⟨S7 _,by simpa using hit2,hli2⟩) hS₂ (ItemsOf.nil _) λs' acc' c' hm hS' hacc=>?_⟩;rw[a2K hm];refine⟨rfl,hQ s'.heap s'.toks acc' c' (λb o hb e=>hm.heap b o (λhmem=>?_) (kp b o e)) hS' hacc⟩;rcases O5.mp hmem with e'|hmem
 .exact absurd (N4 e) (by rw[e'];exact a0k _)
 .exact hb (O7.mp hmem)
section
variable {X:Cx}
def Fy(K:Nh)(vs:ML)(H:Hp)(Q:VK):Prop:=∃p ys,vs=[.ref p]/\SqL K H p ys/\∀l,H l=none->Q (.ref l) (upd H l (.lst ys.reverse))
def pM(hc:X.calm=true):Fx X "reversed" (Fy X.K):=by
 intro pins s σ H vs us Q I r h;obtain⟨p,ys,rfl,hq,q⟩:=h;obtain⟨u,rfl,rx⟩:=vals1 r;cases rx;obtain⟨its,r',pl,hz⟩:=I.list hq;have hlen:=r'.length;have hlt:p<s.heap.objs.size:=by obtain⟨o,ho,_⟩:=pl.isList;exact N4 ho
 refine call_reversed_list pl.isList ?_;have pk:∀b o,s.heap.get? b=some o->(s.heap.push (revObj p ((its.toArray.size:Int)-1))).get? b=some o:=λb o e=>M6 _ e;refine CJ (items:=its.toArray) (I.ok.hd hc) (O1 hlt) ⟨_,O8 _ rfl,rfl,rfl⟩ (by obtain⟨o,ho,z⟩:=pl.isList;exact⟨o,pk _ _ ho,z⟩) (by simp;omega) λh' tk acc' c' hk hl hi=>?_;refine g5 (s:=s) (tk:=tk) I ?_ (λb o e=>hk b o (O1 (N4 e)) (pk b o e)) hl ?_ ?_ ?_ q
 .simp[Heap.push]
 .rw[a2N];exact hz
 .rw[a2N,hi.1];simpa using hlen
 .intro k x u e1 e2;have h3:=hi.2 k u e2;have hk':k<ys.length:=by have:=(N7.mp e1).1;simpa using this
  rw[a1y hk']at e1;obtain⟨u',e3,e4⟩:=r'.get e1;have:its[ys.length-1-k]?=some u:=by simpa[hlen]using h3
  rw[this]at e3;cases e3;exact e4
end
def YS:List PV->Out PV
 |[.l xs]=>.ok (.l xs.reverse)
 |_=>.wall
def zI.of_get{W:RC}{M:MF}{H:Hp}:∀{xs:MX}{vs:ML},xs.length=vs.length->(∀(j:Nat) x v,xs[j]?=some x->vs[j]?=some v->Rep W M H x v)->zI W M H xs vs
 |[],[],_,_=>rfl
 |x::xs,v::vs,hl,h=>⟨v,vs,rfl,h 0 x v rfl rfl,zI.of_get (by simpa using hl) λj y u e1 e2=>h (j+1) y u (by simpa using e1) (by simpa using e2)⟩
def zI.reverse(h:zI W M H xs vs):zI W M H xs.reverse vs.reverse:=by
 have hl:=h.len;refine zI.of_get (by simp[hl]) λj x v e1 e2=>?_;have hj:j<xs.length:=by have:=(N7.mp e1).1;simpa using this
 rw[a1y hj]at e1;rw[a1y (by omega),hl]at e2;obtain⟨u,h1,h2⟩:=h.get e1;rw[h1]at e2;cases e2;exact h2
def CK:LfF W (Fy W.K) YS:=λM C B H xs vs Q n h q=>by
 unfold YS at q;split at q
 .obtain⟨v,r,rfl,⟨p,vs,rfl,_,hl,rr⟩,hr⟩:=h;cases(show _=_ from hr);exact⟨p,vs,rfl,SqL.of hl,λl hl=>q _ _ (zl.upd hl) (ZV (zI.reverse rr) hl)⟩
 .exact q.elim
def fg(hc:X.calm=true)(hgl:Gl X "list")(hml:X.mg "list"=none)(hg:Gl X "reversed")(hm:X.mg "reversed"=none)(ha:AM X C S ws [e] ms)(he:starEach [e] X.env=[(false,eval e X.env)]:=by rfl):FM X C S (.Call (.Name "list" p) [.Call (.Name "reversed" p') [e] [] pos'] [] pos) (zj YS ms):=λhK=>by obtain⟨ta,a1,a2⟩:=ha hK;exact⟨_,pK (hK▸pM hc) hgl hml hg hm PyProof.Rows.boot_reversed a1 (he:=he),Fg CK a2⟩
def Fz(C:LC)(B:Bs)(S S':MB)(P:MN)(H:Hp)(D:Ends)(Z:XK):Out Fw->Prop
 |.ok (.nx ρ')=>∀P' H' σ',Rel C.W B S' P' H' σ' ρ'->D.nx σ' H'
 |.ok (.rt x)=>∀v H',zl B.H0 H'->AV C B H' x v->D.rt v H'
 |.ok (.bk _)=>False
 |.ok (.ct _)=>False
 |.exc c fs=>∀e dx es H2,zl H H2->H2 e=some (XC e (C.W.cls c) dx)->H2 dx=some (XD dx es)->jq C.W (Mof B S P) H2 fs es->Z (.ref e) (some dx) H2
 |.wall=>False
def XM(X:Cx)(C:LC)(S S':MB)(st:Nk)(m:MS):Prop:=X.K=C.W.K->∃t,HY X st t/\∀B P H σ ρ,Rel C.W B S P H σ ρ->∀D Z,Fz C B S S' P H D Z (m ρ)->t D Z σ H
def Mh{α β:Type}(o:Out α)(f:α->Out β):Out β:=match o with
 |.ok a=>f a
 |.exc _ _=>.wall
 |.wall=>.wall
def g6(g:MU)(ms:MA):ME:=λρ=>Mh (ms ρ) g
abbrev LC.nox(C:LC):LC:=⟨C.W,E0,C.fr⟩
section
variable {X:Cx}{C:LC}{S S' S1 S2 Sb Sc:MB}{e:MR}{es:MK}{ws:MP}{ms:MA}{pos p pos':Pos}{x y:Str}{k i j:Nat}{f:Addr}{fd:Na}{ps:MD}{fr:Bool}{g:MU}{m1 m2:MS}
def FA(R:Rel C.W B S P H σ ρ)(m:Mof B S P a\/H a=none):Mof B S P a:=m.elim id λn=>R.new a n
def FC(cs:MB)(m1:MS)(j:Nat)(m2:MS):MS:=λρ=>match m1 ρ with
 |.ok (.nx ρ')=>.ok (.nx ρ')
 |.ok (.rt x)=>.ok (.rt x)
 |.ok (.bk _)=>.wall
 |.ok (.ct _)=>.wall
 |.exc c fs=>if c∈cs then(match m2 (ρ.set j (some (.x c fs)))with
  |.ok (.rt x)=>.ok (.rt x)
  |_=>.wall)else .wall
 |.wall=>.wall
def FD(own:Own X)(hb:XM X C S S' body m1)(hg:Gl X cx)(hm:X.mg cx=some (.ref F))
  (hN:X.N.Nodup) (hi:X.N[j]?=some n) (hx:Loc X.env.scope n) (hs:∀e,SsM (X.held (.ref e)) C (S.set j 0) S2 [] [] (b₀::suite) m2) (hcs:∀c∈cs,Catch X.K (C.W.cls c) F true) (hl:X.env.kindOf n=some .local:=by rfl)
  (hdb:(cx==("__debug__":Str))=false:=by decide) (hf:X.fn n=true\/X.env.scope.names.lookup n=some .local:=by first|exact .inl rfl|exact .inr rfl|assumption):
  SM X C S S' Sb Sc (.Try body [.ExceptHandler (some (.Name cx np)) (some n) (b₀::suite) hp] [] [] pos) (FC cs m1 j m2):=λhK=>by
 obtain⟨tb,a1,a2⟩:=hb hK;have hs':=λe=>hs e hK;refine⟨_,EU own a1 hg hm hN hi hx hl (ts:=λe=>Classical.choose (hs' e)) (λe=>(S4 (hs' e)).1) hdb hf,λB P H σ ρ R D q=>a2 B P H σ ρ R D _ ?_⟩;unfold FC at q;revert q;cases m1 ρ with
 |wall=>exact id
 |ok fl=>
  cases fl with
  |nx ρ'=>exact id
  |rt x=>exact id
  |bk ρ'=>exact id
  |ct ρ'=>exact id
 |exc c fs=>
  intro q e dx es H2 s h1 h2 h3;have q:k9 C B S' Sb Sc D (if c∈cs then(match m2 (ρ.set j (some (.x c fs)))with
   |.ok (.rt x)=>.ok (.rt x)
   |_=>.wall)else .wall):=q
  split at q
  .rename_i hc;refine⟨e,_,dx,rfl,rfl,h1,hcs c hc,(S4 (hs' e)).2 B P H2 _ _ ((R.keep s).set (x:=.x c fs) ⟨e,dx,es,rfl,h1,h2,h3⟩) _ ?_⟩;split at q
   .rename_i x hx;rw[hx];exact q
   .exact q.elim
  .exact q.elim
end
section
variable {P:MV}{w:M_}{K:Nh}{mg:Mz}{base:Heap}
end
def Inv.swap(I:Inv X pins σ H s)(ha:H a=some u)(h1:∀xs,u≠.tup xs)(h2:∀o v,X.H₀ a≠some (.frz o v))(h3:∀ps,u≠.tbl ps)(h4:∀b,u≠.own b)(new:yF X.prog X.w (upd H a u') s.heap a u'):Inv X pins σ (upd H a u') s:=by
 have ne:∀b,H b=none->b≠a:=λb n z=>by rw[z,ha]at n;cases n
 have nt:∀b xs,H b=some (.tup xs)->b≠a:=λb xs q z=>by rw[z,ha]at q;cases q;exact h1 _ rfl
 have no:∀b c,H b=some (.own c)->b≠a:=λb c q z=>by rw[z,ha]at q;cases q;exact h4 _ rfl
 have nn:∀{b},b≠a->upd H a u' b=H b:=λz=>zg z;refine⟨I.ok,I.os,I.bare,⟨I.base.keep,I.base.slot,λb o q n hx=>?_,I.base.there,λb xs q=>?_,λb o v q=>?_,λb ps q=>?_⟩,I.loc,I.cell,?_,λx c q=>?_,λp hp=>?_,λb v q=>?_,I.len⟩
 .have:=I.base.free b o q n hx;rw[nn (ne b this)];exact this
 .have:=I.base.mI b xs q;rw[nn (nt b xs this)];exact this
 .have hb:b≠a:=λz=>h2 o v (z▸q);rw[nn hb];exact I.base.nB b o v q
 .obtain⟨more,e⟩:=I.base.sQ b ps q;have hb:b≠a:=λz=>by rw[z,ha]at e;cases e;exact h3 _ rfl
  exact⟨more,by rw[nn hb];exact e⟩
 .rw[nn (ne _ I.free)];exact I.free
 .rw[nn (ne _ (I.QY x c q))];exact I.QY x c q
 .obtain⟨p1,p2,p3⟩:=I.pin p hp;exact⟨p1,by rw[nn (ne _ p2)];exact p2,p3⟩
 .by_cases hb:b=a
  .subst hb;rw[zd]at q;cases q;exact new
  .rw[nn hb]at q;exact(I.hok b v q).nj (λ_ _ _ r=>r) (λc r=>by rw[nn (no c b r)];exact r) λc xs r=>by rw[nn (nt c xs r)];exact r
def Inv.A8(I:Inv X pins σ H s)(ha:H a=some (.dK es)):∀o v,X.H₀ a≠some (.frz o v):=λo v q=>by have:=I.base.nB a o v q;rw[ha]at this;cases this
def Inv.Mi(I:Inv X pins σ H s)(ha:H a=some (.dK es)):∃o,Inv X pins σ (upd H a (.frz o (.dK es))) s:=by obtain⟨z,hd,vs,rel,o,ed,ep,ho,hx⟩:=(show yF X.prog X.w H s.heap a (.dK es)from I.hok a _ ha);exact⟨o,I.swap ha (λ_=>by nofun) (I.A8 ha) (λ_=>by nofun) (λ_=>by nofun) ⟨ho,z,hd,vs,rel,o,ed,ep,ho,hx⟩⟩
def Inv.CL(I:Inv X pins σ H s)(ha:H a=some (.frz o (.dK es)))(hz:∀o v,X.H₀ a≠some (.frz o v)):Inv X pins σ (upd H a (.dK es)) s:=
 I.swap ha (λ_=>by nofun) hz (λ_=>by nofun) (λ_=>by nofun) (show yF X.prog X.w H s.heap a (.frz o (.dK es))from I.hok a _ ha).2
def Ha(o:Obj):Nat:=match o.data with | .dict _ ep=>ep|_=>0
def Itd(a:Addr)(o:Obj)(es:MM):It:=
 ⟨λi H=>H a=some (.frz o (.dK es))/\i<es.length,λi H x H'=>H'=H/\∃k v,es[i]?=some (k,v)/\x=kV k,λi H=>H a=some (.frz o (.dK es))/\es.length<=i⟩
def A9(h:KV es vs):∀{i:Nat}{k:Key}{v:V},es[i]?=some (k,v)->∃w,vs[i]?=some (k,w):=by
 induction h with
 |nil=>intro i k v e;simp at e
 |@cons p q _ _ hp _ ih=>
  intro i k v e;cases i with
  |zero=>simp at e;subst e;exact⟨q.2,by simp;exact Prod.ext hp.1.symm rfl⟩
  |succ i=>simp at e ⊢;exact ih e
def cL(h:(z4 P w).is k u=true):RelV (kV k) u:=by
 rw[lL]at h;rcases yw h with⟨i,t,rfl,rfl⟩|⟨x,t,rfl,rfl⟩
 .exact⟨t,rfl⟩
 .exact⟨t,rfl⟩
def pN(ok:HOk P w H h)(e:H a=some (.frz o (.dK es))):(a==sysModules)=false/\∃vs,KV es vs/\h.DictAt (z4 P w) a vs (Ha o):=by
 obtain⟨h0,_,hd,vs,rel,o',ed,ep,h1,h2,h3,h4⟩:=(show yF P w H h a (.frz o (.dK es))from ok a _ e);rw[h0]at h1;cases h1;have:Ha o=ep:=by unfold Ha;rw[h3]
 exact⟨hd,vs,rel,o,ed,h0,h2,by rw[this];exact h3,h4⟩
def pO{P:MV}{w:M_}{K:Nh}{tg:MR}(a it:Addr)(o:Obj)(es:MM):Turn P w K tg (Itd a o es) [it] it (λi h=>h.IsKeyIter it a i es.length (Ha o))where
 mem:=by simp
 obj:=λi h st b hb=>by
  have e:b=it:=by simpa using hb
  subst e;obtain⟨o,e,c,d⟩:=st;exact⟨o,e,λv z=>by rw[d]at z;cases z⟩
 keep:=λi h h' st k=>st.at λo e=>k it (by simp) o e
 item:=by intro X hP hw hK hc i pins s σ H E I hf st hg;subst hP hw hK;obtain⟨ha,hi⟩:=hg;obtain⟨hd,vs,rel,dd⟩:=pN I.hok ha;have hx:es[i]?=some es[i]:=N6 hi;obtain⟨w,hw⟩:=A9 rel (k:=es[i].1) (v:=es[i].2) hx;obtain⟨f0,f1,f2,f3,f4,f5⟩:=hf it (by simp);rw[a0o rel]at st;refine wpAny_pyNext_dict_item st dd hw λkey h' hk st' sb=>?_;have I1:Inv X pins σ H { s with heap:=h' }:=I.turned (t':=s.toks) (λb o hb e=>(sb.2 b hb).trans e) f0 f1 f3 f4 f5;obtain⟨q,e,c,d⟩:=id st';refine⟨key,rfl,tZ (s:={ s with heap:=h' }) e c d (by decide) ⟨_,H,I1,cL hk,⟨rfl,_,_,hx,rfl⟩,?_,λb hb=>(hf b hb).1⟩⟩;rw[a0o rel];exact st'
 done:=by intro X hP hw hK hc i pins s σ H E I hf st hg;subst hP hw hK;obtain⟨ha,hi⟩:=hg;obtain⟨hd,vs,rel,dd⟩:=pN I.hok ha;obtain⟨f0,f1,f2,f3,f4,f5⟩:=hf it (by simp);have hl:=a0o rel;rw[hl]at st;exact wpAny_pyNext_dict_end (I.ok.hd hc) st dd (a10.mpr (by omega)) λh' eb=>⟨rfl,I.turned (t':=s.toks) (λb o hb e=>eb b o hb e) f0 f1 f3 f4 f5⟩
 self:=λ_ _ _ _ _ st h=>wpAny_pyIter_keyiter st h
def A_(tl:TE):TI:=λσ H R=>tl σ H λx H1=>∃a o es,x=.ref a/\H1 a=some (.frz o (.dK es))/\R (Itd a o es) H1
def uV(hl:PE X l tl):PI X tg l (A_ tl):=by
 intro pins s σ H R I h;refine thn (hl pins s σ H _ I h) λv s1 ⟨x,H1,I1,r1,a,o,es,e,ha,q⟩=>?_;subst e;cases r1;obtain⟨hd,vs,rel,dd⟩:=pN I1.hok ha;refine wpAny_pyIter_dict hd dd ?_;refine⟨s1.heap.objs.size,[s1.heap.objs.size],_,_,H1,rfl,I1.kept (t':=s1.toks) λb o e=>M6 _ e,pO a _ o es,?_,λb hb=>?_,q⟩
 .rw[a0o rel];exact⟨_,O8 _ rfl,rfl,rfl⟩
 have e:b=s1.heap.objs.size:=by simpa using hb
 subst e;exact I1.DT (M7 _) (I1.hok.fresh (M7 _))
def FE(h:Rd H a (.dK es))(h':Rd H a (.dK es')):es'=es:=by rcases h with h|⟨o,h⟩<;>rcases h' with h'|⟨o',h'⟩<;>rw[h]at h'<;>cases h'<;>rfl
section
variable {W:RC}{M:MF}{H H':Hp}{a:Addr}{es:MM}
def cM(h1:Rd H a (.dK es))(h:H b=some u)(hu:∀es,u≠.dK es)(hu2:∀o es,u≠.frz o (.dK es)):b≠a:=λz=>by
 subst z;rcases h1 with z|⟨o,z⟩<;>rw[z]at h<;>cases h
 .exact hu _ rfl
 .exact hu2 _ _ rfl
def VJ(h1:Rd H a (.dK es))(hne:∀b,b≠a->H' b=H b)(h:Rd H b u)(hu:∀es,u≠.dK es)(hf:∀o v,u≠.frz o v):Rd H' b u:=by
 rcases h with h|⟨o,h⟩
 .exact .inl ((hne b (cM h1 h hu λo es=>hf o _)).trans h)
 .exact .inr ⟨o,(hne b (cM h1 h (λ_=>by nofun) λo es z=>by cases z;exact hu _ rfl)).trans h⟩
mutual
def Rep.sw(h1:Rd H a (.dK es))(h2:Rd H' a (.dK es))(hne:∀b,b≠a->H' b=H b):∀{x:PV}{v:V},Rep W M H x v->Rep W M H' x v
 |.i n,v,h=>h
 |.s x,v,h=>h
 |.b c,v,h=>h
 |.n,v,h=>h
 |.l xs,v,h=>by unfold Rep at h ⊢;obtain⟨p,vs,e,m,r,q⟩:=h;exact⟨p,vs,e,m,(hne p (cM h1 r (λ_=>by nofun) λ_ _=>by nofun)).trans r,zI.sw h1 h2 hne q⟩
 |.sc ns,v,h=>by unfold Rep at h ⊢;obtain⟨p,e,r⟩:=h;exact⟨p,e,r.elim (λz=>.inl ⟨z.1,VJ h1 hne z.2 (λ_=>by nofun) λ_ _=>by nofun⟩) .inr⟩
 |.dt kvs,v,h=>by unfold Rep at h ⊢;obtain⟨p,e,m,r⟩:=h;exact⟨p,e,m,VJ h1 hne r (λ_=>by nofun) λ_ _=>by nofun⟩
 |.t xs,v,h=>by unfold Rep at h ⊢;obtain⟨p,vs,e,r,q⟩:=h;exact⟨p,vs,e,r.elim (λz=>.inl (VJ h1 hne z (λ_=>by nofun) λ_ _=>by nofun)) .inr,zI.sw h1 h2 hne q⟩
 |.d kvs,v,h=>by
  unfold Rep at h ⊢;obtain⟨p,vs,e,m,r,q⟩:=h;refine⟨p,vs,e,m,?_,qy.sw h1 h2 hne q⟩;by_cases hp:p=a
  .subst hp;rw[FE h1 r];exact h2
  .unfold Rd;rw[hne p hp];exact r
 |.o c fs,v,h=>by unfold Rep at h ⊢;obtain⟨p,dx,vs,e,m,r,q⟩:=h;exact⟨p,dx,vs,e,m,(hne p (cM h1 r (λ_=>by nofun) λ_ _=>by nofun)).trans r,jq.sw h1 h2 hne q⟩
 |.x c fs,v,h=>by unfold Rep at h ⊢;obtain⟨p,dx,vs,e,r,r2,q⟩:=h;exact⟨p,dx,vs,e,(hne p (cM h1 r (λ_=>by nofun) λ_ _=>by nofun)).trans r,(hne dx (cM h1 r2 (λ_=>by nofun) λ_ _=>by nofun)).trans r2,jq.sw h1 h2 hne q⟩
def zI.sw(h1:Rd H a (.dK es))(h2:Rd H' a (.dK es))(hne:∀b,b≠a->H' b=H b):∀{x:MX}{v:ML},zI W M H x v->zI W M H' x v
 |[],v,h=>h
 |x::xs,vs,h=>by unfold zI at h ⊢;obtain⟨v,r,e,q1,q2⟩:=h;exact⟨v,r,e,Rep.sw h1 h2 hne q1,zI.sw h1 h2 hne q2⟩
def qy.sw(h1:Rd H a (.dK es))(h2:Rd H' a (.dK es))(hne:∀b,b≠a->H' b=H b):∀{x:MY}{v:MM},qy W M H x v->qy W M H' x v
 |[],v,h=>h
 | (k,x)::xs,vs,h=>by unfold qy at h ⊢;obtain⟨v,r,e,q1,q2⟩:=h;exact⟨v,r,e,Rep.sw h1 h2 hne q1,qy.sw h1 h2 hne q2⟩
def jq.sw(h1:Rd H a (.dK es))(h2:Rd H' a (.dK es))(hne:∀b,b≠a->H' b=H b):∀{x:MZ}{v:Nd},jq W M H x v->jq W M H' x v
 |[],v,h=>h
 | (k,x)::xs,vs,h=>by unfold jq at h ⊢;obtain⟨v,r,e,q1,q2⟩:=h;exact⟨v,r,e,Rep.sw h1 h2 hne q1,jq.sw h1 h2 hne q2⟩
end
end
section
variable {W:RC}{B:Bs}{S S':MB}{P P':MN}{H H':Hp}{σ σ':St}{ρ ρ':Sto}{a:Addr}{es:MM}{u u':HO}
end
def Df(a:Addr)(es:MM)(D:Ends):Ends where
 nx:=λσ H=>(∃o,H a=some (.frz o (.dK es)))/\D.nx σ (upd H a (.dK es))
 rt:=λv H=>(∃o,H a=some (.frz o (.dK es)))/\D.rt v (upd H a (.dK es))
 bk:=λσ H=>(∃o,H a=some (.frz o (.dK es)))/\D.bk σ (upd H a (.dK es))
 ct:=λσ H=>(∃o,H a=some (.frz o (.dK es)))/\D.ct σ (upd H a (.dK es))
def Ef(a:Addr)(es:MM)(E:XK):XK:=λv d H=>(∃o,H a=some (.frz o (.dK es)))/\E v d (upd H a (.dK es))
def uW(h:a≠b):upd (upd H a u) b v=upd (upd H b v) a u:=by
 funext c
 by_cases e1:c=a
 .subst e1;rw[zg h,zd,zd]
 .by_cases e2:c=b
  .subst e2;rw[zd,zg e1,zd]
  .rw[zg e2,zg e1,zg e1,zg e2]
def tFz(ts:XK->TS)(E:XK):TS:=λD σ H=>(∃a es,H a=some (.dK es)/\∀o,ts (Ef a es E) (Df a es D) σ (upd H a (.frz o (.dK es))))\/ts E D σ H
def Im{X:Cx}{E:XK}{st:Nq}{ts:XK->TS}(h:∀E',PS (thr X E') st (ts E')):PS (thr X E) st (tFz ts E):=by
 intro pins s σ H D I q;rcases q with⟨a,es,ha,q⟩|q
 .obtain⟨o,I1⟩:=I.Mi ha;have hz:∀o v,X.H₀ a≠some (.frz o v):=I.A8 ha;refine T2 (h (Ef a es E) pins s σ _ (Df a es D) (I1.j7.VX _) (q o)) (λf s1 z=>?_) λv s1 z=>?_
  .cases f with
   |next=>obtain⟨σ',H',J,⟨o',hf⟩,d⟩:=z;exact⟨σ',_,Inv.CL (J.j7.VX _) hf hz,d⟩
   |brk=>obtain⟨σ',H',J,⟨o',hf⟩,d⟩:=z;exact⟨σ',_,Inv.CL (J.j7.VX _) hf hz,d⟩
   |cont=>obtain⟨σ',H',J,⟨o',hf⟩,d⟩:=z;exact⟨σ',_,Inv.CL (J.j7.VX _) hf hz,d⟩
   |ret u=>obtain⟨v,σ',H',J,rv,⟨o',hf⟩,d⟩:=z;exact⟨v,σ',_,Inv.CL (J.j7.VX _) hf hz,rv,d⟩
  .obtain⟨σ',H',e,C,dx,rfl,J,f,⟨o',hf⟩,d⟩:=z;have ne:e≠a:=λz=>by subst z;rw[zd]at hf;cases hf
   rw[zg ne.symm]at hf;rw[uW ne]at d;refine⟨σ',_,e,C,dx,rfl,Inv.CL J hf hz,?_,d⟩;obtain⟨T,he,ht⟩:=f;refine⟨T,by rw[zg ne];exact he,ht.imp id λ⟨Ta,fl,e1,b,h2⟩=>⟨Ta,fl,e1,⟨b.tbk,b.new,?_,b.pin⟩,h2⟩⟩;have:Ta≠a:=λz=>by have:=b.free;rw[z,hf]at this;cases this
   rw[zg this];exact b.free
 .exact h E pins s σ H D I q
def kP:Key->PV
 |.inl i=>.i i
 |.inr x=>.s x
def Ba{W:RC}{M:MF}{H:Hp}:∀k:Key,Rep W M H (kP k) (kV k)
 |.inl _=>rfl
 |.inr _=>rfl
def CM{W:RC}{M N:MF}{H2:Hp}{a:Addr}{o:Obj}{es:MM}{kvs:MY}(ha:H2 a=some (.frz o (.dK es)))(hk:es.map (·.1)=kvs.map (·.1)):Cy W M N H2 (Itd a o es) (kvs.map λkx=>kP kx.1):=λH' f=>by
 have ha':=f a _ ha (.inr trivial);have hl:es.length=kvs.length:=by simpa using T6 List.length hk
 refine⟨λi x hx=>?_,ha',by rw[u8];omega⟩;rw[P2]at hx;obtain⟨kx,hkx,rfl⟩:=t0.mp hx;have hi:i<kvs.length:=(N7.mp hkx).1;refine⟨⟨ha',by omega⟩,λv H'' hy=>?_⟩;obtain⟨rfl,k,w,hes,rfl⟩:=hy;have:k=kx.1:=by
  have h1:(es.map (·.1))[i]?=some k:=by rw[P2,hes];rfl
  rw[hk,P2,hkx]at h1;cases h1;rfl
 subst this;exact⟨zl.refl _,λ_ _=>Ba _⟩
section
variable {X:Cx}{W:RC}{E:XK}{fr:Bool}{S S1 Sb Sc:MB}{tg qP:MR}{body:Nk}{mg:MG}{mb:MS}{pos:Pos}{i:Nat}
end
section
variable {X:Cx}{C:LC}{S:MB}{qP tg elt:MR}{ifs:MK}{me:ME}{mc:MT}{mg:MG}{pos:Pos}{i:Nat}{scope:Scope}
end
def FF:List V->Hp->VK->Prop:=λvs H Q=>∃(p:Addr)(es:MM),vs=[.ref p]/\Rd H p (.dK es)/\∀l,H l=none->Q (.ref l) (upd H l (.dK es))
def mB:wq X (.type "dict") FF:=by intro pins s σ H xs us Q I r h;obtain⟨p,es,rfl,hS,q⟩:=h;obtain⟨u,rfl,ru⟩:=vals1 r;cases ru;exact uj I hS λl s' hl I'=>⟨.ref l,_,I',rfl,q l hl⟩
section
variable {X:Cx}{C:LC}{S Sb Sc:MB}{o e a:MR}{es:MK}{w w1 w2:Bool}{ws:MP}{m m1 m2:ME}{ms:MA}{pos p vz jo:Pos}{i:Nat}
end
section
variable {X:Cx}{pins:My}{σ:St}{H:Hp}{s:MH}{W:RC}
end
section
variable {X:Cx}{C:LC}{S:MB}{e a b:MR}{es:MK}{w:Bool}{m m1 m2:ME}{ms:MA}{pos:Pos}
end
section
variable {X:Cx}{elt qP tg:MR}{ifs:MK}{scope:Scope}{pos nC py:Pos}{N:MD}{fr:MW}{g:TG}{tc:TT}{te:TEx}{wi:TI}{y:Str}{i:Nat}
end
section
variable {X:Cx}{C:LC}{S Si:MB}{e qP tg elt:MR}{es ifs:MK}{w:Bool}{ws:MP}{m me:ME}{ms:MA}{mc:MT}{mg:MG}{mi:MI}{pos p:Pos}{x:Str}{scope:Scope}{k:Nat}{f:Addr}{fd:Na}{ps:MD}{fr':Bool}{g:MU}
end
end L2
namespace L2
open PySem
def Io{α:Type}{P:List α->Prop}{us:List α}(hl:us.length=1)(h:∀a,P [a]):P us:=by rcases us with _|⟨a,_|⟨b,us⟩⟩<;>first|exact h _|cases hl
def Ip{α:Type}{P:List α->Prop}{us:List α}(hl:us.length=2)(h:∀a b,P [a,b]):P us:=by rcases us with _|⟨a,_|⟨b,_|⟨c,us⟩⟩⟩<;>first|exact h _ _|cases hl
def Iq{α:Type}{P:List α->Prop}{us:List α}(hl:us.length=3)(h:∀a b c,P [a,b,c]):P us:=by rcases us with _|⟨a,_|⟨b,_|⟨c,_|⟨d,us⟩⟩⟩⟩<;>first|exact h _ _ _|cases hl
def Ir{α:Type}{P:List α->Prop}{us:List α}(hl:us.length=4)(h:∀a b c d,P [a,b,c,d]):P us:=by rcases us with _|⟨a,_|⟨b,_|⟨c,_|⟨d,_|⟨e,us⟩⟩⟩⟩⟩<;>first|exact h _ _ _ _|cases hl
def Iu{α:Type}{P:List α->Prop}{us:List α}(hl:us.length=5)(h:∀a b c d e,P [a,b,c,d,e]):P us:=by rcases us with _|⟨a,_|⟨b,_|⟨c,_|⟨d,_|⟨e,_|⟨f,us⟩⟩⟩⟩⟩⟩<;>first|exact h _ _ _ _ _|cases hl
def Wm(z:CXe P w outer H s (λ_ _ _=>False) v s'):False:=by obtain⟨_,_,_,_,_,_,_,_,_,_,_,_,_,_,_,_,_,_,q⟩:=z;exact q
def okb{α β:Type}{a:α}{f:α->Out β}:(Out.ok a).bind f=f a:=Eq.trans (Eq.refl _) (Eq.refl _)
section
variable {α β σ:Type}{g:MG}{b:MS}{c:MT}{e:ME}{ρ ρ':Sto}{s t:MS}{m:ME}{x:PV}{mi:MI}{o:Out Fw}{i:Nat}
def ze(h:∃ρ',s ρ=.ok (.nx ρ')/\t ρ'=o):yh s t ρ=o:=let⟨_,a,b⟩:=h;(CG a).trans b
def cN{fr:MW}{xs:MX}(h:mi ρ=.ok xs)(h2:lcP g c e xs (au ρ fr) []=.ok x):mLC mi fr g c e ρ=.ok x:=by unfold mLC;rw[h,kD,h2]
def yi(h:m ρ=.ok x):y_ i m ρ=.ok (.nx (ρ.set i (some x))):=by unfold y_;rw[h,kD]
def vd(h:mi ρ=.ok xs)(h2:KI g b xs ρ=o):Xx mi g b ρ=o:=by unfold Xx;rw[h,kD,h2]
def uX{n:Nat}(h:n<=1000000):px [.i (n:Int)]=.ok (nu 0 n):=by unfold px;exact(if_pos ⟨by omega,by omega⟩).trans (by rw[Int.toNat_natCast])
def g7(h:ms ρ=.ok [.i (n:Int)])(hn:n<=1000000):Q9 ms ρ=.ok (nu 0 n):=by unfold Q9;rw[h,kD,uX hn]
def fh(h:ms ρ=.ok [.i n])(h0:0<=n)(hn:n<=1000000):Q9 ms ρ=.ok (nu 0 n.toNat):=g7 (n:=n.toNat) (by rw[h];congr 3;omega) (by omega)
def yo(h:m ρ=.ok (.l xs)):yn m ρ=.ok xs:=by unfold yn;rw[h,kD];rfl
def g8:nu 0 n=(List.range n).map λk=>PV.i ((k:Nat):Int):=by unfold nu;exact a0C λk _=>by congr 1;omega
def g9(it:α->PV)(J:Nat->Sto->Prop):∀(xs:List α)(j:Nat)(ρ:Sto),J j ρ->(∀(k:Nat)(h:k<xs.length)(ρ:Sto),J (j+k) ρ->∃ρ1,g (it xs[k]) ρ=some ρ1/\∃ρ2,J (j+k+1) ρ2/\(b ρ1=.ok (.nx ρ2)\/b ρ1=.ok (.ct ρ2)))->∃ρ',J (j+xs.length) ρ'/\KI g b (xs.map it) ρ=.ok (.nx ρ')
 |[],j,ρ,h,_=>⟨ρ,h,rfl⟩
 |x::xs,j,ρ,h,hs=>by
  obtain⟨ρ1,h1,ρ2,h2,h3⟩:=hs 0 (Nat.zero_lt_succ _) ρ h;obtain⟨ρ3,h4,h5⟩:=g9 it J xs (j+1) ρ2 h2 λk hk ρ hρ=>by have:=hs (k+1) (a2a hk) ρ (by rw[show j+(k+1)=j+1+k by omega];exact hρ);rw[show j+(k+1)+1=j+1+k+1 by omega]at this;exact this
  refine⟨ρ3,by rw[v4,show j+(xs.length+1)=j+1+xs.length by omega];exact h4,?_⟩;rw[N5,pG,show g (it x) ρ=some ρ1 from h1,cK,kD];rcases h3 with h3|h3<;>(rw[h3,kD];exact h5)
def Ke(it:α->PV)(J:Nat->Sto->Prop)(xs:List α)(ρ:Sto)(h:J 0 ρ)(hs:∀(k:Nat)(h:k<xs.length)(ρ:Sto),J k ρ->∃ρ1,g (it xs[k]) ρ=some ρ1/\∃ρ2,J (k+1) ρ2/\(b ρ1=.ok (.nx ρ2)\/b ρ1=.ok (.ct ρ2))):∃ρ',J xs.length ρ'/\KI g b (xs.map it) ρ=.ok (.nx ρ'):=by
 have:=g9 (g:=g) (b:=b) it J xs 0 ρ h λk hk ρ hρ=>by have:=hs k hk ρ (by rwa [a2X]at hρ);rwa [a2X]
 rwa [a2X]at this
def Ja(J:Nat->Sto->Prop)(n:Nat)(ρ:Sto)(h:J 0 ρ)(hs:∀(k:Nat),k<n->∀(ρ:Sto),J k ρ->∃ρ1,g (.i (k:Int)) ρ=some ρ1/\∃ρ2,J (k+1) ρ2/\(b ρ1=.ok (.nx ρ2)\/b ρ1=.ok (.ct ρ2))):∃ρ',J n ρ'/\KI g b (nu 0 n) ρ=.ok (.nx ρ'):=by
 have:=Ke (g:=g) (b:=b) (λk:Nat=>PV.i (k:Int)) J (List.range n) ρ h λk hk ρ hρ=>by rw[a1l];exact hs k (by rwa [T4]at hk) ρ hρ
 rwa [T4,<- g8]at this
end
end L2
namespace L2
open PySem PySem.Spec PyProof.Rows PySem.W
section
variable {prog:MV}{w:M_}{A:Nb}{E:MC}{h:Heap}{g:Array GenState}{d:Drawn}{t:Nat}{os:OsState}{a:Addr}{its:Nn}{n:Nat}{sl:Ng}
def cO:typeLookup (.type "list") "keys"=pure none:=by rw[a1i,a0O];kernel_rfl
def Wn:typeLookup (.type "list") "__getattr__"=pure none:=by rw[a1i,a0O];kernel_rfl
def pP:isSubtype (.type "AttributeError") (.type "AttributeError")=pure true:=by rw[a2y];kernel_rfl
def CN(he:h.get? e=some ⟨.type "AttributeError",none,.fields #[T,.none,.none,.none,.bool false,X,rawInt 0,rawInt 0],#[]⟩)
  (hQ:∀h',(∀b o,b≠e->h.get? b=some o->h'.get? b=some o)->(∃oe,h'.get? e=some oe/\oe.cls=.type "AttributeError")->Q () ⟨h',g,d,t,os⟩):
  wpAny (model prog w) A (noteAttr (.ref e) o name) Q E ⟨h,g,d,t,os⟩:=by
 have hT:(⟨h,g,d,t,os⟩:Shared).TypeIs (.ref e) "AttributeError":=⟨_,he,rfl⟩;unfold noteAttr lacksNameAndObj;refine f8 ?_;refine f8 (a1d (b:=true) hT pP ?_);rw[if_neg (by decide)];refine f8 (a2B he ?_);dsimp only;rw[if_neg (λz=>by cases(show false=true from z))];rw[if_neg (λz=>by cases(show false=true from z))];refine M9 ?_;rw[if_pos rfl];refine f8 (a2G ?_);refine f8 (a1a (T:="AttributeError") hT ?_);dsimp only;unfold layMembers;refine f8 (a2B he ?_);dsimp only;refine wpAny_update he ?_;refine hQ _ (λb o hb e'=>(P8 _ _ (Ne.symm hb)).trans e') ⟨_,a0j _ he rfl,rfl⟩
def mD(hh:A.handled=none)(hx:h.get? a=some ⟨.type "list",none,.seq its n,sl⟩)
  (hE:∀h' tk e,(∀b o,h.get? b=some o->h'.get? b=some o)->(∃oe,h'.get? e=some oe/\oe.cls=.type "AttributeError")->E (.ref e) ⟨h',g,d,tk,os⟩):
  wpAny (model prog w) A (Builtin.«object.__getattribute__» ⟨[.ref a,.str "keys" tk],[]⟩) Q E ⟨h,g,d,t,os⟩:=by
 have hT:(⟨h,g,d,t,os⟩:Shared).TypeIs (.ref a) "list":=⟨_,hx,rfl⟩;have f4:=cO
 repeat(any_goals(first|assumption|wp_step))
 unfold raiseAttrError;refine f8 (wpAny_mkStr (f8 ?_) (by decide +kernel));unfold newExc newTuple;refine f8 (a1q ?_);refine f8 (m:=firstArgMember _ _) (a2r (a:=Value.none) (by simp only[firstArgMember];kernel_rfl) ?_);refine a1q ?_;refine f8 (a17 (f8 ?_));refine CN (O8 _ rfl) λh' hk he=>?_;unfold raiseNew;refine f8 (wpAny_handled ?_);rw[hh]
 first
  |refine a23 ?_
  |refine f8 (M9 (a23 ?_))
 exact hE _ _ _ (λb o e=>hk b o (O1 (N9 (N4 e) (by simp))) (M6 _ (M6 _ e))) he
def pQ(hh:A.handled=none)(hx:h.get? a=some ⟨.type "list",none,.seq its n,sl⟩)
  (hE:∀h' tk e,(∀b o,h.get? b=some o->h'.get? b=some o)->(∃oe,h'.get? e=some oe/\oe.cls=.type "AttributeError")->R (.error (.ref e)) ⟨h',g,d,tk,os⟩):
  codeAny (model prog w) A (.call (.builtin "list.__getattribute__") ⟨[.ref a,.str "keys" tk],[]⟩) R ⟨h,g,d,t,os⟩:=
 a1c F.slot_list_getattribute.plain F.entry_list_ga (F.slot_list_getattribute.check _ _ _ _ _ _ _ _ (show(⟨h,g,d,t,os⟩:Shared).TypeIs (.ref a) "list" from⟨_,hx,rfl⟩) (F.args_list_getattribute_2 _ _) (mD hh hx hE))
def CO(hh:A.handled=none)(hx:h.get? a=some ⟨.type "list",none,.seq its n,sl⟩)(hQ:∀h' tk,(∀b o,h.get? b=some o->h'.get? b=some o)->Q none ⟨h',g,d,tk,os⟩):
  wpAny (model prog w) A (getAttr? (.ref a) "keys") Q E ⟨h,g,d,t,os⟩:=by
 have hT:∀t,(⟨h,g,d,t,os⟩:Shared).TypeIs (.ref a) "list":=λt=>⟨_,hx,rfl⟩;have f2:=F.slot_list_getattribute.lookup;have f3:=F.slot_list_getattribute.bind (.ref a);unfold getAttr? getAttrBy?;refine f8 (a17 ?_);refine f8 (a1f ?_);unfold getAttrBy;refine T8 ?_;refine f8 (a1a (T:="list") (hT _) ?_);refine f8 (a2r f2 ?_);dsimp only;rw[if_neg (λz=>by cases(show false=true from z))];unfold getAttrByItsOwn hookBefore;rw[if_neg (λz=>by cases(show false=true from z))];refine f8 (M9 ?_);refine f8 (a1f ?_);refine T8 ?_;unfold callGetattribute;rw[if_neg (λz=>by cases(show false=true from z))];unfold boundAndCalled;refine f8 (a2r f3 ?_);dsimp only;refine a0G (pQ hh hx λh' tk e hk he=>?_);obtain⟨oe,he,hc⟩:=he;have hTe:(⟨h',g,d,tk,os⟩:Shared).TypeIs (.ref e) "AttributeError":=⟨_,he,hc⟩;dsimp only;unfold getattributeRaised;refine f8 (a1d (b:=true) hTe pP ?_);rw[if_pos rfl];unfold hookBehind;rw[if_neg (λz=>by cases(show false=true from z))];refine f8 (a2r Wn ?_);unfold hookOrError attributeErrorLeaves;dsimp only;rw[if_pos (show(!false)=true from rfl)];refine f8 (a23 ?_);refine f8 (a1d (b:=true) hTe pP ?_);rw[if_pos rfl];exact M9 (hQ h' tk hk)
end
def Y4:entryFor table "dict.update.loop"=some Builtin.«dict.update.loop»:=entryFor_of_tree (by kernel_rfl)
def jF:plainId "dict.update.loop"=true:=by decide +kernel
section
variable {prog:MV}{w:M_}{A:Nb}{R:Result->Shared->Prop}{I:Addr}{fp wr:Nf}{G:Array GenState->Array GenState->Prop}{n:Nat}{P:Nat->Value->Prop}{St:Nat->Shared->Prop}{K:Type}[DecidableEq K] {knd:KeyKind prog w K}
def TupAt(h:Heap)(a:Addr)(k v:Value):Prop:=∃o m,h.get? a=some o/\o.cls=.type "tuple"/\o.data=.seq #[k,v] m
def tT(key:Nat->K)(val:NJ):Nat->List (K×Value)
 |0=>[]
 |i+1=>stored (tT key val i) (key i) (val i)
def aB(key:Nat->K)(val:NJ):∀i,(tT key val i).length<=i
 |0=>M7 _
 |i+1=>by
  have:=aB key val i;unfold tT stored;split
  .rw[u8];omega
  .rw[O6];show _+1<=_;omega
def uY(W:WalksS prog w A.in1 I fp wr G n P St)(D:Addr)(hDf:D∉fp)(key:Nat->K)(kv val:NJ)(ad:MN)(hP:∀i v,P i v->v=.ref (ad i))(hk:∀i,i<n->knd.is (key i) (kv i)=true)(hw:∀i,i<n->ad i∉D::wr)(hn:n<=sizeLine):
  ∀(k i:Nat)(tk:Tok)(s:MH),n-i=k->i<=n->St i s->(∀j,j<n->TupAt s.heap (ad j) (kv j) (val j))->s.heap.DictOf knd D (tT key val i)->
   (∀s',Moved (D::wr) G s s'->s'.heap.DictOf knd D (tT key val n)->R (.ok (.ret .none)) s')->
   codeAny (model prog w) A (.builtin "dict.update.loop" ⟨[.ref D,.ref I,.int (i:Int) tk,.none],[]⟩) R s:=by
 have hDw:D∉wr:=λh=>hDf (W.sub _ h);have hsub:∀b∈wr,b∈D::wr:=λb hb=>M8 _ hb;have tmv:∀{s s':MH},Moved (D::wr) G s s'->(∀j,j<n->TupAt s.heap (ad j) (kv j) (val j))->∀j,j<n->TupAt s'.heap (ad j) (kv j) (val j):=λhm h j hj=>by obtain⟨o,m,h1,h2,h3⟩:=h j hj;exact⟨o,m,hm.heap _ _ (hw j hj) h1,h2,h3⟩
 intro k
 induction k with
 |zero=>
  intro i tk s hk' hi hst ht hD hR;have hin:i=n:=by omega
  subst hin;refine codeAny_builtin Y4 ?_;rw[a2H jF _];show wpAny _ A.in1 (pyNext (.ref I) >>= _) _ _ s;refine f8 (W.done s _ _ hst λs' hm=>?_);dsimp only;refine f8 (m:=Builtin.Dict.addKeywords D []) ?_;refine M9 ?_;exact M9 (hR s' (hm.mono hsub) (by
   obtain⟨o,es,ep,ho,rest⟩:=hD;exact⟨o,es,ep,hm.heap D _ hDw ho,rest⟩))
 |succ k ih=>
  intro i tk s hk' hi hst ht hD hR;have hlt:i<n:=by omega
  refine codeAny_builtin Y4 ?_;rw[a2H jF _];show wpAny _ A.in1 (pyNext (.ref I) >>= _) _ _ s;refine f8 (W.item i s _ _ hlt hst λv s' hPv hst' hm=>?_);cases hP i v hPv;have hm2:=hm.mono hsub;have ht':=tmv hm2 ht;obtain⟨o,m,h1,h2,h3⟩:=ht' i hlt;have hD':s'.heap.DictOf knd D (tT key val i):=by obtain⟨o,es,ep,ho,rest⟩:=hD;exact⟨o,es,ep,hm.heap D _ hDw ho,rest⟩
  have hT:s'.TypeIs (.ref (ad i)) "tuple":=⟨o,h1,h2⟩;dsimp only;refine f8 (T8 (f8 (wpAny_tryCatch ?_)));unfold Builtin.Dict.pairItems;refine f8 (a1a (T:="tuple") hT ?_);rw[if_pos (by decide)];unfold seqItems?;refine f8 (f8 (a2B h1 ?_));rw[h3];dsimp only;refine M9 (M9 ?_);show wpAny _ _ (holding [kv i,val i] (dictSet D (kv i) (val i))) _ _ _;refine T8 (wpAny_dictSet_pairs (hsz:=P7 (aB key val i) (P7 hi hn)) (hk i hlt) hD' λh' hD2 hsb=>?_);have e1:((i:Int)+1)=((i+1:Nat):Int):=by omega
  have hm3:Moved (D::wr) G s { s' with heap:=h',toks:=s'.toks+1 }:=hm2.then_heap (a0x _) λb o hb e=>by rw[hsb.2 b (λh:b=D=>hb (by rw[h];exact M3))];exact e
  refine M9 ⟨a1T jF _,?_⟩;rw[show rawInt ((i:Int)+1)=Value.int ((i+1:Nat):Int) 0 by rw[e1];rfl];refine ih (i+1) 0 _ (by omega) hlt (W.frame _ s' _ _ hst' (a0x _) λb hb o e=>?_) (tmv hm3 ht) hD2 λs'' hm'' hD''=>hR s'' (Moved.trans W.gtrans hm3 hm'') hD'';rw[hsb.2 b (λh:b=D=>hDf (by rw[<- h];exact hb))];exact e
end
section
variable {prog:MV}{w:M_}{A:Nb}{E:MC}{s:MH}{K:Type}[DecidableEq K] {knd:KeyKind prog w K}
def aC{l:Addr}{items:Nn}{m:Nat}{sl:Ng}{Q:MC}{key:Nat->K}{kv val:NJ}{ad:MN}(hh:A.handled=none)(hl:s.heap.get? l=some ⟨.type "list",none,.seq items m,sl⟩)
  (hP:∀i,i<items.size->items[i]?=some (.ref (ad i))) (ht:∀i,i<items.size->TupAt s.heap (ad i) (kv i) (val i)) (hk:∀i,i<items.size->knd.is (key i) (kv i)=true) (hn:items.size<=sizeLine)
  (h:∀h' tk,(∀b o,s.heap.get? b=some o->h'.get? b=some o)->h'.DictOf knd s.heap.objs.size (tT key val items.size)->Q (.ref s.heap.objs.size) { s with heap:=h',toks:=tk }):
  wpAny (model prog w) A (call (.type "dict") [.ref l]) Q E s:=by
 refine a2z (Q₁:=λobj s₁=>obj=.ref s.heap.objs.size/\s₁={ s with heap:=s.heap.push { cls:=.type "dict",data:=.dict #[] } }) F.kt_called_dict (F.kt_typeCall_dict_1 _) F.entry_dict_init (kt_code_dict_new _ ⟨rfl,rfl⟩) ?_
 rintro obj s₁ ⟨rfl,rfl⟩
 have hnew:(s.heap.push { cls:=.type "dict",data:=.dict #[] }).DictOf knd s.heap.objs.size []:=Heap.DictOf.new s.heap;have hl':(s.heap.push { cls:=.type "dict",data:=.dict #[] }).get? l=some ⟨.type "list",none,.seq items m,sl⟩:=M6 _ hl;refine⟨hnew.typeIs,F.args_dict_init_2 _ _,?_⟩;unfold Builtin.«dict.__init__»;refine f8 ?_;unfold Builtin.Dict.selfAndRest;refine f8 (wpAny_notOrdered_dict hnew.typeIs ?_);show wpAny _ _ (pure (s.heap.objs.size,[Value.ref l])) _ _ _;refine M9 ?_;show wpAny _ _ (Builtin.Dict.updateFrom "dict.__init__" s.heap.objs.size (.ref l) [] .none) _ _ _;unfold Builtin.Dict.updateFrom;refine f8 (a1a (T:="list") ⟨_,hl',rfl⟩ ?_);rw[if_pos (by decide)];refine f8 ?_;refine CO hh hl' λh1 t1 k1=>?_;rw[if_pos (show(none:Option Value).isNone=true from rfl)];refine f8 (a2G ?_);have hl1:h1.get? l=some ⟨.type "list",none,.seq items m,sl⟩:=k1 _ _ hl';have hil:h1.IsList l items:=⟨_,hl1,rfl,m,rfl⟩;refine f8 (wpAny_pyIter_list hil ?_);have D1:h1.DictOf knd s.heap.objs.size []:=by obtain⟨o,es,ep,ho,rest⟩:=hnew;exact⟨o,es,ep,k1 _ _ ho,rest⟩
 have ls:l<s.heap.objs.size:=N4 hl;have l1:l<h1.objs.size:=N4 hl1;have ds:s.heap.objs.size<h1.objs.size:=by obtain⟨o,_,_,ho,_⟩:=D1;exact N4 ho
 have hne:l≠h1.objs.size:=O1 l1;have kp:∀b o,h1.get? b=some o->(h1.push { cls:=.type "list_iterator",data:=.fields #[.ref l,.int 0 0] }).get? b=some o:=λb o e=>M6 _ e;have tl:∀j,j<items.size->ad j<s.heap.objs.size:=λj hj=>by obtain⟨o,_,h1,_⟩:=ht j hj;exact N4 h1
 refine M9 ⟨a1T jF _,uY (knd:=knd) (Walks.list (A:=A.in1.in1) hh h1.objs.size l hne items).toS s.heap.objs.size (by simp;exact⟨O1 ds,a0l ls⟩) key kv val ad (λi v hv=>?_) hk (λi hi=>?_) hn items.size 0 0 _ (by omega) (S7 _) ⟨⟨_,O8 _ rfl,rfl,rfl⟩,?_⟩ (λj hj=>?_) ?_ λs' hm hD=>?_⟩
 .have hi:i<items.size:=by
   by_cases c:i<items.size
   .exact c
   .rw[a2p (by omega)]at hv;cases hv
  rw[hP i hi]at hv;cases hv;rfl
 .have:=tl i hi;intro hm;rcases O5.mp hm with e|hm
  .exact O1 this e
  .exact O1 (a1D this ds) (O7.mp hm)
 .exact⟨_,kp _ _ hl1,rfl,m,rfl⟩
 .obtain⟨o,q,e1,e2,e3⟩:=ht j hj;exact⟨o,q,kp _ _ (k1 _ _ (M6 _ e1)),e2,e3⟩
 .obtain⟨o,es,ep,ho,rest⟩:=D1;exact⟨o,es,ep,kp _ _ ho,rest⟩
 .rw[a2K hm];refine⟨rfl,h s'.heap s'.toks (λb o e=>hm.heap b o (λhmem=>?_) (kp _ _ (k1 _ _ (M6 _ e)))) hD⟩;have:=N4 e;rcases O5.mp hmem with e'|hm
  .exact O1 this e'
  .exact O1 (a1D this ds) (O7.mp hm)
end
section
variable {X:Cx}
def Wo(K:Nh)(H:Hp):List V->List (Key×V)->Prop
 |[],es=>es=[]
 |x::xs,es=>∃a k v r,x=.ref a/\es=(k,v)::r/\SqT K H a [kV k,v]/\Wo K H xs r
def g_(es:MM):List (Key×V):=es.foldl (λacc kv=>putK acc kv.1 kv.2) []
def cP(K:Nh):List V->Hp->VK->Prop:=λvs H Q=>∃(p:Addr)(xs:ML)(es:MM),vs=[.ref p]/\SqL K H p xs/\Wo K H xs es/\∀l,H l=none->Q (.ref l) (upd H l (.dK (g_ es)))
def hX{pins:My}{σ:St}{H:Hp}{s:MH}(I:Inv X pins σ H s):∀{xs:ML}{es:MM}{its:MJ},Wo X.K H xs es->Vals xs its->∃ps:List (Addr×Value×Value),its=ps.map (λp=>Value.ref p.1)/\ps.length=es.length/\(∀p∈ps,TupAt s.heap p.1 p.2.1 p.2.2)/\∀(i:Nat) p e,ps[i]?=some p->es[i]?=some e->RelV (kV e.1) p.2.1/\RelV e.2 p.2.2
 |[],_,its,h,r=>by cases(show _=_ from h);cases r;exact⟨[],rfl,rfl,(λ_ h=>by cases h),λ_ _ _ h=>by cases h⟩
 |x::xs,_,its,h,r=>by
  obtain⟨a,k,v,es,rfl,rfl,ht,hr⟩:=h;cases r with
  |cons rx r=>
   cases rx;obtain⟨ps,e1,e2,e3,e4⟩:=hX I hr r;obtain⟨us,ru,⟨o,h1,h2,m,h3⟩,_⟩:=I.tuple ht;obtain⟨u1,u2,rfl,r1,r2⟩:=vals2 ru;refine⟨(a,u1,u2)::ps,by rw[e1];rfl,by rw[v4,v4,e2],λp hp=>?_,λi p e hp he=>?_⟩
   .rcases O5.mp hp with rfl|hp
    .exact⟨o,m,h1,h2,h3⟩
    .exact e3 p hp
   .cases i with
    |zero=>rw[a1o]at hp he;cases hp;cases he;exact⟨r1,r2⟩
    |succ i=>rw[P6]at hp he;exact e4 i p e hp he
def pR{es:MM}{key:Nat->Key}{val:NJ}:∀n,n<=es.length->(∀i e,i<n->es[i]?=some e->key i=e.1/\RelV e.2 (val i))->KV ((es.take n).foldl (λacc kv=>putK acc kv.1 kv.2) []) (tT key val n)
 |0,_,_=>.nil
 |n+1,hn,h=>by have hlt:n<es.length:=hn;have hx:=N6 hlt;rw[List.take_succ,hx,List.foldl_append];obtain⟨e1,e2⟩:=h n _ (a0r n) hx;show KV (putK _ _ _) (stored (tT key val n) (key n) (val n));rw[e1];exact(pR n (a1j hlt) λi e hi he=>h i e (a1r hi) he).put _ e2
def Uw(hc:X.calm=true):wq X (.type "dict") (cP X.K):=by
 intro pins s σ H xs us Q I r h;obtain⟨p,xs,es,rfl,hS,hp,q⟩:=h;obtain⟨u,rfl,ru⟩:=vals1 r;cases ru;obtain⟨its,rv,⟨o,m,h1,h2,h3,h4⟩,hz⟩:=I.list hS;obtain⟨ps,e1,e2,e3,e4⟩:=hX I hp rv;have hlen:its.length=es.length:=by rw[e1,u8,e2]
 have hx:∀i,i<es.length->∃a,ps[i]?=some a/\es[i]?=some (es.getD i (.inl 0,.non))/\ps.getD i (0,.none,.none)=a:=λi hi=>by
  have hi2:i<ps.length:=by rw[e2];exact hi
  refine⟨ps[i],N6 hi2,by rw[a0f,N6 hi];rfl,by rw[a0f,N6 hi2];rfl⟩
 have hsz:its.toArray.size=es.length:=by simpa using hlen
 obtain⟨cls,dict,data,slots⟩:=o;dsimp only at h2 h3 h4;subst h2 h3 h4;refine aC (knd:=z4 X.prog X.w) (key:=λi=>(es.getD i (.inl 0,.non)).1) (kv:=λi=>(ps.getD i (0,.none,.none)).2.1) (val:=λi=>(ps.getD i (0,.none,.none)).2.2) (ad:=λi=>(ps.getD i (0,.none,.none)).1) (I.ok.hd hc) h1 (λi hi=>?_) (λi hi=>?_) (λi hi=>?_) ?_ λh' tk hk hD=>?_
 .rw[hsz]at hi;obtain⟨a,ha,_,hg⟩:=hx i hi;rw[hg];simp[e1,ha]
 .rw[hsz]at hi;obtain⟨a,ha,_,hg⟩:=hx i hi;rw[hg];exact e3 a (a0y ha)
 .rw[hsz]at hi;obtain⟨a,ha,he,hg⟩:=hx i hi;rw[hg];exact U6 (e4 i a _ ha he).1
 .rw[hsz,<- hlen,<- rv.length];exact hz
 .rw[hsz]at hD;have kvr:KV (g_ es) (tT (λi=>(es.getD i (.inl 0,.non)).1) (λi=>(ps.getD i (0,.none,.none)).2.2) es.length):=by
   have:=pR (es:=es) (key:=λi=>(es.getD i (.inl 0,.non)).1) (val:=λi=>(ps.getD i (0,.none,.none)).2.2) es.length (M7 _) λi e hi he=>?_
   .rwa [a0E]at this
   .obtain⟨a,ha,he',hg⟩:=hx i hi;rw[he]at he';cases he';rw[hg];exact⟨by rw[a0f,he],(e4 i a _ ha he).2⟩
  have hfr:=I.hok.fresh (M7 s.heap.objs.size);refine⟨.ref s.heap.objs.size,_,I.laid (a:=s.heap.objs.size) (o:=.dK (g_ es)) (t':=tk) hk (M7 _) (cj ?_ (T7.mpr (Ne.symm (O1 I.big))) kvr hD),rfl,q _ hfr⟩;rw[kvr.length];refine P7 (aB _ _ _) ?_;rw[<- hlen,<- rv.length];exact hz
end
def CP:List PV->Option (List (Key×PV))
 |[]=>some []
 |.t [k,v]::xs=>(pk k).bind λq=>(CP xs).map ((q,v)::·)
 |_=>none
def h8(es:MY):List (Key×PV):=es.foldl (λacc kv=>dput acc kv.1 kv.2) []
def cQ:List PV->Out PV
 |[.d xs]=>.ok (.d xs)
 |[.l xs]=>wu ((CP xs).map λes=>.d (h8 es))
 |_=>.wall
section
variable {W:RC}{M:MF}{H:Hp}
def pS:∀{xs:MX}{vs:ML}{es:MY},zI W M H xs vs->CP xs=some es->∃ev,Wo W.K H vs ev/\qy W M H es ev
 |[],_,_,h,e=>by cases e;cases(show _=_ from h);exact⟨[],rfl,rfl⟩
 |x::xs,_,es,h,e=>by
  obtain⟨v,r,rfl,h1,h2⟩:=h;unfold CP at e;split at e
  .cases ‹_::_=[]›
  .rename_i k y ys heq;cases heq;obtain⟨q,hq,e⟩:=O9.mp e;obtain⟨zs,hz,rfl⟩:=t0.mp e;obtain⟨ev,i1,i2⟩:=pS h2 hz;obtain⟨p,us,rfl,hp,u1,r1,rfl,hk,u2,r2,rfl,hv,hr⟩:=h1;cases(show _=_ from hr);cases Wd (yG.iff.mpr hk) hq;exact⟨(q,u2)::ev,⟨p,q,u2,ev,rfl,rfl,hp,i1⟩,⟨u2,ev,rfl,hv,i2⟩⟩
  .cases e
def Ux:∀{es:MY}{ev:MM}{a:MY}{av:MM},qy W M H a av->qy W M H es ev->qy W M H (es.foldl (λacc kv=>dput acc kv.1 kv.2) a) (ev.foldl (λacc kv=>putK acc kv.1 kv.2) av)
 |[],_,_,_,h,e=>by cases(show _=_ from e);exact h
 |kx::es,_,a,av,h,⟨v,q,e,h1,h2⟩=>by subst e;rw[a0z,a0z];exact Ux (a:=dput a kx.1 kx.2) (av:=putK av kx.1 v) (h.put h1) h2
def uZ:LfF W (λvs H Q=>FF vs H Q\/cP W.K vs H Q) cQ:=λM C B H xs vs Q n h q=>by
 unfold cQ at q;split at q
 .obtain⟨v,r,rfl,⟨p,es,rfl,_,hl,rr⟩,hr⟩:=h;cases(show _=_ from hr);exact .inl ⟨p,es,rfl,hl,λl hl=>q _ _ (zl.upd hl) (Cm rr hl)⟩
 .obtain⟨z,e,q⟩:=y9 q;obtain⟨es,he,rfl⟩:=t0.mp e;obtain⟨v,r,rfl,⟨p,ws,rfl,_,hl,rr⟩,hr⟩:=h;cases(show _=_ from hr);obtain⟨ev,i1,i2⟩:=pS rr he;exact .inr ⟨p,ws,ev,rfl,SqL.of hl,i1,λl hl=>q _ _ (zl.upd hl) (Cm (Ux (show qy W M H [] []from rfl) i2) hl)⟩
 .exact q.elim
end
def u6(hc:X.calm=true)(hg:Gl X "dict")(hm:X.mg "dict"=none)(ha:AM X C S ws [e] ms)(he:starEach [e] X.env=[(false,eval e X.env)]:=by rfl):FM X C S (.Call (.Name "dict" p) [e] [] pos) (zj cQ ms):=
 gS (λhK=>hK▸mB.or (Uw hc)) uZ hg hm a2s ha (he:=he)
section
variable {prog:MV}{w:M_}{A:Nb}{E:MC}{s:MH}
def len_dict:typeLookup (.type "dict") "__len__"=pure (some (.builtin "dict.__len__")):=by rw[a1i,a0O];kernel_rfl
def CQ(hT:s.TypeIs (.ref d) "dict")(h:Q false s):wpAny (model prog w) A (Builtin.List.listLengthHint (.ref d)) Q E s:=by
 unfold Builtin.List.listLengthHint;refine f8 (a1F hT len_dict ?_);generalize hid:("dict.__len__":String)=id0
 (fail_if_success (clear hid id0));wp_delta
 rw[show splitId id0=some ("dict","__len__")from by subst hid;decide +kernel];dsimp only;refine f8 (a1d (b:=true) hT (by rw[a2y];kernel_rfl) ?_);subst hid;rw[if_neg (by decide)];rw[if_pos (by decide +kernel)];refine f8 (a1a (T:="dict") hT ?_);exact M9 h
variable {K:Type}[DecidableEq K] {knd:KeyKind prog w K}
def CS{Q:MC}{d:Addr}{kvs:List (K×Value)}{ep:Nat}(hh:A.handled=none)(hd:(d==sysModules)=false)(hm:s.heap.DictAt knd d kvs ep)(hn:kvs.length<=sizeLine)
  (hQ:∀h' tk acc' c',(∀b o,s.heap.get? b=some o->h'.get? b=some o)->h'.get? s.heap.objs.size=some { cls:=.type "list",dict:=none,data:=.seq acc' c',slots:=#[] }->ItemsOf (λi v=>∃k x,kvs[i]?=some (k,x)/\knd.is k v=true) acc' kvs.length->Q (.ref s.heap.objs.size) { s with heap:=h',toks:=tk }):
  wpAny (model prog w) A (call (.type "list") [.ref d]) Q E s:=by
 have l1:d<s.heap.objs.size:=by obtain⟨o,_,ho,_⟩:=hm;exact N4 ho
 refine a2z (Q₁:=λobj s₁=>obj=.ref s.heap.objs.size/\s₁={ s with heap:=s.heap.push { cls:=.type "list",data:=.seq #[] } }) a2M (a2j _) a2k
  (code_list_new _ ⟨rfl,rfl⟩) λobj s₁ h₁=>?_
 obtain⟨rfl,rfl⟩:=h₁;have hS:(s.heap.push { cls:=.type "list",data:=.seq #[] }).get? s.heap.objs.size=some { cls:=.type "list",data:=.seq #[] }:=O8 _ rfl;refine⟨⟨_,hS,rfl⟩,a19 _ _,?_⟩;show wpAny _ _ (do let old<-Builtin.List.listItems (.ref s.heap.objs.size);Builtin.List.listUpdate (.ref s.heap.objs.size) (λ_=>#[]);letGo old.toList.reverse;Builtin.List.listExtendWith (.ref s.heap.objs.size) (.ref d) .none) _ _ _;refine f8 ?_;unfold Builtin.List.listItems;refine f8 (wpAny_seqItems hS rfl (M9 ?_));show wpAny _ _ (updateSeq s.heap.objs.size (λ_=>#[]) >>= λ_=>letGo (#[]:Array Value).toList.reverse >>= λ_=>Builtin.List.listExtendWith (.ref s.heap.objs.size) (.ref d) .none) _ _ _;refine f8 (a1H hS rfl ?_);have hS₂:=a0j (Obj.mapSeq (λ_=>(#[]:Array Value))) hS rfl;refine f8 (a22 ?_);have kp:∀b o,s.heap.get? b=some o->((s.heap.push { cls:=.type "list",data:=.seq #[] }).update s.heap.objs.size (Obj.mapSeq (λ_=>(#[]:Array Value)))).get? b=some o:=λb o e=>
  (P8 _ _ (a0l (N4 e))).trans (M6 _ e)
 generalize((s.heap.push { cls:=.type "list",data:=.seq #[] }).update s.heap.objs.size (Obj.mapSeq (λ_=>(#[]:Array Value))))=h2 at hS₂ kp;have hm2:h2.DictAt knd d kvs ep:=hm.at' λo e=>kp _ _ e;have hT2:∀{s':MH},s'.heap.DictAt knd d kvs ep->s'.TypeIs (.ref d) "dict":=λz=>z.dictOf.typeIs;unfold Builtin.List.listExtendWith;refine f8 (a1a (T:="dict") (hT2 hm2) ?_);have hne1:s.heap.objs.size≠d:=a0l l1;have h1:Builtin.List.listSameRef (.ref s.heap.objs.size) (.ref d)=false:=by simp[Builtin.List.listSameRef,hne1]
 rw[if_neg (by rw[h1];decide)];refine f8 (wpAny_pyIter_dict hd hm2 ?_);have kp2:∀b o,h2.get? b=some o->(h2.push { cls:=.type "dict_keyiterator",data:=.fields #[.ref d,.int 0 0,.int kvs.length 0,.int ep 0] }).get? b=some o:=λb o e=>M6 _ e;have hm3:(h2.push { cls:=.type "dict_keyiterator",data:=.fields #[.ref d,.int 0 0,.int kvs.length 0,.int ep 0] }).DictAt knd d kvs ep:=hm2.at' λo e=>kp2 _ _ e;refine f8 (T8 (CQ (hT2 hm3) ?_));rw[if_pos (by decide)];refine f8 (a2G ?_);unfold Builtin.List.listTouch Builtin.List.listUpdate;have s2:s.heap.objs.size<h2.objs.size:=N4 hS₂;have dn:d≠h2.objs.size:=O1 (a1D l1 s2);have hS3:=kp2 _ _ hS₂;have it3:(h2.push { cls:=.type "dict_keyiterator",data:=.fields #[.ref d,.int 0 0,.int kvs.length 0,.int ep 0] }).get? h2.objs.size=some { cls:=.type "dict_keyiterator",data:=.fields #[.ref d,.int 0 0,.int kvs.length 0,.int ep 0] }:=O8 _ rfl;have kq:∀b o,s.heap.get? b=some o->(h2.push { cls:=.type "dict_keyiterator",data:=.fields #[.ref d,.int 0 0,.int kvs.length 0,.int ep 0] }).get? b=some o:=λb o e=>kp2 _ _ (kp b o e);generalize(h2.push { cls:=.type "dict_keyiterator",data:=.fields #[.ref d,.int 0 0,.int kvs.length 0,.int ep 0] })=h3 at hS3 it3 kq hm3;refine f8 (f8 (a1H hS3 rfl ?_));have hS4:=a0j (Obj.mapSeq (λx:Array Value=>x.push Value.none)) hS3 rfl;refine a1H hS4 rfl ?_;have hS5:=a0j (Obj.mapSeq (λx:Array Value=>x.pop)) hS4 rfl;have ku:∀b o,b≠s.heap.objs.size->h3.get? b=some o->((h3.update s.heap.objs.size (Obj.mapSeq λx=>x.push Value.none)).update s.heap.objs.size (Obj.mapSeq λx=>x.pop)).get? b=some o:=λb o hb e=>
  (P8 _ _ (Ne.symm hb)).trans ((P8 _ _ (Ne.symm hb)).trans e)
 have hm5:=hm3.at' (h':=((h3.update s.heap.objs.size (Obj.mapSeq λx=>x.push Value.none)).update s.heap.objs.size (Obj.mapSeq λx=>x.pop))) λo e=>ku _ _ (Ne.symm hne1) e;have it5:=ku _ _ (a0l s2) it3;have k5:∀b o,s.heap.get? b=some o->((h3.update s.heap.objs.size (Obj.mapSeq λx=>x.push Value.none)).update s.heap.objs.size (Obj.mapSeq λx=>x.pop)).get? b=some o:=λb o e=>ku b o (O1 (N4 e)) (kq b o e);generalize((h3.update s.heap.objs.size (Obj.mapSeq λx=>x.push Value.none)).update s.heap.objs.size (Obj.mapSeq λx=>x.pop))=h5 at hS5 hm5 it5 k5;refine M9 ⟨a1T a11 _,a2F (Walks.dictKeys (knd:=knd) (A:=A.in1.in1) hh h2.objs.size d dn kvs ep).toS hn s.heap.objs.size (by simp;exact⟨O1 s2,hne1⟩) _ kvs.length 0 _ _ _ rfl (S7 _) (show _/\_ from⟨⟨_,it5,rfl,rfl⟩,hm5⟩) hS5 (ItemsOf.nil _) λs' acc' c' hmv hS' hacc=>?_⟩;rw[a2K hmv];refine⟨rfl,hQ s'.heap s'.toks acc' c' (λb o e=>hmv.heap b o (λhmem=>?_) (k5 b o e)) hS' hacc⟩;have:=N4 e;rcases O5.mp hmem with e'|hm
 .exact O1 this e'
 .exact O1 (a1D this s2) (O7.mp hm)
end
section
variable {X:Cx}
def Bb:List V->Hp->VK->Prop:=λvs H Q=>∃p es,vs=[.ref p]/\Rd H p (.dK es)/\∀l,H l=none->Q (.ref l) (upd H l (.lst (es.map λkv=>kV kv.1)))
def mE(hc:X.calm=true):wq X (.type "list") Bb:=by
 intro pins s σ H xs us Q I r h;obtain⟨p,es,rfl,hS,q⟩:=h;obtain⟨u,rfl,ru⟩:=vals1 r;cases ru;obtain⟨z,hd,vs,rel,o,ds,ep,e1,e2,e3,e4,e5,e6⟩:=Y1 I.hok hS;have hl:vs.length=es.length:=rel.length.symm;refine CS (knd:=z4 X.prog X.w) (kvs:=vs) (ep:=ep) (I.ok.hd hc) hd ⟨o,ds,e1,e2,e3,e4,e5,e6⟩ (by rw[hl];exact z) λh' tk acc' c' hk hg hi=>?_;refine g5 (s:=s) (tk:=tk) I (M7 _) hk hg ?_ ?_ ?_ q
 .rw[u8];exact z
 .rw[u8,hi.1,hl]
 .intro j x v f1 f2;obtain⟨k,y,f3,f4⟩:=hi.2 j v f2;rw[P2]at f1;obtain⟨kx,f5,rfl⟩:=t0.mp f1;obtain⟨w',hw⟩:=A9 rel (k:=kx.1) (v:=kx.2) f5;rw[hw]at f3;cases f3;exact cL f4
end
def qv:List PV->Out PV
 |[.l xs]=>.ok (.l xs)
 |[.t xs]=>.ok (.l xs)
 |[.sc xs]=>.ok (.l (xs.map PV.i))
 |[.d kvs]=>.ok (.l (kvs.map λkx=>kP kx.1))
 |_=>.wall
def h9{W:RC}{M:MF}{H:Hp}:∀{kvs:MY}{es:MM},qy W M H kvs es->zI W M H (kvs.map λkx=>kP kx.1) (es.map λkv=>kV kv.1)
 |[],_,h=>by cases(show _=_ from h);rfl
 |kx::r,_,⟨v,q,e,h1,h2⟩=>by subst e;exact⟨_,_,rfl,Ba _,h9 h2⟩
def u7(L:LfF W r Ck):LfF W (λvs H Q=>r vs H Q\/Bb vs H Q) qv:=λM C B H xs vs Q n h q=>by
 unfold qv at q;split at q
 .exact .inl (L M C B H _ vs Q n h q)
 .exact .inl (L M C B H _ vs Q n h q)
 .exact .inl (L M C B H _ vs Q n h q)
 .obtain⟨v,r,rfl,⟨p,es,rfl,_,hl,rr⟩,hr⟩:=h;cases(show _=_ from hr);exact .inr ⟨p,es,rfl,hl,λl hl=>q _ _ (zl.upd hl) (ZV (h9 rr) hl)⟩
 .exact q.elim
def qi(hc:X.calm=true)(hg:Gl X "list")(hm:X.mg "list"=none)(ha:AM X C S ws [e] ms)(he:starEach [e] X.env=[(false,eval e X.env)]:=by rfl):FM X C S (.Call (.Name "list" p) [e] [] pos) (zj qv ms):=
 gS (λhK=>hK▸b_.or (mE hc)) (u7 Cn) hg hm a2q ha (he:=he)
section
variable {X:Cx}{C:LC}{S:MB}{e:MR}{ws:MP}{ms:MA}{pos p:Pos}
end
inductive HV where
 |v (x:PV)|g (k:Nat)|t (xs:List HV)
inductive Cell where
 |l (xs:List HV)|d (kvs:List (Key×HV))|z (kvs:List (Key×HV))|o (c:Nat) (fs:List (Str×HV))|y (b:Bool)
abbrev AH:=List Cell
abbrev ZL:=List (Option HV)
structure HC where
 W:RC
 H0:Hp
 M0:Addr->Prop
def HM(Z:HC)(A:MN)(n:Nat):Addr->Prop:=λa=>(Z.M0 a\/Z.H0 a=none)/\∀k,k<n->A k≠a
mutual
def jt(W:RC)(M:MF)(A:MN)(n:Nat)(H:Hp):HV->V->Prop
 |.v x,v=>Rep W M H x v
 |.g k,v=>k<n/\v=.ref (A k)
 |.t xs,v=>∃p vs,v=.ref p/\SqT W.K H p vs/\qp W M A n H xs vs
def qp(W:RC)(M:MF)(A:MN)(n:Nat)(H:Hp):List HV->List V->Prop
 |[],vs=>vs=[]
 |x::xs,vs=>∃v r,vs=v::r/\jt W M A n H x v/\qp W M A n H xs r
end
def yO{κ:Type}(R:HV->V->Prop):List (κ×HV)->List (κ×V)->Prop
 |[],es=>es=[]
 |kx::r,es=>∃v q,es=(kx.1,v)::q/\R kx.2 v/\yO R r q
section
variable {W:RC}{M M':MF}{A A':MN}{n n':Nat}{H H':Hp}
mutual
def jt.gen(f:Fr M H H')(s:∀a,M a->H a≠none->M' a)(hn:n<=n')(ha:∀k,k<n->A' k=A k):∀{x:HV}{v:V},jt W M A n H x v->jt W M' A' n' H' x v
 |.v x,v,h=>Rep.gen f s h
 |.g k,v,h=>⟨N9 h.1 hn,by rw[ha k h.1];exact h.2⟩
 |.t xs,v,h=>by unfold jt at h ⊢;obtain⟨p,vs,e,r,q⟩:=h;exact⟨p,vs,e,f.sqT r,qp.gen f s hn ha q⟩
def qp.gen(f:Fr M H H')(s:∀a,M a->H a≠none->M' a)(hn:n<=n')(ha:∀k,k<n->A' k=A k):∀{x:List HV}{v:ML},qp W M A n H x v->qp W M' A' n' H' x v
 |[],v,h=>h
 |x::xs,vs,h=>by unfold qp at h ⊢;obtain⟨v,r,e,h1,h2⟩:=h;exact⟨v,r,e,jt.gen f s hn ha h1,qp.gen f s hn ha h2⟩
end
def yO.imp{κ:Type}{R R':HV->V->Prop}(h:∀x v,R x v->R' x v):∀{kvs:List (κ×HV)}{es:List (κ×V)},yO R kvs es->yO R' kvs es
 |[],_,q=>q
 |_::_,_,⟨v,q,e,a,b⟩=>⟨v,q,e,h _ _ a,yO.imp h b⟩
def Uy(W:RC)(M:MF)(A:MN)(n:Nat)(H:Hp)(p:Addr):Cell->Prop
 |.l xs=>∃vs,H p=some (.lst vs)/\qp W M A n H xs vs
 |.d kvs=>∃es,H p=some (.dK es)/\yO (jt W M A n H) kvs es
 |.z kvs=>∃o es,H p=some (.frz o (.dK es))/\yO (jt W M A n H) kvs es
 |.o c fs=>∃dx es,H p=some (.ins (W.cls c) dx es)/\yO (jt W M A n H) fs es
 |.y b=>p=W.cls 1000/\∃ps,H p=some (.tbl ps)/\(b=true->ps = #[])
def Uy.gen{p:Addr}(hp:H' p=H p)(f:Fr M H H')(s:∀a,M a->H a≠none->M' a)(hn:n<=n')(ha:∀k,k<n->A' k=A k):∀{c:Cell},Uy W M A n H p c->Uy W M' A' n' H' p c
 |.l _,⟨vs,e,q⟩=>⟨vs,hp.trans e,q.gen f s hn ha⟩
 |.d _,⟨es,e,q⟩=>⟨es,hp.trans e,q.imp λ_ _=>jt.gen f s hn ha⟩
 |.z _,⟨o,es,e,q⟩=>⟨o,es,hp.trans e,q.imp λ_ _=>jt.gen f s hn ha⟩
 |.o _ _,⟨dx,es,e,q⟩=>⟨dx,es,hp.trans e,q.imp λ_ _=>jt.gen f s hn ha⟩
 |.y _,⟨e1,ps,e,q⟩=>⟨e1,ps,hp.trans e,q⟩
def Uy.ob{p:Addr}:∀{c:Cell},Uy W M A n H p c->∃o,H p=some o
 |.l _,⟨_,e,_⟩=>⟨_,e⟩
 |.d _,⟨_,e,_⟩=>⟨_,e⟩
 |.z _,⟨_,_,e,_⟩=>⟨_,e⟩
 |.o _ _,⟨_,_,e,_⟩=>⟨_,e⟩
 |.y _,⟨_,_,e,_⟩=>⟨_,e⟩
end
structure Gro(Z:HC)(A:MN)(n:Nat)(H:Hp)(A':MN)(n':Nat)(H':Hp):Prop where
 le:n<=n'
 agr:∀k,k<n->A' k=A k
 fresh:∀k,n<=k->k<n'->H (A' k)=none
 fr:Fr (HM Z A n) H H'
 dom:∀a,H' a=none->H a=none
structure HH(Z:HC)(A:MN)(H:Hp)(G:AH):Prop where
 same:zl Z.H0 H
 cell:∀(k:Nat) c,G[k]?=some c->Uy Z.W (HM Z A G.length) A G.length H (A k) c
 inj:∀j k,j<G.length->k<G.length->A j=A k->j=k
 own:∀k,k<G.length->Z.H0 (A k)=none
structure HR(Z:HC)(A:MN)(H:Hp)(σ:St)(ρ:ZL)(G:AH):Prop extends HH Z A H G where
 len:σ.length=ρ.length
 var:∀(i:Nat) x,ρ[i]?=some (some x)->∃v,σ[i]?=some (some v)/\jt Z.W (HM Z A G.length) A G.length H x v
section
variable {Z:HC}{A A' A'':MN}{n n' n'':Nat}{H H' H'':Hp}{G G' G'':AH}{σ σ':St}{ρ ρ':ZL}
def Gro.sM(g:Gro Z A n H A' n' H'):∀a,HM Z A n a->H a≠none->HM Z A' n' a:=λa m h=>⟨m.1,λk hk e=>by
 by_cases c:k<n
 .exact m.2 k c (by rw[<- g.agr k c];exact e)
 .exact h (e▸g.fresh k (by omega) hk)⟩
def Gro.same(s:zl H H'):Gro Z A n H A n H':=⟨M7 _,λ_ _=>rfl,λk a b=>absurd b (by omega),s.fr,λa h=>zl.none s h⟩
def Gro.refl:Gro Z A n H A n H:=Gro.same (zl.refl _)
def Gro.trans(g:Gro Z A n H A' n' H')(k:Gro Z A' n' H' A'' n'' H''):Gro Z A n H A'' n'' H'':=by
 refine⟨P7 g.le k.le,λj hj=>(k.agr j (N9 hj g.le)).trans (g.agr j hj),λj h1 h2=>?_,λa o h m=>?_,λa h=>g.dom a (k.dom a h)⟩
 .by_cases c:j<n'
  .rw[k.agr j c];exact g.fresh j h1 c
  .exact g.dom _ (k.fresh j (by omega) h2)
 .refine k.fr a o (g.fr a o h m) (m.imp (λm=>g.sM a m (by rw[h];exact λz=>by cases z)) id)
def jt.gro(g:Gro Z A n H A' n' H')(h:jt W (HM Z A n) A n H x v):jt W (HM Z A' n') A' n' H' x v:=h.gen g.fr g.sM g.le g.agr
def HR.gro(R:HR Z A H σ ρ G)(h:HH Z A' H' G')(g:Gro Z A G.length H A' G'.length H'):HR Z A' H' σ ρ G':=
 ⟨h,R.len,λi x e=>let⟨v,h1,h2⟩:=R.var i x e;⟨v,h1,h2.gro g⟩⟩
def HH.ob(h:HH Z A H G)(hk:k<G.length):∃o,H (A k)=some o:=(h.cell k _ (N6 hk)).ob
def HH.keep(h:HH Z A H G)(s:zl H H'):HH Z A H' G:=⟨h.same.trans s,λk c e=>by
 have q:=h.cell k c e;obtain⟨o,ho⟩:=q.ob;exact q.gen ((s _ _ ho).trans ho.symm) s.fr (λ_ m _=>m) (M7 _) λ_ _=>rfl,h.inj,h.own⟩
def HH.new(h:HH Z A H G):New (HM Z A G.length) H:=λp hp=>⟨.inr (zl.none h.same hp),λk hk e=>by
 obtain⟨o,ho⟩:=h.ob hk;rw[e,hp]at ho;cases ho⟩
def HR.keep(R:HR Z A H σ ρ G)(s:zl H H'):HR Z A H' σ ρ G:=R.gro (R.toHH.keep s) (Gro.same s)
def exA(A:MN)(n:Nat)(p:Addr):Nat->Addr:=λk=>if k=n then p else A k
def Jb:exA A n p n=p:=if_pos rfl
def Jc(h:k<n):exA A n p k=A k:=if_neg (by omega)
def Gro.ext(s:zl H H')(hp:H p=none):Gro Z A n H (exA A n p) (n+1) H':=
 ⟨a0x _,λk hk=>Jc hk,λk h1 h2=>by rw[show k=n by omega,Jb];exact hp,s.fr,λa h=>zl.none s h⟩
def HH.alloc(h:HH Z A H G)(s:zl H H')(hp:H p=none)(hc:Uy Z.W (HM Z (exA A G.length p) (G.length+1)) (exA A G.length p) (G.length+1) H' p c):HH Z (exA A G.length p) H' (G++[c]):=by
 have g:Gro Z A G.length H (exA A G.length p) (G.length+1) H':=Gro.ext s hp;have hl:(G++[c]).length=G.length+1:=by simp
 have np:∀k,k<G.length->A k≠p:=λk hk e=>by obtain⟨o,ho⟩:=h.ob hk;rw[e,hp]at ho;cases ho
 refine⟨h.same.trans s,λk d e=>?_,λj k hj hk e=>?_,λk hk=>?_⟩
 .rw[hl];by_cases hk:k<G.length
  .rw[T5 hk]at e;have q:=h.cell k d e;obtain⟨o,ho⟩:=q.ob;rw[Jc hk];exact q.gen ((s _ _ ho).trans ho.symm) g.fr g.sM g.le g.agr
  .have e2:=(N7.mp e).1;have ek:k=G.length:=by omega
   subst ek;rw[a0P (M7 _),Nat.sub_self]at e;cases e;rw[Jb];exact hc
 .rw[hl]at hj hk;by_cases c1:j=G.length
  .by_cases c2:k=G.length
   .rw[c1,c2]
   .rw[c1,Jb,Jc (by omega)]at e;exact absurd e.symm (np k (by omega))
  .by_cases c2:k=G.length
   .rw[c2,Jb,Jc (by omega)]at e;exact absurd e (np j (by omega))
   .rw[Jc (by omega),Jc (by omega)]at e;exact h.inj j k (by omega) (by omega) e
 .rw[hl]at hk;by_cases c1:k=G.length
  .rw[c1,Jb];exact zl.none h.same hp
  .rw[Jc (by omega)];exact h.own k (by omega)
def HH.frw(h:HH Z A H G)(hk:k<G.length)(h0:H (A k)=Option.some o0)(n0:¬Imm o0):Gro Z A G.length H A G.length (upd H (A k) o):=by
 refine⟨M7 _,λ_ _=>rfl,λk a b=>absurd b (by omega),λa q e m=>?_,λa e=>?_⟩
 .have:a≠A k:=λz=>by
   rcases m with m|m
   .exact m.2 k hk z.symm
   .rw[z,h0]at e;cases e;exact n0 m
  rw[zg this];exact e
 .by_cases z:a=A k
  .rw[z,zd]at e;cases e
  .rw[zg z]at e;exact e
def HH.write(h:HH Z A H G)(hk:k<G.length)(h0:H (A k)=Option.some o0)(n0:¬Imm o0)(hc:Uy Z.W (HM Z A G.length) A G.length (upd H (A k) o) (A k) c):HH Z A (upd H (A k) o) (G.set k c):=by
 have g:=h.frw (o:=o) hk h0 n0;have hl:(G.set k c).length=G.length:=P1 ..;refine⟨λa q e=>?_,λj d e=>?_,λi j hi hj=>h.inj i j (hl▸hi) (hl▸hj),λj hj=>h.own j (hl▸hj)⟩
 .have:a≠A k:=λz=>by rw[z,h.own k hk]at e;cases e
  rw[zg this];exact h.same a q e
 .rw[hl];by_cases hj:k=j
  .subst hj;rw[P5 hk]at e;cases e;exact hc
  .rw[P0 hj]at e;have jl:=(N7.mp e).1;exact(h.cell j d e).gen (zg λz=>hj (h.inj j k jl hk z).symm) g.fr g.sM g.le g.agr
def HR.set(R:HR Z A H σ ρ G)(hx:jt Z.W (HM Z A G.length) A G.length H x v):HR Z A H (σ.set i (Option.some v)) (ρ.set i (Option.some x)) G:=by
 refine⟨R.toHH,by rw[P1,P1];exact R.len,λj y e=>?_⟩;by_cases hij:i=j
 .subst hij;have hl:i<ρ.length:=by
   have:=(N7.mp e).1
   rwa [P1]at this
  rw[P5 hl]at e;cases e;exact⟨v,by rw[P5 (by rw[R.len];exact hl)],hx⟩
 .rw[P0 hij]at e ⊢;exact R.var j y e
end
inductive HX(α:Type)where
 |ok (a:α) (G:AH)|exc (c:Nat) (fs:MZ) (G:AH)|wall
def HX.bind{α β:Type}:HX α->(α->AH->HX β)->HX β
 |.ok a G,f=>f a G
 |.exc c fs G,_=>.exc c fs G
 |.wall,_=>.wall
def Bc(Z:HC)(E:XK)(A:MN)(n:Nat)(H:Hp)(c:Nat)(fs:MZ)(G':AH):Prop:=∀A' H' e dx es,HH Z A' H' G'->Gro Z A n H A' G'.length H'->H' e=some (XC e (Z.W.cls c) dx)->H' dx=some (XD dx es)->jq Z.W (HM Z A' G'.length) H' fs es->E (.ref e) (some dx) H'
def HPx{α:Type}(Z:HC)(E:XK)(A:MN)(n:Nat)(H:Hp)(K:α->(Nat->Addr)->Hp->AH->Prop):HX α->Prop
 |.ok x G'=>∀A' H',HH Z A' H' G'->Gro Z A n H A' G'.length H'->K x A' H' G'
 |.exc c fs G'=>Bc Z E A n H c fs G'
 |.wall=>False
section
variable {α β:Type}{K:β->(Nat->Addr)->Hp->AH->Prop}{K':α->(Nat->Addr)->Hp->AH->Prop}
def Bc.gro(h:Bc Z E A n H c fs G)(g:Gro Z A n H A' n' H'):Bc Z E A' n' H' c fs G:=λA2 H2 e dx es h2 g2=>h A2 H2 e dx es h2 (g.trans g2)
def HPx.gro{o:HX β}(h:HPx Z E A n H K o)(g:Gro Z A n H A' n' H'):HPx Z E A' n' H' K o:=by
 cases o with
 |ok x G'=>exact λA2 H2 h2 g2=>h A2 H2 h2 (g.trans g2)
 |exc c fs G'=>exact Bc.gro h g
 |wall=>exact h
def HPx.bind{o:HX α}{f:α->AH->HX β}(h:HPx Z E A n H K (o.bind f))(k:∀x A' H' G',HH Z A' H' G'->Gro Z A n H A' G'.length H'->HPx Z E A' G'.length H' K (f x G')->K' x A' H' G'):HPx Z E A n H K' o:=by
 cases o with
 |ok x G'=>exact λA2 H2 h2 g2=>k x A2 H2 G' h2 g2 (HPx.gro (o:=f x G') h g2)
 |exc c fs G'=>exact h
 |wall=>exact h
end
abbrev HME:=ZL->AH->HX HV
abbrev HMT:=ZL->AH->HX Bool
abbrev HMA:=ZL->AH->HX (List HV)
def KV'(Z:HC)(Q:VK):HV->(Nat->Addr)->Hp->AH->Prop:=λx A' H' G'=>∀v,jt Z.W (HM Z A' G'.length) A' G'.length H' x v->Q v H'
def KT'(Q:Bool->Hp->Prop):Bool->(Nat->Addr)->Hp->AH->Prop:=λb _ H' _=>Q b H'
def KA'(Z:HC)(Q:List V->Hp->Prop):List HV->(Nat->Addr)->Hp->AH->Prop:=λxs A' H' G'=>∀vs,qp Z.W (HM Z A' G'.length) A' G'.length H' xs vs->Q vs H'
def HE(X:Cx)(W:RC)(E:XK)(e:MR)(m:HME):Prop:=X.K=W.K->∃te,PE X e te/\∀(Z:HC),Z.W=W->∀A H σ ρ G,HR Z A H σ ρ G->∀Q,HPx Z E A G.length H (KV' Z Q) (m ρ G)->te σ H Q
def HT(X:Cx)(W:RC)(E:XK)(e:MR)(m:HMT):Prop:=X.K=W.K->∃te,PT X e te/\∀(Z:HC),Z.W=W->∀A H σ ρ G,HR Z A H σ ρ G->∀Q,HPx Z E A G.length H (KT' Q) (m ρ G)->te σ H Q
def HA(X:Cx)(W:RC)(E:XK)(es:MK)(m:HMA):Prop:=X.K=W.K->∃te,PA X es te/\∀(Z:HC),Z.W=W->∀A H σ ρ G,HR Z A H σ ρ G->∀Q,HPx Z E A G.length H (KA' Z Q) (m ρ G)->te σ H Q
mutual
def imm:PV->Bool
 |.i _=>true | .s _=>true | .b _=>true | .n=>true
 |.t xs=>cR xs
 |.l _=>false | .d _=>false | .o _ _=>false | .x _ _=>false | .sc _=>false | .dt _=>false
def cR:List PV->Bool
 |[]=>true
 |x::xs=>imm x&&cR xs
end
def CT:List (Str×PV)->Bool
 |[]=>true
 |x::xs=>imm x.2&&CT xs
section
variable {W:RC}{M M':MF}{A A':MN}{n n':Nat}{H H':Hp}
mutual
def Wq:∀{x:PV}{v:V},imm x=true->Rep W M H x v->Rep W M' H x v
 |.i _,_,_,h=>h
 |.s _,_,_,h=>h
 |.b _,_,_,h=>h
 |.n,_,_,h=>h
 |.t xs,_,e,h=>by unfold Rep at h ⊢;unfold imm at e;obtain⟨p,vs,e1,r,q⟩:=h;exact⟨p,vs,e1,r,Jd e q⟩
 |.l _,_,e,_=>by unfold imm at e;cases e
 |.d _,_,e,_=>by unfold imm at e;cases e
 |.o _ _,_,e,_=>by unfold imm at e;cases e
 |.x _ _,_,e,_=>by unfold imm at e;cases e
 |.sc _,_,e,_=>by unfold imm at e;cases e
 |.dt _,_,e,_=>by unfold imm at e;cases e
def Jd:∀{x:MX}{v:ML},cR x=true->zI W M H x v->zI W M' H x v
 |[],_,_,h=>h
 |x::xs,_,e,h=>by unfold cR at e;simp only[Bool.and_eq_true]at e;obtain⟨v,r,e1,h1,h2⟩:=h;exact⟨v,r,e1,Wq e.1 h1,Jd e.2 h2⟩
end
def YT:∀{x:MZ}{v:Nd},CT x=true->jq W M H x v->jq W M' H x v
 |[],_,_,h=>h
 |x::xs,_,e,h=>by unfold CT at e;simp only[Bool.and_eq_true]at e;obtain⟨v,r,e1,h1,h2⟩:=h;exact⟨v,r,e1,Wq e.1 h1,YT e.2 h2⟩
def Kf:List Bool->ZL->Option Sto
 |_,[]=>some []
 |[],_::ρ=>(Kf [] ρ).map (none::·)
 |false::bs,_::ρ=>(Kf bs ρ).map (none::·)
 |true::bs,some (.v x)::ρ=>(Kf bs ρ).map (some x::·)
 |true::_,_=>none
def u9(f:HV->Option PV):List HV->Option (List PV)
 |[]=>some []
 |x::xs=>(f x).bind λy=>(u9 f xs).map (y::·)
def bM{κ:Type}(f:HV->Option PV):List (κ×HV)->Option (List (κ×PV))
 |[]=>some []
 |x::xs=>(f x.2).bind λy=>(bM f xs).map ((x.1,y)::·)
def jN(G:AH):Nat->HV->Option PV
 |0,_=>none
 |_+1,.v x=>some x
 |n+1,.t xs=>(u9 (jN G n) xs).map .t
 |n+1,.g k=>match G[k]? with
  |some (.l xs)=>(u9 (jN G n) xs).map .l
  |some (.d kvs)=>(bM (jN G n) kvs).map .d
  |some (.z kvs)=>(bM (jN G n) kvs).map .d
  |some (.o c fs)=>(bM (jN G n) fs).map (.o c)
  |_=>none
def J7(G:AH):List Bool->ZL->Option Sto
 |_,[]=>some []
 |[],_::ρ=>(J7 G [] ρ).map (none::·)
 |false::bs,_::ρ=>(J7 G bs ρ).map (none::·)
 |true::bs,some x::ρ=>(jN G 8 x).bind λy=>(J7 G bs ρ).map (some y::·)
 |true::_,none::_=>none
def Je{f:HV->Option PV}{N:MF}(hf:∀x v y,jt W M A n H x v->f x=some y->Rep W N H y v):∀{xs:List HV}{vs:ML}{ys:MX},qp W M A n H xs vs->u9 f xs=some ys->zI W N H ys vs
 |[],_,_,h,e=>by cases e;exact h
 |x::xs,_,ys,h,e=>by obtain⟨v,r,rfl,h1,h2⟩:=h;unfold u9 at e;obtain⟨y,e1,e⟩:=O9.mp e;obtain⟨zs,e2,rfl⟩:=t0.mp e;exact⟨v,r,rfl,hf _ _ _ h1 e1,Je hf h2 e2⟩
def Jf{f:HV->Option PV}{N:MF}(hf:∀x v y,jt W M A n H x v->f x=some y->Rep W N H y v):∀{xs:List (Key×HV)}{vs:MM}{ys:MY},yO (jt W M A n H) xs vs->bM f xs=some ys->qy W N H ys vs
 |[],_,_,h,e=>by cases e;exact h
 |x::xs,_,ys,h,e=>by obtain⟨v,r,rfl,h1,h2⟩:=h;unfold bM at e;obtain⟨y,e1,e⟩:=O9.mp e;obtain⟨zs,e2,rfl⟩:=t0.mp e;exact⟨v,r,rfl,hf _ _ _ h1 e1,Jf hf h2 e2⟩
def aE{f:HV->Option PV}{N:MF}(hf:∀x v y,jt W M A n H x v->f x=some y->Rep W N H y v):∀{xs:List (Str×HV)}{vs:Nd}{ys:MZ},yO (jt W M A n H) xs vs->bM f xs=some ys->jq W N H ys vs
 |[],_,_,h,e=>by cases e;exact h
 |x::xs,_,ys,h,e=>by obtain⟨v,r,rfl,h1,h2⟩:=h;unfold bM at e;obtain⟨y,e1,e⟩:=O9.mp e;obtain⟨zs,e2,rfl⟩:=t0.mp e;exact⟨v,r,rfl,hf _ _ _ h1 e1,aE hf h2 e2⟩
end
section
variable {Z:HC}{A:MN}{H:Hp}{G:AH}{σ:St}{ρ:ZL}
def Kg(h:HH Z A H G):∀(n:Nat)(x:HV)(v:V)(y:PV),jt Z.W (HM Z A G.length) A G.length H x v->jN G n x=some y->Rep Z.W (λ_=>True) H y v
 |0,_,_,_,_,e=>by cases e
 |n+1,.v x,v,y,r,e=>by cases e;exact Rep.sub r λ_ _ _=>trivial
 |n+1,.t xs,v,y,r,e=>by unfold jN at e;obtain⟨ys,e1,rfl⟩:=t0.mp e;unfold jt at r;obtain⟨p,vs,rfl,s,q⟩:=r;exact⟨p,vs,rfl,s,Je (Kg h n) q e1⟩
 |n+1,.g k,v,y,r,e=>by
  obtain⟨hk,rfl⟩:=r;unfold jN at e;split at e
  .rename_i xs hc;obtain⟨ys,e1,rfl⟩:=t0.mp e;obtain⟨vs,h1,q⟩:=h.cell k _ hc;exact⟨A k,vs,rfl,trivial,h1,Je (Kg h n) q e1⟩
  .rename_i xs hc;obtain⟨ys,e1,rfl⟩:=t0.mp e;obtain⟨vs,h1,q⟩:=h.cell k _ hc;exact⟨A k,vs,rfl,trivial,.inl h1,Jf (Kg h n) q e1⟩
  .rename_i xs hc;obtain⟨ys,e1,rfl⟩:=t0.mp e;obtain⟨o,vs,h1,q⟩:=h.cell k _ hc;exact⟨A k,vs,rfl,trivial,.inr ⟨o,h1⟩,Jf (Kg h n) q e1⟩
  .rename_i c xs hc;obtain⟨ys,e1,rfl⟩:=t0.mp e;obtain⟨dx,vs,h1,q⟩:=h.cell k _ hc;exact⟨A k,dx,vs,rfl,trivial,h1,aE (Kg h n) q e1⟩
  .cases e
def Jg:∀{bs:MP}{ρ:ZL}{r:Sto}{i:Nat}{x:PV},Kf bs ρ=some r->r[i]?=some (some x)->ρ[i]?=some (some (.v x))
 |_,[],r,i,x,e,h=>by unfold Kf at e;cases e;simp at h
 |[],_::ρ,r,i,x,e,h=>by
  unfold Kf at e;obtain⟨r',e1,rfl⟩:=t0.mp e;cases i with
  |zero=>cases h
  |succ i=>rw[P6]at h ⊢;exact Jg e1 h
 |false::bs,_::ρ,r,i,x,e,h=>by
  unfold Kf at e;obtain⟨r',e1,rfl⟩:=t0.mp e;cases i with
  |zero=>cases h
  |succ i=>rw[P6]at h ⊢;exact Jg e1 h
 |true::bs,some (.v y)::ρ,r,i,x,e,h=>by
  unfold Kf at e;obtain⟨r',e1,rfl⟩:=t0.mp e;cases i with
  |zero=>cases h;rfl
  |succ i=>rw[P6]at h ⊢;exact Jg e1 h
 |true::bs,none::ρ,r,i,x,e,h=>by cases e
 |true::bs,some (.g _)::ρ,r,i,x,e,h=>by cases e
 |true::bs,some (.t _)::ρ,r,i,x,e,h=>by cases e
def Jh:∀{bs:MP}{ρ:ZL}{r:Sto},Kf bs ρ=some r->r.length=ρ.length
 |_,[],r,e=>by unfold Kf at e;cases e;rfl
 |[],_::ρ,r,e=>by unfold Kf at e;obtain⟨r',e1,rfl⟩:=t0.mp e;rw[v4,v4,Jh e1]
 |false::bs,_::ρ,r,e=>by unfold Kf at e;obtain⟨r',e1,rfl⟩:=t0.mp e;rw[v4,v4,Jh e1]
 |true::bs,some (.v y)::ρ,r,e=>by unfold Kf at e;obtain⟨r',e1,rfl⟩:=t0.mp e;rw[v4,v4,Jh e1]
 |true::bs,none::ρ,r,e=>by cases e
 |true::bs,some (.g _)::ρ,r,e=>by cases e
 |true::bs,some (.t _)::ρ,r,e=>by cases e
def VL:∀{bs:MP}{ρ:ZL}{r:Sto}{i:Nat}{x:PV},J7 G bs ρ=some r->r[i]?=some (some x)->∃y,ρ[i]?=some (some y)/\jN G 8 y=some x
 |_,[],r,i,x,e,h=>by unfold J7 at e;cases e;simp at h
 |[],_::ρ,r,i,x,e,h=>by
  unfold J7 at e;obtain⟨r',e1,rfl⟩:=t0.mp e;cases i with
  |zero=>cases h
  |succ i=>rw[P6]at h ⊢;exact VL e1 h
 |false::bs,_::ρ,r,i,x,e,h=>by
  unfold J7 at e;obtain⟨r',e1,rfl⟩:=t0.mp e;cases i with
  |zero=>cases h
  |succ i=>rw[P6]at h ⊢;exact VL e1 h
 |true::bs,some y::ρ,r,i,x,e,h=>by
  unfold J7 at e;obtain⟨z,e0,e⟩:=O9.mp e;obtain⟨r',e1,rfl⟩:=t0.mp e;cases i with
  |zero=>cases h;exact⟨y,rfl,e0⟩
  |succ i=>rw[P6]at h ⊢;exact VL e1 h
 |true::bs,none::ρ,r,i,x,e,h=>by cases e
def VM:∀{bs:MP}{ρ:ZL}{r:Sto},J7 G bs ρ=some r->r.length=ρ.length
 |_,[],r,e=>by unfold J7 at e;cases e;rfl
 |[],_::ρ,r,e=>by unfold J7 at e;obtain⟨r',e1,rfl⟩:=t0.mp e;rw[v4,v4,VM e1]
 |false::bs,_::ρ,r,e=>by unfold J7 at e;obtain⟨r',e1,rfl⟩:=t0.mp e;rw[v4,v4,VM e1]
 |true::bs,some y::ρ,r,e=>by unfold J7 at e;obtain⟨z,e0,e⟩:=O9.mp e;obtain⟨r',e1,rfl⟩:=t0.mp e;rw[v4,v4,VM e1]
 |true::bs,none::ρ,r,e=>by cases e
def FG{S:MB}(hS:S.all (·==0)=true){i c:Nat}(h:S[i]?=some c):c=0:=by have:=a0D.mp hS c (a0y h);simpa using this
def FH(hl:σ.length=r.length)(hS:S.all (·==0)=true)(hv:∀(i:Nat) x,r[i]?=some (some x)->∃v,σ[i]?=some (some v)/\Rep Z.W M H x v):Rel Z.W (pB H M) S (λ_=>0) H σ r:=by
 have n2:∀{k:Nat},S[k]?=some 2->False:=λ{k} h=>by have:=FG hS h;omega
 have n1:∀{k:Nat},S[k]?=some 1->False:=λ{k} h=>by have:=FG hS h;omega
 refine⟨zl.refl _,hl,λi x e=>?_,λi hi=>(n2 hi).elim,λi j hi=>(n2 hi).elim,λhi=>(n2 hi).elim,λa h=>h.elim,λi hi=>(n2 hi).elim⟩;obtain⟨v,h1,h2⟩:=hv i x e;exact⟨v,h1,λz=>(n2 z).elim,λz=>(n1 z).elim,λ_ _=>h2.sub λa m _=>⟨⟨.inl m,id⟩,λi hi=>(n2 hi).elim⟩⟩
def mF(R:HR Z A H σ ρ G)(e:Kf bs ρ=some r)(hS:S.all (·==0)=true):Rel Z.W (pB H (HM Z A G.length)) S (λ_=>0) H σ r:=
 FH (R.len.trans (Jh e).symm) hS λi x h=>R.var i _ (Jg e h)
def u_(R:HR Z A H σ ρ G)(e:J7 G bs ρ=some r)(hS:S.all (·==0)=true):Rel Z.W (pB H λ_=>True) S (λ_=>0) H σ r:=
 FH (R.len.trans (VM e).symm) hS λi x h=>by obtain⟨y,h1,h2⟩:=VL e h;obtain⟨v,h3,h4⟩:=R.var i y h1;exact⟨v,h3,Kg R.toHH _ _ _ _ h4 h2⟩
def xa(h:HH Z A H G):∀a,Mof (pB H (HM Z A G.length)) S P a->HM Z A G.length a:=λa m=>m.1.1.elim id λn=>h.new a n
end
def hP(bs:MP)(m:ME):HME:=λρ G=>match Kf bs ρ with
 |some r=>match m r with
  |.ok x=>.ok (.v x) G
  |.exc c fs=>.exc c fs G
  |.wall=>.wall
 |none=>match J7 G bs ρ with
  |some r=>match m r with
   |.ok x=>if imm x=true then .ok (.v x) G else .wall
   |.exc c fs=>if CT fs=true then .exc c fs G else .wall
   |.wall=>.wall
  |none=>.wall
def hPT(bs:MP)(m:MT):HMT:=λρ G=>match Kf bs ρ with
 |some r=>match m r with
  |.ok x=>.ok x G
  |.exc c fs=>.exc c fs G
  |.wall=>.wall
 |none=>match J7 G bs ρ with
  |some r=>match m r with
   |.ok x=>.ok x G
   |.exc c fs=>if CT fs=true then .exc c fs G else .wall
   |.wall=>.wall
  |none=>.wall
def vK{κ:Type}(xs:List (κ×PV)):List (κ×HV):=xs.map λp=>(p.1,.v p.2)
def xb:PV->Option Cell
 |.l xs=>some (.l (xs.map .v))
 |.d kvs=>some (.d (vK kvs))
 |.o c fs=>some (.o c (vK fs))
 |_=>none
def Ln:PV->Bool
 |.l xs=>cR xs
 |.d kvs=>cR (kvs.map (·.2))
 |.o _ fs=>CT fs
 |_=>false
def hF(bs:MP)(m:ME):HME:=λρ G=>match Kf bs ρ with
 |some r=>match m r with
  |.ok x=>match xb x with
   |some c=>.ok (.g G.length) (G++[c])
   |none=>.wall
  |.exc c fs=>.exc c fs G
  |.wall=>.wall
 |none=>match J7 G bs ρ with
  |some r=>match m r with
   |.ok x=>if Ln x=true then match xb x with
    |some c=>.ok (.g G.length) (G++[c])
    |none=>.wall else .wall
   |.exc c fs=>if CT fs=true then .exc c fs G else .wall
   |.wall=>.wall
  |none=>.wall
section
variable {W:RC}{M M':MF}{A:MN}{n:Nat}{H:Hp}
def FI:∀{xs:MX}{vs:ML},zI W M H xs vs->qp W M A n H (xs.map .v) vs
 |[],_,h=>h
 |_::_,_,⟨v,r,e,h1,h2⟩=>⟨v,r,e,h1,FI h2⟩
def FJ:∀{xs:MY}{vs:MM},qy W M H xs vs->yO (jt W M A n H) (vK xs) vs
 |[],_,h=>h
 |_::_,_,⟨v,r,e,h1,h2⟩=>⟨v,r,e,h1,FJ h2⟩
def FK:∀{xs:MZ}{vs:Nd},jq W M H xs vs->yO (jt W M A n H) (vK xs) vs
 |[],_,h=>h
 |_::_,_,⟨v,r,e,h1,h2⟩=>⟨v,r,e,h1,FK h2⟩
def h_:∀{x:MY}{v:MM},cR (x.map (·.2))=true->qy W M H x v->qy W M' H x v
 |[],_,_,h=>h
 |x::xs,_,e,h=>by rw[N5]at e;unfold cR at e;simp only[Bool.and_eq_true]at e;obtain⟨v,r,e1,h1,h2⟩:=h;exact⟨v,r,e1,Wq e.1 h1,h_ e.2 h2⟩
def FL(hx:ae W M H p x)(e:xb x=some c):Uy W M A n H p c:=by
 cases x with
 |l xs=>cases e;obtain⟨vs,h,r⟩:=hx;exact⟨vs,h,FI r⟩
 |d xs=>cases e;obtain⟨vs,h,r⟩:=hx;exact⟨vs,h,FJ r⟩
 |o k xs=>cases e;obtain⟨dx,vs,h,r⟩:=hx;exact⟨dx,vs,h,FK r⟩
 |_=>cases e
def xf(e:Ln x=true)(hx:ae W M H p x):ae W M' H p x:=by
 cases x with
 |l xs=>obtain⟨vs,h,r⟩:=hx;exact⟨vs,h,Jd e r⟩
 |d xs=>obtain⟨vs,h,r⟩:=hx;exact⟨vs,h,h_ e r⟩
 |o k xs=>obtain⟨dx,vs,h,r⟩:=hx;exact⟨dx,vs,h,YT e r⟩
 |_=>cases e
end
section
variable {X:Cx}{W:RC}{E:XK}{fr:Bool}{S:MB}{e a b:MR}{es:MK}{m:ME}{t:MT}{bs:MP}{pos p:Pos}{i:Nat}{m1 m2:HME}{ms:HMA}{t1 t2:HMT}
def aF(h:HH Z A H G)(q:Bc Z E A G.length H c fs G)(hM:∀H2 es,jq Z.W (λa=>M a\/H a=none) H2 fs es->jq Z.W (HM Z A G.length) H2 fs es):XPo ⟨Z.W,E,fr⟩ (pB H M) c fs:=
 λe dx es H2 s h1 h2 h3=>q A H2 e dx es (h.keep s) (Gro.same s) h1 h2 (hM H2 es h3)
def Mj(bs:MP)(h:EM X ⟨W,E,fr⟩ S false e m)(hS:S.all (·==0)=true:=by rfl):HE X W E e (hP bs m):=λhK=>by
 obtain⟨te,a1,a2⟩:=h hK;refine⟨te,a1,λZ hZ A H σ ρ G R Q q=>?_⟩;subst hZ;unfold hP at q;split at q
 .rename_i r hr;refine a2 _ _ H σ r (mF R hr hS) Q ?_;revert q;cases m r with
  |ok x=>exact λq v H2 s rx=>q A H2 (R.toHH.keep s) (Gro.same s) v (rx.rep.sub λa m _=>xa R.toHH a m)
  |exc c fs=>exact λq=>aF R.toHH q λH2 es h=>h.sub λa m _=>m.elim id λn=>R.toHH.new a n
  |wall=>exact id
 .split at q
  .rename_i r hr;refine a2 _ _ H σ r (u_ R hr hS) Q ?_;revert q;cases m r with
   |ok x=>
    intro q v H2 s rx;dsimp only at q;split at q
    .rename_i hi;exact q A H2 (R.toHH.keep s) (Gro.same s) v (Wq hi rx.rep)
    .exact q.elim
   |exc c fs=>
    intro q;dsimp only at q;split at q
    .rename_i hi;exact aF R.toHH q λH2 es h=>YT hi h
    .exact q.elim
   |wall=>exact id
  .exact q.elim
def CU(bs:MP)(h:TM X ⟨W,E,fr⟩ S e t)(hS:S.all (·==0)=true:=by rfl):HT X W E e (hPT bs t):=λhK=>by
 obtain⟨te,a1,a2⟩:=h hK;refine⟨te,a1,λZ hZ A H σ ρ G R Q q=>?_⟩;subst hZ;unfold hPT at q;split at q
 .rename_i r hr;refine a2 _ _ H σ r (mF R hr hS) Q ?_;revert q;cases t r with
  |ok x=>exact λq H2 s=>q A H2 (R.toHH.keep s) (Gro.same s)
  |exc c fs=>exact λq=>aF R.toHH q λH2 es h=>h.sub λa m _=>m.elim id λn=>R.toHH.new a n
  |wall=>exact id
 .split at q
  .rename_i r hr;refine a2 _ _ H σ r (u_ R hr hS) Q ?_;revert q;cases t r with
   |ok x=>exact λq H2 s=>q A H2 (R.toHH.keep s) (Gro.same s)
   |exc c fs=>
    intro q;dsimp only at q;split at q
    .rename_i hi;exact aF R.toHH q λH2 es h=>YT hi h
    .exact q.elim
   |wall=>exact id
  .exact q.elim
def pT{Z:HC}{A:MN}{H H2:Hp}{G:AH}{c:Cell}{p:Addr}{Q:VK}(h:HH Z A H G)(s:zl H H2)(hp:H p=none)(hc:Uy Z.W (HM Z (exA A G.length p) (G.length+1)) (exA A G.length p) (G.length+1) H2 p c)(q:HPx Z E A G.length H (KV' Z Q) (.ok (.g G.length) (G++[c]))):Q (.ref p) H2:=by
 have hl:(G++[c]).length=G.length+1:=by simp
 refine q _ H2 (h.alloc s hp hc) (by rw[hl];exact Gro.ext s hp) _ ⟨by rw[hl];exact a0r _,?_⟩;rw[Jb]
def FN{Z:HC}{A:MN}{n:Nat}{p a:Addr}(m:HM Z A n a)(h:a≠p):HM Z (exA A n p) (n+1) a:=⟨m.1,λk hk e=>by
 by_cases c:k=n
 .rw[c,Jb]at e;exact h e.symm
 .rw[Jc (by omega)]at e;exact m.2 k (by omega) e⟩
def Ml(bs:MP)(a2:LFr ⟨W,E,fr⟩ S te m)(hS:S.all (·==0)=true:=by rfl):∀(Z:HC),Z.W=W->∀A H σ ρ G,HR Z A H σ ρ G->∀Q,HPx Z E A G.length H (KV' Z Q) (hF bs m ρ G)->te σ H Q:=λZ hZ A H σ ρ G R Q q=>by
 subst hZ;unfold hF at q;split at q
 .rename_i r hr;refine a2 _ _ H σ r (mF R hr hS) Q ?_;revert q;cases m r with
  |ok x=>
   intro q v H2 s rx;dsimp only at q;split at q
   .rename_i c hc;obtain⟨p,rfl,hp,ra⟩:=rx;exact pT R.toHH s hp (FL (ra.gen rfl Fr.refl λa m _=>FN (xa R.toHH a m.1) m.2) hc) q
   .exact q.elim
  |exc c fs=>exact λq=>aF R.toHH q λH2 es h=>h.sub λa m _=>m.elim id λn=>R.toHH.new a n
  |wall=>exact id
 .split at q
  .rename_i r hr;refine a2 _ _ H σ r (u_ R hr hS) Q ?_;revert q;cases m r with
   |ok x=>
    intro q v H2 s rx;dsimp only at q;split at q
    .rename_i hi;split at q
     .rename_i c hc;obtain⟨p,rfl,hp,ra⟩:=rx;exact pT R.toHH s hp (FL (xf hi ra) hc) q
     .exact q.elim
    .exact q.elim
   |exc c fs=>
    intro q;dsimp only at q;split at q
    .rename_i hi;exact aF R.toHH q λH2 es h=>YT hi h
    .exact q.elim
   |wall=>exact id
  .exact q.elim
def Mm(bs:MP)(h:FM X ⟨W,E,fr⟩ S e m)(hS:S.all (·==0)=true:=by rfl):HE X W E e (hF bs m):=λhK=>by obtain⟨te,a1,a2⟩:=h hK;exact⟨te,a1,Ml bs a2 hS⟩
def Y5(i:Nat):HME:=λρ G=>match ρ[i]? with
 |some (some x)=>.ok x G
 |_=>.wall
def j9(h:PE X e (eC i)):HE X W E e (Y5 i):=λ_=>⟨_,h,λZ hZ A H σ ρ G R Q q=>by
 unfold Y5 at q;split at q
 .rename_i x hx;obtain⟨v,h1,h2⟩:=R.var i x hx;exact⟨v,h1,q A H R.toHH Gro.refl v h2⟩
 .exact q.elim⟩
def Bd:HMA:=λ_ G=>.ok [] G
def Wr(m:HME)(ms:HMA):HMA:=λρ G=>(m ρ G).bind λx G1=>(ms ρ G1).bind λxs G2=>.ok (x::xs) G2
def ia:HA X W E [] Bd:=λ_=>⟨_,V0,λZ hZ A H σ ρ G R Q q=>q A H R.toHH Gro.refl [] rfl⟩
def Kh(h:HE X W E e m1)(hr:HA X W E es ms)(hs:starEach (e::es) X.env=(false,eval e X.env)::starEach es X.env:=by rfl):HA X W E (e::es) (Wr m1 ms):=λhK=>by obtain⟨te,a1,a2⟩:=h hK;obtain⟨ta,b1,b2⟩:=hr hK;refine⟨_,wK a1 b1 hs,λZ hZ A H σ ρ G R Q q=>a2 Z hZ A H σ ρ G R _ (HPx.bind q λx A1 H1 G1 h1 g1 q1 v rx=>?_)⟩;refine b2 Z hZ A1 H1 σ ρ G1 (R.gro h1 g1) _ (HPx.bind q1 λxs A2 H2 G2 h2 g2 q2 vs rs=>?_);exact q2 A2 H2 h2 Gro.refl (v::vs) ⟨v,vs,rfl,rx.gro g2,rs⟩
def qp.len{W:RC}{M:MF}{A:MN}{n:Nat}{H:Hp}:∀{xs:List HV}{vs:ML},qp W M A n H xs vs->vs.length=xs.length
 |[],_,h=>by cases(show _=_ from h);rfl
 |x::xs,_,h=>by obtain⟨v,r,rfl,_,h2⟩:=h;rw[v4,v4,qp.len h2]
def CV:List HV->Option (List PV)
 |[]=>some []
 |.v x::xs=>(CV xs).map (x::·)
 |_::_=>none
def aG{W:RC}{M:MF}{A:MN}{n:Nat}{H:Hp}:∀{xs:List HV}{ys:MX}{vs:ML},CV xs=some ys->qp W M A n H xs vs->zI W M H ys vs
 |[],_,_,e,h=>by cases e;exact h
 |.v x::xs,ys,_,e,h=>by unfold CV at e;obtain⟨zs,e1,rfl⟩:=t0.mp e;obtain⟨v,r,rfl,h1,h2⟩:=h;exact⟨v,r,rfl,h1,aG e1 h2⟩
 |.g _::_,_,_,e,_=>by cases e
 |.t _::_,_,_,e,_=>by cases e
variable {rest:MK}
end
section
variable {W:RC}{M:MF}{A:MN}{n:Nat}{H:Hp}
def qp.get:∀{xs:List HV}{vs:ML}{i:Nat}{x:HV},qp W M A n H xs vs->xs[i]?=some x->∃v,vs[i]?=some v/\jt W M A n H x v
 |[],_,_,_,_,e=>by simp at e
 |x::xs,_,0,y,h,e=>by obtain⟨v,r,rfl,h1,h2⟩:=h;simp at e;subst e;exact⟨v,rfl,h1⟩
 |x::xs,_,i+1,y,h,e=>by obtain⟨v,r,rfl,h1,h2⟩:=h;simp only[List.getElem?_cons_succ]at e ⊢;exact qp.get h2 e
def qp.at(h:qp W M A n H xs vs)(e:atI xs i=some x):∃v,atI vs i=some v/\jt W M A n H x v:=by
 unfold atI at e ⊢;rw[h.len];cases q:ixN xs.length i with
 |none=>rw[q]at e;cases e
 |some j=>rw[q]at e;exact h.get e
variable {κ:Type}[DecidableEq κ] {R:HV->V->Prop}
def yO.len:∀{kvs:List (κ×HV)}{es:List (κ×V)},yO R kvs es->es.length=kvs.length
 |[],_,h=>by cases(show _=_ from h);rfl
 |_::_,_,⟨v,q,e,h1,h2⟩=>by subst e;rw[v4,v4,yO.len h2]
def yO.keys:∀{kvs:List (κ×HV)}{es:List (κ×V)},yO R kvs es->es.map (·.1)=kvs.map (·.1)
 |[],_,h=>by cases(show _=_ from h);rfl
 |_::_,_,⟨v,q,e,h1,h2⟩=>by subst e;rw[N5,N5,yO.keys h2]
def yO.get:∀{kvs:List (κ×HV)}{es:List (κ×V)}{k:κ}{x:HV},yO R kvs es->zK kvs k=some x->∃v,KA es k=some v/\R x v
 |[],_,_,_,_,e=>by cases e
 |kx::r,_,k,x,h,e=>by
  obtain⟨v,q,rfl,h1,h2⟩:=h;unfold zK at e;rw[a03]at e;by_cases c:kx.1=k
  .rw[O0 c]at e;cases e;exact⟨v,VH c,h1⟩
  .rw[N8 c]at e;obtain⟨u,hu,ru⟩:=yO.get h2 e;exact⟨u,by rw[VI c];exact hu,ru⟩
def yO.lookup:∀{kvs:List (Str×HV)}{es:Nd}{f:Str}{x:HV},yO R kvs es->kvs.lookup f=some x->∃v,es.lookup f=some v/\R x v
 |[],_,_,_,_,e=>by cases e
 |kx::r,_,f,x,h,e=>by
  obtain⟨v,q,rfl,h1,h2⟩:=h;rw[S5]at e ⊢;cases c:(f==kx.1)with
  |true=>rw[c]at e;cases e;exact⟨v,rfl,h1⟩
  |false=>rw[c]at e;exact yO.lookup h2 e
def yO.put{k:κ}{a:List (κ×HV)}{es:List (κ×V)}(h:yO R a es)(hx:R x v):yO R (dput a k x) (putK es k v):=by
 have key:∀{a:List (κ×HV)}{es:List (κ×V)},yO R a es->a.any (λkv=>decide (kv.1=k))=es.any (λkv=>decide (kv.1=k))/\yO R (a.map λkv=>if kv.1=k then(kv.1,x)else kv) (es.map λkv=>if kv.1=k then(kv.1,v)else kv)/\yO R (a++[(k,x)]) (es++[(k,v)]):=by
  intro a
  induction a with
  |nil=>intro es h;cases(show _=_ from h);exact⟨rfl,rfl,v,[],rfl,hx,rfl⟩
  |cons kx a ih=>
   intro es h;obtain⟨u,q,rfl,h1,h2⟩:=h;obtain⟨i1,i2,i3⟩:=ih h2;refine⟨by rw[a0i,a0i,i1],?_,⟨u,_,rfl,h1,i3⟩⟩;rw[N5,N5];by_cases e:kx.1=k
   .rw[if_pos e,if_pos e];exact⟨v,_,rfl,hx,i2⟩
   .rw[if_neg e,if_neg e];exact⟨u,_,rfl,h1,i2⟩
 obtain⟨i1,i2,i3⟩:=key h;unfold dput putK;rw[i1];split
 .exact i2
 .exact i3
end
def ixH(G:AH):HV->HV->Option HV
 |.g k,.v y=>match G[k]? with
  |some (.l xs)=>match y with
   |.i j=>atI xs j
   |_=>none
  |some (.d kvs)=>(pk y).bind λq=>zK kvs q
  |some (.z kvs)=>(pk y).bind λq=>zK kvs q
  |_=>none
 |.t xs,.v (.i j)=>atI xs j
 |.v x,.v y=>match pIx x y with
  |.ok z=>some (.v z)
  |_=>none
 |_,_=>none
def hIx(m1 m2:HME):HME:=λρ G=>(m1 ρ G).bind λx G1=>(m2 ρ G1).bind λy G2=>match ixH G2 x y with
 |some z=>.ok z G2
 |none=>.wall
def FO(cs:MB)(f:Str)(m:HME):HME:=λρ G=>(m ρ G).bind λx G1=>match x with
 |.g k=>match G1[k]? with
  |some (.o c fs)=>if c∈cs then match fs.lookup f with
   |some z=>.ok z G1
   |none=>.wall else .wall
  |_=>.wall
 |_=>.wall
def fi(f:List HV->AH->HX HV)(ms:HMA):HME:=λρ G=>(ms ρ G).bind λxs G1=>f xs G1
def hsp(W:RC)(n:Nat)(f:List HV->AH->HX HV):Sp:=λvs H Q E=>∃(Z:HC)(A:MN)(G:AH)(xs:List HV),Z.W=W/\xs.length=n/\HH Z A H G/\qp Z.W (HM Z A G.length) A G.length H xs vs/\HPx Z E A G.length H (KV' Z Q) (f xs G)
def pW:∀vs H Q E,hsp W n f vs H Q E->vs.length=n:=λvs H Q E ⟨Z,A,G,xs,_,hl,_,r,_⟩=>r.len.trans hl
def Iv(h:HH Z A H G)(rx:jt Z.W (HM Z A G.length) A G.length H x v)(ry:jt Z.W (HM Z A G.length) A G.length H y u)(e:ixH G x y=some z)(q:∀H2 v,zl H H2->jt Z.W (HM Z A G.length) A G.length H2 z v->Q v H2):Lk Z.W.K v u H Q:=by
 unfold ixH at e;split at e
 .rename_i k y;obtain⟨hk,rfl⟩:=rx;split at e
  .rename_i xs hc;obtain⟨vs,hp,r⟩:=h.cell k _ hc;split at e
   .obtain⟨w,hw,rw'⟩:=r.at e;exact .inl (.inl ⟨_,vs,_,w,rfl,ry,SqL.of hp,hw,q H w (zl.refl _) rw'⟩)
   .cases e
  .rename_i kvs hc;obtain⟨vs,hp,r⟩:=h.cell k _ hc;obtain⟨j,hj,e⟩:=O9.mp e;obtain⟨w,hw,rw'⟩:=r.get e;exact .inr ⟨_,w,rfl,by rw[Wd (yG.iff.mpr (show Rep Z.W _ H y u from ry)) hj,<- hw];exact d8.rk (.inl hp),q H w (zl.refl _) rw'⟩
  .rename_i kvs hc;obtain⟨o,vs,hp,r⟩:=h.cell k _ hc;obtain⟨j,hj,e⟩:=O9.mp e;obtain⟨w,hw,rw'⟩:=r.get e;exact .inr ⟨_,w,rfl,by rw[Wd (yG.iff.mpr (show Rep Z.W _ H y u from ry)) hj,<- hw];exact d8.rk (.inr ⟨o,hp⟩),q H w (zl.refl _) rw'⟩
  .cases e
 .obtain⟨p,vs,rfl,hl,r⟩:=rx;obtain⟨w,hw,rw'⟩:=r.at e;exact .inl (.inr (.inl ⟨p,vs,_,w,rfl,ry,hl,hw,q H w (zl.refl _) rw'⟩))
 .split at e
  .rename_i z' hz;cases e;refine E_ (W:=Z.W) (HM Z A G.length) ⟨Z.W,E0,false⟩ (pB H λ_=>True) H _ _ v u Q h.new (Rep.weak rx) (Rep.weak ry) ?_;rw[hz];exact λw H2 s r=>q H2 w s r
  .cases e
 .cases e
def Iw(hu:X.A.units+1<cLine)(h1:HE X W E a m1)(h2:HE X W E b m2)(hs:V3 b:=by intro _ _;rfl):HE X W E (.Subscript a b pos) (hIx m1 m2):=λhK=>by
 obtain⟨ta,a1,a2⟩:=h1 hK;obtain⟨tb,b1,b2⟩:=h2 hK;refine⟨_,BW (Ax.or (eZ hu)) a1 b1 hs,λZ hZ A H σ ρ G R Q q=>a2 Z hZ A H σ ρ G R _ (HPx.bind q λx A1 H1 G1 h1 g1 q1 v rx=>?_)⟩;refine b2 Z hZ A1 H1 σ ρ G1 (R.gro h1 g1) _ (HPx.bind q1 λy A2 H2 G2 h2 g2 q2 u ry=>?_);split at q2
 .rename_i z hz;rw[hK,<- hZ];exact Iv h2 (rx.gro g2) ry hz λH3 w s r=>q2 A2 H3 (h2.keep s) (Gro.same s) w r
 .exact q2.elim
def FP(h:HE X W E e m1)(hc:∀c∈cs,Cls X.K (W.cls c)/\j8 X.K (W.cls c) fn)(hb:attributeBase e fn X.env (eval e X.env)=eval e X.env:=by rfl):HE X W E (.Attribute e fn pos) (FO cs fn m1):=λhK=>by
 obtain⟨te,a1,a2⟩:=h hK;refine⟨_,Au a1 hb,λZ hZ A H σ ρ G R Q q=>a2 Z hZ A H σ ρ G R _ (HPx.bind q λx A1 H1 G1 h1 g1 q1 v rx=>?_)⟩;subst hZ;split at q1
 .rename_i k;obtain⟨hk,rfl⟩:=rx;split at q1
  .rename_i c fs hG;obtain⟨dx,vs,hp,r⟩:=h1.cell k _ hG;split at q1
   .rename_i hcs;split at q1
    .rename_i z hz;obtain⟨w,hw,rw'⟩:=r.lookup hz;exact⟨_,_,dx,vs,w,rfl,hp,(hc c hcs).1,(hc c hcs).2,hw,q1 A1 H1 h1 Gro.refl w rw'⟩
    .exact q1.elim
   .exact q1.elim
  .exact q1.elim
 .exact q1.elim
def fj(F:y8 X.prog X.w X.K X.mg X.base (CXe X.prog X.w) k f fd ps (hsp W n g))(hr:qQ k X.A)(hg:Gl X x)(hm:X.mg x=some (.ref f))(hk:keepIn X.K (.ref f)=true)(hb:Binds X.K fd ps [])(hx:Passes (CXe X.prog X.w) X E)(ha:HA X W E (e::es) ms)(hn:∀ρ G xs G',ms ρ G=.ok xs G'->xs.length=n)
  (hdb:(x==("__debug__":Str))=false:=by decide) (he:starEach (e::es) X.env=(false,eval e X.env)::starEach es X.env:=by rfl) (hpl:(backTo pos (starEach es X.env)).any (·.1)=false:=by rfl):HE X W E (.Call (.Name x p) (e::es) [] pos) (fi g ms):=λhK=>by
 obtain⟨ta,a1,a2⟩:=ha hK;refine⟨_,eF F hr hg hm hk hb .nil hx a1 hdb he hpl,λZ hZ A H σ ρ G R Q q=>a2 Z hZ A H σ ρ G R _ ?_⟩;unfold fi at q;revert q;cases hq:ms ρ G with
 |wall=>exact id
 |exc c fs G'=>exact id
 |ok xs G'=>intro q A1 H1 h1 g1 vs rs;rw[P4];exact⟨Z,A1,G',xs,hZ,hn _ _ _ _ hq,h1,rs,HPx.gro (o:=g xs G') q g1⟩
def pX:∀ρ G xs G',Bd ρ G=.ok xs G'->xs.length=0:=λρ G xs G' e=>by cases e;rfl
def Ws(h:∀ρ G xs G',ms ρ G=.ok xs G'->xs.length=n):∀ρ G xs G',Wr m ms ρ G=.ok xs G'->xs.length=n+1:=λρ G xs G' e=>by
 unfold Wr at e;cases h1:m ρ G with
 |wall=>rw[h1]at e;cases e
 |exc c fs G1=>rw[h1]at e;cases e
 |ok x G1=>
  rw[h1]at e;have e:(ms ρ G1).bind (λxs G2=>.ok (x::xs) G2)=.ok xs G':=e;cases h2:ms ρ G1 with
  |wall=>rw[h2]at e;cases e
  |exc c fs G1=>rw[h2]at e;cases e
  |ok ys G2=>rw[h2]at e;cases e;rw[v4,h _ _ _ _ h2]
inductive HFw where
 |nx (ρ:ZL) (G:AH)|rt (x:HV) (G:AH)|bk (ρ:ZL) (G:AH)|ct (ρ:ZL) (G:AH)|exc (c:Nat) (fs:MZ) (G:AH)|wall
abbrev HMS:=ZL->AH->HFw
def HPs(Z:HC)(E:XK)(A:MN)(n:Nat)(H:Hp)(D:Ends):HFw->Prop
 |.nx ρ' G'=>∀A' H' σ',HR Z A' H' σ' ρ' G'->Gro Z A n H A' G'.length H'->D.nx σ' H'
 |.rt x G'=>∀A' H' v,HH Z A' H' G'->Gro Z A n H A' G'.length H'->jt Z.W (HM Z A' G'.length) A' G'.length H' x v->D.rt v H'
 |.bk ρ' G'=>∀A' H' σ',HR Z A' H' σ' ρ' G'->Gro Z A n H A' G'.length H'->D.bk σ' H'
 |.ct ρ' G'=>∀A' H' σ',HR Z A' H' σ' ρ' G'->Gro Z A n H A' G'.length H'->D.ct σ' H'
 |.exc c fs G'=>Bc Z E A n H c fs G'
 |.wall=>False
def HX.fw{α:Type}:HX α->(α->AH->HFw)->HFw
 |.ok a G,f=>f a G
 |.exc c fs G,_=>.exc c fs G
 |.wall,_=>.wall
def LHS(W:RC)(E:XK)(ts:TS)(m:HMS):Prop:=∀(Z:HC),Z.W=W->∀A H σ ρ G,HR Z A H σ ρ G->∀D,HPs Z E A G.length H D (m ρ G)->ts D σ H
def HS(X:Cx)(W:RC)(E:XK)(st:Nq)(m:HMS):Prop:=X.K=W.K->∃ts,PS X st ts/\LHS W E ts m
def HSs(X:Cx)(W:RC)(E:XK)(st:Nk)(m:HMS):Prop:=X.K=W.K->∃ts,PSs X st ts/\LHS W E ts m
section
variable {α:Type}{K':α->(Nat->Addr)->Hp->AH->Prop}
def HPs.gro(h:HPs Z E A n H D o)(g:Gro Z A n H A' n' H'):HPs Z E A' n' H' D o:=by
 cases o with
 |nx ρ G=>exact λA2 H2 σ2 r g2=>h A2 H2 σ2 r (g.trans g2)
 |rt x G=>exact λA2 H2 v r g2=>h A2 H2 v r (g.trans g2)
 |bk ρ G=>exact λA2 H2 σ2 r g2=>h A2 H2 σ2 r (g.trans g2)
 |ct ρ G=>exact λA2 H2 σ2 r g2=>h A2 H2 σ2 r (g.trans g2)
 |exc c fs G=>exact Bc.gro h g
 |wall=>exact h
def HPs.bind{o:HX α}{f:α->AH->HFw}(h:HPs Z E A n H D (o.fw f))(k:∀x A' H' G',HH Z A' H' G'->Gro Z A n H A' G'.length H'->HPs Z E A' G'.length H' D (f x G')->K' x A' H' G'):HPx Z E A n H K' o:=by
 cases o with
 |ok x G'=>exact λA2 H2 h2 g2=>k x A2 H2 G' h2 g2 (HPs.gro (o:=f x G') h g2)
 |exc c fs G'=>exact h
 |wall=>exact h
end
def Wt:HMS:=λρ G=>.nx ρ G
def ZN(a b:HMS):HMS:=λρ G=>match a ρ G with
 |.nx ρ' G'=>b ρ' G'
 |.rt x G'=>.rt x G'
 |.bk ρ' G'=>.bk ρ' G'
 |.ct ρ' G'=>.ct ρ' G'
 |.exc c fs G'=>.exc c fs G'
 |.wall=>.wall
def KN(i:Nat)(m:HME):HMS:=λρ G=>(m ρ G).fw λx G1=>.nx (ρ.set i (some x)) G1
def mG(m:HME):HMS:=λρ G=>(m ρ G).fw λ_ G1=>.nx ρ G1
def ib(m:HME):HMS:=λρ G=>(m ρ G).fw λx G1=>.rt x G1
def hIf(t:HMT)(a b:HMS):HMS:=λρ G=>(t ρ G).fw λc G1=>if c=true then a ρ G1 else b ρ G1
section
variable {X:Cx}{W:RC}{E:XK}{e a b o:MR}{es:MK}{pos p pos' jo:Pos}{m m1 m2:HME}{ms:HMA}{t1:HMT}{s1 s2:HMS}{x:Str}{st:Nq}{sts stt:Nk}{i:Nat}
def QQ:HSs X W E [] Wt:=λ_=>⟨_,nG,λZ hZ A H σ ρ G R D q=>q A H σ R Gro.refl⟩
def FQ(h1:LHS W E t s1)(h2:LHS W E u s2):LHS W E (Hn t u) (ZN s1 s2):=λZ hZ A H σ ρ G R D q=>by
 refine h1 Z hZ A H σ ρ G R _ ?_;unfold ZN at q;revert q;cases s1 ρ G with
 |nx ρ' G'=>exact λq A' H' σ' R' g=>h2 Z hZ A' H' σ' ρ' G' R' D (HPs.gro (o:=s2 ρ' G') q g)
 |rt x G'=>exact id
 |bk ρ' G'=>exact id
 |ct ρ' G'=>exact id
 |exc c fs G'=>exact id
 |wall=>exact id
def zv(h1:HS X W E st s1)(h2:HSs X W E sts s2):HSs X W E (st::sts) (ZN s1 s2):=λhK=>by obtain⟨t,a1,a2⟩:=h1 hK;obtain⟨u,b1,b2⟩:=h2 hK;exact⟨_,U1 a1 b1,FQ a2 b2⟩
def qr(h1:HS X W E st s1):HSs X W E [st] s1:=λhK=>by obtain⟨t,a1,a2⟩:=h1 hK;exact⟨_,kA a1,a2⟩
def Be(a2:∀(Z:HC),Z.W=W->∀A H σ ρ G,HR Z A H σ ρ G->∀Q,HPx Z E A G.length H (KV' Z Q) (m ρ G)->te σ H Q):LHS W E (DS te (eD i)) (KN i m):=λZ hZ A H σ ρ G R D q=>
 a2 Z hZ A H σ ρ G R _ (HPs.bind q λx A1 H1 G1 h1 g1 q1 v rx=>q1 A1 H1 _ ((R.gro h1 g1).set rx) Gro.refl)
def pY(hN:X.N.Nodup)(hi:X.N[i]?=some x)(hx:Loc X.env.scope x)(h:HE X W E e m)(hs:swapsWith e (some (.Name x pos')) pos.line X.env=pure false:=by rfl)(hf:X.fn x=true\/X.env.scope.names.lookup x=some .local:=by first|exact .inl rfl|exact .inr rfl|assumption):
  HS X W E (.Assign [.Name x pos'] e pos) (KN i m):=λhK=>by
 obtain⟨te,a1,a2⟩:=h hK;exact⟨_,nI hN hi hx a1 hs hf,Be a2⟩
def pZ(h:HE X W E e m)(hs:swapsWith e none pos.line X.env=pure false:=by rfl):HS X W E (.Expr e pos) (mG m):=λhK=>by obtain⟨te,a1,a2⟩:=h hK;exact⟨_,VY a1 hs,λZ hZ A H σ ρ G R D q=>a2 Z hZ A H σ ρ G R _ (HPs.bind q λx A1 H1 G1 h1 g1 q1 v rx=>q1 A1 H1 σ (R.gro h1 g1) Gro.refl)⟩
def Ji(h:HE X W E e m):HS X W E (.Return (some e) pos) (ib m):=λhK=>by obtain⟨te,a1,a2⟩:=h hK;exact⟨_,gB a1,λZ hZ A H σ ρ G R D q=>a2 Z hZ A H σ ρ G R _ (HPs.bind q λx A1 H1 G1 h1 g1 q1 v rx=>q1 A1 H1 v h1 Gro.refl rx)⟩
def fk(h:HT X W E c t1)(h1:HSs X W E sts s1)(h2:HSs X W E stt s2):HS X W E (.If c sts stt pos) (hIf t1 s1 s2):=λhK=>by
 obtain⟨tt,a1,a2⟩:=h hK;obtain⟨t,b1,b2⟩:=h1 hK;obtain⟨u,c1,c2⟩:=h2 hK;refine⟨_,Eg a1 b1 c1,λZ hZ A H σ ρ G R D q=>a2 Z hZ A H σ ρ G R _ (HPs.bind q λk A1 H1 G1 h1 g1 q1=>?_)⟩;cases k with
 |true=>show(if true=true then t D σ H1 else u D σ H1);rw[if_pos rfl];exact b2 Z hZ A1 H1 σ ρ G1 (R.gro h1 g1) D q1
 |false=>show(if false=true then t D σ H1 else u D σ H1);rw[if_neg O2];exact c2 Z hZ A1 H1 σ ρ G1 (R.gro h1 g1) D q1
def Hb{Z:HC}{A:MN}{H:Hp}{G:AH}{σ:St}{ρ:ZL}{D:Ends}{k:Nat}{c:Cell}{o o0:HO}(R:HR Z A H σ ρ G)(hk:k<G.length)(h0:H (A k)=some o0)(n0:¬Imm o0)(hc:Uy Z.W (HM Z A G.length) A G.length (upd H (A k) o) (A k) c)(q:HPs Z E A G.length H D (.nx ρ (G.set k c))):D.nx σ (upd H (A k) o):=by
 have g:Gro Z A G.length H A (G.set k c).length (upd H (A k) o):=by rw[P1];exact R.toHH.frw hk h0 n0
 exact q A _ σ (R.gro (R.toHH.write hk h0 n0 hc) g) g
def Hc(mo:HME):HMS:=λρ G=>(mo ρ G).fw λx G1=>match x with
 |.g k=>match G1[k]? with
  |some (.l _)=>.nx ρ (G1.set k (.l []))
  |_=>.wall
 |_=>.wall
def xg(ho:HE X W E o m1)(Xw:attributeBase o "clear" X.env (eval o X.env)=eval o X.env:=by rfl)(Xv:(jo.endLine==p.line)=true:=by rfl)(hsw:swapsWith (.Call (.Attribute o "clear" jo) [] [] p) none pos.line X.env=pure false:=by rfl):
  HS X W E (.Expr (.Call (.Attribute o "clear" jo) [] [] p) pos) (Hc m1):=λhK=>by
 obtain⟨to,o1,o2⟩:=ho hK;refine⟨_,VY (AB a2i PySem.F.slot_list_clear PySem.F.type_list_clear ua o1 Xw Xv) hsw,λZ hZ A H σ ρ G R D q=>o2 Z hZ A H σ ρ G R _ (HPs.bind q λx A1 H1 G1 h1 g1 q1 v rx=>?_)⟩;split at q1
 .rename_i k;obtain⟨hk,rfl⟩:=rx;split at q1
  .rename_i xs hc;obtain⟨vs,hp,r⟩:=h1.cell k _ hc;exact⟨.inl ⟨rfl,_,SqL.of hp⟩,_,vs,rfl,rfl,hp,Hb (c:=.l []) (R.gro h1 g1) hk hp id ⟨[],zd,rfl⟩ q1⟩
  .exact q1.elim
 .exact q1.elim
def CW(mo mk mv:HME):HMS:=λρ G=>(mv ρ G).fw λy G1=>(mo ρ G1).fw λx G2=>(mk ρ G2).fw λz G3=>match x,z with
 |.g k,.v z=>match G3[k]?,pk z with
  |some (.d kvs),some q=>if kvs.length<sizeLine then .nx ρ (G3.set k (.d (dput kvs q y)))else .wall
  |_,_=>.wall
 |_,_=>.wall
def Bf(hu:X.A.units+1<cLine)(ho:HE X W E o m)(hk:HE X W E a m1)(hv:HE X W E e m2)(hs:swapsWith e (some (.Subscript o a pos')) pos.line X.env=pure false:=by rfl):
  HS X W E (.Assign [.Subscript o a pos'] e pos) (CW m m1 m2):=λhK=>by
 obtain⟨to,o1,o2⟩:=ho hK;obtain⟨ta,a1,a2⟩:=hk hK;obtain⟨tv,b1,b2⟩:=hv hK;refine⟨_,eK hu o1 a1 b1 hs,λZ hZ A H σ ρ G R D q=>b2 Z hZ A H σ ρ G R _ (HPs.bind q λy A1 H1 G1 h1 g1 q1 v ry=>?_)⟩;have R1:=R.gro h1 g1;refine o2 Z hZ A1 H1 σ ρ G1 R1 _ (HPs.bind q1 λx A2 H2 G2 h2 g2 q2 w rx=>?_);have R2:=R1.gro h2 g2;refine a2 Z hZ A2 H2 σ ρ G2 R2 _ (HPs.bind q2 λz A3 H3 G3 h3 g3 q3 u rz=>?_);split at q3
 .rename_i k z;obtain⟨hk,rfl⟩:=rx;split at q3
  .rename_i kvs q hc hq;split at q3
   .rename_i hl;obtain⟨es,hp,r⟩:=h3.cell k _ hc;have hk3:k<G3.length:=N9 hk g3.le;have g4:=h3.frw (o:=.dK (putK es q v)) hk3 hp id;rw[<- g3.agr k hk];refine⟨_,_,rfl,by rw[Wd (yG.iff.mpr (show Rep Z.W _ H3 z u from rz)) hq];exact uc.k hp (by rw[r.len];exact hl),Hb (c:=.d (dput kvs q y)) (R2.gro h3 g3) hk3 hp id ⟨_,zd,?_⟩ q3⟩;exact(r.put ((ry.gro g2).gro g3)).imp λ_ _ h=>h.gro g4
   .exact q3.elim
  .exact q3.elim
 .exact q3.elim
end
abbrev HMG:=HV->ZL->Option ZL
def HG(X:Cx)(W:RC)(tg:MR)(mg:HMG):Prop:=X.K=W.K->∃g,PG X tg g/\∀(Z:HC),Z.W=W->∀A H σ ρ G x v,HR Z A H σ ρ G->jt Z.W (HM Z A G.length) A G.length H x v->∀Q:St->Hp->Prop,(∃ρ',mg x ρ=some ρ'/\∀σ',HR Z A H σ' ρ' G->Q σ' H)->g v σ H Q
abbrev Mx:=List HV->ZL->Option ZL
def hgN(i:Nat):HMG:=λx ρ=>some (ρ.set i (some x))
def Wu(hN:X.N.Nodup)(hi:X.N[i]?=some x)(hx:Loc X.env.scope x)(hf:X.fn x=true\/X.env.scope.names.lookup x=some .local:=by first|exact .inl rfl|exact .inr rfl|assumption):HG X W (.Name x pos) (hgN i):=
 λ_=>⟨_,nH hN hi hx hf,λZ hZ A H σ ρ G x v R r Q ⟨ρ',e,k⟩=>by cases e;exact k _ (R.set r)⟩
def Xy(g:HMG)(b:HMS):List HV->ZL->AH->HFw
 |[],ρ,G=>.nx ρ G
 |x::xs,ρ,G=>match g x ρ with
  |none=>.wall
  |some ρ1=>match b ρ1 G with
   |.nx ρ2 G2=>Xy g b xs ρ2 G2
   |.ct ρ2 G2=>Xy g b xs ρ2 G2
   |.bk ρ2 G2=>.nx ρ2 G2
   |.rt v G2=>.rt v G2
   |.exc c fs G2=>.exc c fs G2
   |.wall=>.wall
def isZ:Cell->Bool
 |.z _=>true
 |_=>false
def p0(A:MN)(G:AH)(a:Addr):Prop:=∃k c,G[k]?=some c/\isZ c=false/\A k=a
section
variable {X:Cx}{W:RC}{E:XK}{Z:HC}{A A':MN}{H H':Hp}{G G':AH}{σ:St}{ρ:ZL}{D:Ends}
def Uy.live{M:MF}{n:Nat}{p:Addr}:∀{c:Cell},Uy W M A n H p c->isZ c=false->∃o,H p=Option.some o/\¬Imm o
 |.l _,⟨_,e,_⟩,_=>⟨_,e,id⟩
 |.d _,⟨_,e,_⟩,_=>⟨_,e,id⟩
 |.z _,_,h=>by cases h
 |.o _ _,⟨_,_,e,_⟩,_=>⟨_,e,id⟩
 |.y _,⟨_,_,e,_⟩,_=>⟨_,e,id⟩
def Uy.zed{M:MF}{n:Nat}{p:Addr}:∀{c:Cell},Uy W M A n H p c->isZ c=true->∃o,H p=Option.some o/\Imm o
 |.l _,_,h=>by cases h
 |.d _,_,h=>by cases h
 |.z _,⟨_,_,e,_⟩,_=>⟨_,e,trivial⟩
 |.o _ _,_,h=>by cases h
 |.y _,_,h=>by cases h
def Gro.rest(h:HH Z A H G)(h':HH Z A' H' G')(g:Gro Z A G.length H A' G'.length H'):Fr (λa=>¬p0 A G a) H H':=λa o e m=>by
 rcases m with m|m
 .by_cases hc:∃k,k<G.length/\A k=a
  .obtain⟨k,hk,rfl⟩:=hc;have hq:=N6 hk;have hz:isZ G[k]=true:=by
    cases z:isZ G[k]with
    |true=>rfl
    |false=>exact absurd ⟨k,_,hq,z,rfl⟩ m
   obtain⟨o',e',i⟩:=(h.cell k _ hq).zed hz;rw[e']at e;cases e;exact g.fr _ _ e' (.inr i)
  .cases q:Z.H0 a with
   |none=>exact g.fr a o e (.inl ⟨.inr q,λk hk z=>hc ⟨k,hk,z⟩⟩)
   |some u=>have:=h.same a u q;rw[e]at this;cases this;exact h'.same a _ q
 .exact g.fr a o e (.inr m)
open Classical in
def bsH(Z:HC)(A:MN)(H:Hp)(G:AH):Bs:=⟨λa=>if p0 A G a then none else H a,HM Z A G.length,λ_=>False,λ_ h=>h.elim,none,p0 A G⟩
def Iy(R:HR Z A H σ ρ G)(e:Kf bs ρ=some r)(hS:S.all (·==0)=true):Rel Z.W (bsH Z A H G) S (λ_=>0) H σ r:=by
 have n2:∀{k:Nat},S[k]?=some 2->False:=λ{k} h=>by have:=FG hS h;omega
 have n1:∀{k:Nat},S[k]?=some 1->False:=λ{k} h=>by have:=FG hS h;omega
 refine⟨λa o h=>?_,R.len.trans (Jh e).symm,λi x hx=>?_,λi hi=>(n2 hi).elim,λi j hi=>(n2 hi).elim,λhi=>(n2 hi).elim,λa h=>?_,λi hi=>(n2 hi).elim⟩
 .unfold bsH at h;dsimp only at h;split at h
  .cases h
  .exact h
 .obtain⟨v,h1,h2⟩:=R.var i _ (Jg e hx);refine⟨v,h1,λz=>(n2 z).elim,λz=>(n1 z).elim,λ_ _=>(show Rep Z.W _ H x v from h2).sub λa m _=>⟨⟨.inl m,λ⟨k,c,hk,_,ea⟩=>m.2 k (N7.mp hk).1 ea⟩,λi hi=>(n2 hi).elim⟩⟩
 .obtain⟨k,c,hk,hz,rfl⟩:=h;obtain⟨o,ho,ni⟩:=(R.toHH.cell k c hk).live hz;exact⟨o,ho,ni,by unfold bsH;dsimp only;rw[if_pos ⟨k,c,hk,hz,rfl⟩]⟩
def ic(hZ:Z.W=W)
  (hi:∀R:It->Hp->Prop,(∀J H2,zl H H2->Cy Z.W (HM Z A G.length) (λa=>¬p0 A G a) H2 J xs->R J H2)->wi σ H R)
  (hg:∀(Z:HC),Z.W=W->∀A H σ ρ G x v,HR Z A H σ ρ G->jt Z.W (HM Z A G.length) A G.length H x v->∀Q:St->Hp->Prop,(∃ρ',mg x ρ=some ρ'/\∀σ',HR Z A H σ' ρ' G->Q σ' H)->g v σ H Q) (hb:LHS W E tb mb) (R:HR Z A H σ ρ G) (q:HPs Z E A G.length H D (Xy mg mb (xs.map .v) ρ G)):Ek wi g tb D σ H:=by
 refine hi _ λJ H2 s2 io=>?_;have R2:=R.keep s2;have q2:=HPs.gro q (Gro.same s2);refine⟨λi n σ' H'=>n=xs.length-i/\i<=xs.length/\∃ρ' A' G',HR Z A' H' σ' ρ' G'/\Gro Z A G.length H2 A' G'.length H'/\HPs Z E A' G'.length H' D (Xy mg mb ((xs.drop i).map .v) ρ' G'),⟨_,rfl,S7 _,ρ,A,G,R2,Gro.refl,q2⟩,?_⟩
 rintro i n σ' H' ⟨rfl,hle,ρ',A',G',R',g',q'⟩
 have io':=io H' (Gro.rest R2.toHH R'.toHH g');by_cases hlt:i<xs.length
 .have hx:xs[i]?=some xs[i]:=N6 hlt;obtain⟨go,yl⟩:=io'.1 i _ hx;refine .inr ⟨go,λσ2 H2'=>i+1<=xs.length/\∃ρ' A' G',HR Z A' H2' σ2 ρ' G'/\Gro Z A G.length H2 A' G'.length H2'/\HPs Z E A' G'.length H2' D (Xy mg mb ((xs.drop (i+1)).map .v) ρ' G'),λσ2 H2' h=>⟨xs.length-(i+1),by omega,rfl,h.1,h.2⟩,λv H'' hy=>?_⟩;obtain⟨sy,ry⟩:=yl v H'' hy;have Ry:=R'.keep sy;have gy:Gro Z A G.length H2 A' G'.length H'':=g'.trans (Gro.same sy);have rx:Rep Z.W (HM Z A' G'.length) H'' xs[i] v:=ry _ λa m hn=>gy.sM a m hn;rw[a0S hlt,N5]at q';unfold Xy at q';split at q'
  .exact q'.elim
  .rename_i ρ1 hρ;refine hg Z hZ A' H'' σ' ρ' G' _ v Ry (show jt Z.W _ _ _ H'' (.v xs[i]) v from rx) _ ⟨ρ1,hρ,λσ1 R1=>hb Z hZ A' H'' σ1 ρ1 G' R1 _ ?_⟩;have q':=HPs.gro q' (Gro.same sy);revert q';cases mb ρ1 G' with
   |wall=>exact id
   |exc c fs G2=>exact id
   |nx ρ2 G2=>exact λq' A3 H3 σ3 R3 g3=>⟨hlt,ρ2,A3,G2,R3,gy.trans g3,HPs.gro (o:=Xy mg mb ((xs.drop (i+1)).map .v) ρ2 G2) q' g3⟩
   |ct ρ2 G2=>exact λq' A3 H3 σ3 R3 g3=>⟨hlt,ρ2,A3,G2,R3,gy.trans g3,HPs.gro (o:=Xy mg mb ((xs.drop (i+1)).map .v) ρ2 G2) q' g3⟩
   |bk ρ2 G2=>exact id
   |rt x G2=>exact id
 .have e:i=xs.length:=by omega
  subst e;rw[a1x]at q';exact .inl ⟨io'.2,q' A' H' σ' R' Gro.refl⟩
end
def fm(bs:MP)(mi:MI)(g:HMG)(b:HMS):HMS:=λρ G=>match Kf bs ρ with
 |some r=>match mi r with
  |.ok xs=>Xy g b (xs.map .v) ρ G
  |_=>.wall
 |none=>.wall
section
variable {X:Cx}{W:RC}{E:XK}{fr:Bool}{S:MB}{tg qP:MR}{body:Nk}{mi:MI}{mg:HMG}{mb:HMS}{pos:Pos}
def fo(bs:MP)(hp:PassesOwn (NO X) X.A X.env X.xe)(hc:X.calm=true)(hi:IM X ⟨W,E,fr⟩ S false tg qP mi)(hg:HG X W tg mg)(hb:HSs X W E body mb)(hS:S.all (·==0)=true:=by rfl)(hs:∀x,foldedSetIterable qP X.env x=pure x:=by intro _;rfl):
  HS X W E (.For tg qP body [] pos) (fm bs mi mg mb):=λhK=>by
 obtain⟨wi,a1,a2⟩:=hi hK;obtain⟨g,b1,b2⟩:=hg hK;obtain⟨tb,c1,c2⟩:=hb hK;refine⟨_,nN hp hc a1 b1 c1 hs,λZ hZ A H σ ρ G R D q=>?_⟩;unfold fm at q;split at q
 .rename_i r hr;split at q
  .rename_i xs hx;subst hZ;refine ic rfl (λR' k=>?_) b2 c2 R q;refine a2 _ _ H σ r (Iy R hr hS) R' ?_;rw[hx];intro J H2 s io;refine k J H2 s λH' f=>?_;have n2:∀{k:Nat},S[k]?=some 2->False:=λ{k} h=>by have:=FG hS h;omega
   obtain⟨i1,i2⟩:=io H' λa o h m=>f a o h (m.imp (λm z=>m.1 z) id);refine⟨λi x hx=>⟨(i1 i x hx).1,λv H'' hy=>⟨((i1 i x hx).2 v H'' hy).1,λM' sM=>((i1 i x hx).2 v H'' hy).2 M' λa m hn=>sM a ?_ hn⟩⟩,i2⟩;have m1:HM Z A G.length a\/(bsH Z A H G).H0 a=none:=m.1.1;rcases m1 with m1|m1
   .exact m1
   .unfold bsH at m1;dsimp only at m1;split at m1
    .rename_i hl;exact absurd hl m.1.2
    .exact R.toHH.new a m1
  .exact q.elim
 .exact q.elim
end
def hB(p:MU)(ms:HMA):HME:=λρ G=>(ms ρ G).bind λxs G1=>match u9 (jN G1 8) xs with
 |some ys=>match p ys with
  |.ok z=>if imm z=true then .ok (.v z) G1 else .wall
  |_=>.wall
 |none=>.wall
section
variable {X:Cx}{W:RC}{E:XK}{e a b:MR}{es:MK}{pos p:Pos}{m1 m2:HME}{ms:HMA}{x:Str}
end
section
variable {X:Cx}{W:RC}{E:XK}{fr:Bool}{S S' Sb Sc:MB}{st:Nq}{s1:MS}
end
def tU(n:Nat)(ms:HMS)(xs:List HV)(G:AH):HX HV:=match ms (xs.map some++List.replicate (n-xs.length) none) G with
 |.nx _ G'=>.ok (.v .n) G'
 |.rt x G'=>.ok x G'
 |.exc c fs G'=>.exc c fs G'
 |_=>.wall
def mH{xs:List HV}{n k:Nat}{x:HV}(h:(xs.map some++List.replicate (n-xs.length) none)[k]?=some (some x)):xs[k]?=some x:=by
 rw[a1G]at h;split at h
 .rw[P2]at h;obtain⟨y,hy,e⟩:=t0.mp h;cases e;exact hy
 .rw[a0B]at h;split at h<;>cases h
def ie(h:HH Z A H G)(r:qp Z.W (HM Z A G.length) A G.length H xs vs):HR Z A H (start N vs) (xs.map some++List.replicate (N.length-xs.length) none) G:=by
 refine⟨h,?_,λi x e=>?_⟩
 .unfold start;rw[O6,O6,u8,u8,a0N,a0N,r.len]
 .obtain⟨v,hv,rv⟩:=r.get (mH e);have hk:i<vs.length:=(N7.mp hv).1;refine⟨v,?_,rv⟩;unfold start;rw[T5 (by rw[u8];exact hk),P2,hv];rfl
section
variable {P:MV}{w:M_}{K:Nh}{mg:Mz}{base:Heap}
def p4{x qual:Str}{st:Nq}{f:Addr}{fd:Na}{N ps:MD}{k n l:Nat}{W:RC}{ms:HMS}(F:Fun K x qual st f fd)(S:zk N ps (zi st))(hW:K=W.K)(hl:ps.length=l)(hN:N.length=n)
  (h:∀(cdv:Value)(A:Nb)(outer:List Env)(s:MH)(H:Hp)(E:XK),qQ k (A.deeper (envOfC qual (zi st) s.heap.objs.size f cdv))->HSs (thr (U3 (CXe P w) P w K mg base N qual (zi st) f cdv A outer s H E) E) W E (vA st) ms):
  y8 P w K mg base (CXe P w) (k+1) f fd ps (hsp W l (tU n ms)):=by
 subst hN hl;refine F.okX S pW λcdv A outer s H vs Q E hr ⟨Z,A',G,xs,hZ,hl,hh,r,q⟩=>?_;obtain⟨ts,t1,t2⟩:=h cdv A outer s H E hr hW;refine⟨ts,t1,t2 Z hZ A' H _ _ G (ie hh r) _ ?_⟩;unfold tU at q;revert q;cases ms (xs.map some++List.replicate (N.length-xs.length) none) G with
 |exc c fs G'=>exact id
 |wall=>exact id
 |nx ρ' G'=>exact λq A2 H2 σ2 R2 g2=>q A2 H2 R2.toHH g2 .non rfl
 |rt y G'=>exact λq A2 H2 v h2 g2 rv=>q A2 H2 h2 g2 v rv
 |bk ρ' G'=>exact λq=>q.elim
 |ct ρ' G'=>exact λq=>q.elim
end
section
variable {Z:HC}{E:XK}{A A':MN}{n n':Nat}{H H':Hp}{G G':AH}{σ σ':St}{ρ ρ':ZL}{a:Addr}{es:MM}{u u':HO}{W:RC}{M:MF}{D:Ends}
mutual
def jt.sw(h1:Rd H a (.dK es))(h2:Rd H' a (.dK es))(hne:∀b,b≠a->H' b=H b):∀{x:HV}{v:V},jt W M A n H x v->jt W M A n H' x v
 |.v x,v,h=>Rep.sw h1 h2 hne h
 |.g k,v,h=>h
 |.t xs,v,h=>by unfold jt at h ⊢;obtain⟨p,vs,e,r,q⟩:=h;exact⟨p,vs,e,r.elim (λz=>.inl (VJ h1 hne z (λ_=>by nofun) λ_ _=>by nofun)) .inr,qp.sw h1 h2 hne q⟩
def qp.sw(h1:Rd H a (.dK es))(h2:Rd H' a (.dK es))(hne:∀b,b≠a->H' b=H b):∀{x:List HV}{v:ML},qp W M A n H x v->qp W M A n H' x v
 |[],v,h=>h
 |x::xs,vs,h=>by unfold qp at h ⊢;obtain⟨v,r,e,q1,q2⟩:=h;exact⟨v,r,e,jt.sw h1 h2 hne q1,qp.sw h1 h2 hne q2⟩
end
def Uy.sw{p:Addr}(hp:p≠a)(h1:Rd H a (.dK es))(h2:Rd H' a (.dK es))(hne:∀b,b≠a->H' b=H b):∀{c:Cell},Uy W M A n H p c->Uy W M A n H' p c
 |.l _,⟨vs,e,q⟩=>⟨vs,(hne p hp).trans e,q.sw h1 h2 hne⟩
 |.d _,⟨vs,e,q⟩=>⟨vs,(hne p hp).trans e,q.imp λ_ _=>jt.sw h1 h2 hne⟩
 |.z _,⟨o,vs,e,q⟩=>⟨o,vs,(hne p hp).trans e,q.imp λ_ _=>jt.sw h1 h2 hne⟩
 |.o _ _,⟨dx,vs,e,q⟩=>⟨dx,vs,(hne p hp).trans e,q.imp λ_ _=>jt.sw h1 h2 hne⟩
 |.y _,⟨e1,ps,e,q⟩=>⟨e1,ps,(hne p hp).trans e,q⟩
end
section
variable {X:Cx}{W:RC}{E:XK}{tg qP:MR}{body:Nk}{mg:HMG}{mb:HMS}{pos:Pos}{i:Nat}
end
section
variable {X:Cx}{W:RC}{E:XK}{fr':Bool}{S:MB}{qP tg elt:MR}{ifs:MK}{me:ME}{mc:MT}{mg:MG}{mi:MI}{pos nC py:Pos}{i j:Nat}{scope:Scope}{y:Str}
end
section
variable {X:Cx}{W:RC}{E:XK}{a o:MR}{pos jo vz:Pos}{m m1:HME}
end
def ig{κ:Type}:List (κ×HV)->Option (List (κ×PV))
 |[]=>some []
 | (k,.v x)::xs=>(ig xs).map ((k,x)::·)
 |_::_=>none
def FR:Cell->Option PV
 |.l xs=>(CV xs).map .l
 |.d kvs=>(ig kvs).map .d
 |.z kvs=>(ig kvs).map .d
 |.o c fs=>(ig fs).map (.o c)
 |.y _=>none
def sres(G:AH):HV->Option PV
 |.v x=>some x
 |.t xs=>(CV xs).map .t
 |.g k=>(G[k]?).bind FR
def Wv(G:AH):List Bool->ZL->Option Sto
 |_,[]=>some []
 |[],_::ρ=>(Wv G [] ρ).map (none::·)
 |false::bs,_::ρ=>(Wv G bs ρ).map (none::·)
 |true::bs,some x::ρ=>(sres G x).bind λy=>(Wv G bs ρ).map (some y::·)
 |true::_,none::_=>none
def hW(bs:MP)(m:ME):HME:=λρ G=>match Wv G bs ρ with
 |some r=>match m r with
  |.ok x=>.ok (.v x) G
  |.exc c fs=>.exc c fs G
  |.wall=>.wall
 |none=>.wall
section
variable {Z:HC}{A:MN}{H:Hp}{G:AH}{σ:St}{ρ:ZL}
def aH{W:RC}{M:MF}{n:Nat}:∀{xs:List (Key×HV)}{ys:MY}{vs:MM},ig xs=some ys->yO (jt W M A n H) xs vs->qy W M H ys vs
 |[],_,_,e,h=>by cases e;exact h
 | (k,.v x)::xs,ys,_,e,h=>by unfold ig at e;obtain⟨zs,e1,rfl⟩:=t0.mp e;obtain⟨v,r,rfl,h1,h2⟩:=h;exact⟨v,r,rfl,h1,aH e1 h2⟩
 | (_,.g _)::_,_,_,e,_=>by cases e
 | (_,.t _)::_,_,_,e,_=>by cases e
def ij{W:RC}{M:MF}{n:Nat}:∀{xs:List (Str×HV)}{ys:MZ}{vs:Nd},ig xs=some ys->yO (jt W M A n H) xs vs->jq W M H ys vs
 |[],_,_,e,h=>by cases e;exact h
 | (k,.v x)::xs,ys,_,e,h=>by unfold ig at e;obtain⟨zs,e1,rfl⟩:=t0.mp e;obtain⟨v,r,rfl,h1,h2⟩:=h;exact⟨v,r,rfl,h1,ij e1 h2⟩
 | (_,.g _)::_,_,_,e,_=>by cases e
 | (_,.t _)::_,_,_,e,_=>by cases e
def xh(h:HH Z A H G)(r:jt Z.W (HM Z A G.length) A G.length H x v)(e:sres G x=some y):yG Z.W (λa=>H a≠none) (HM Z A G.length) H y v:=by
 cases x with
 |v z=>have e:some z=some y:=e;cases e;exact yG.sub (yG.iff.mpr (show Rep Z.W _ H y v from r)) (λ_ _ n=>n) λ_ m _=>m
 |t xs=>obtain⟨ys,e1,rfl⟩:=t0.mp (show(CV xs).map PV.t=some y from e);obtain⟨p,vs,rfl,s,q⟩:=r;exact⟨p,vs,rfl,s,aG e1 q⟩
 |g k=>
  obtain⟨hk,rfl⟩:=r;obtain⟨c,hc,e⟩:=O9.mp (show(G[k]?).bind FR=some y from e);cases c with
  |y b=>cases e
  |l xs=>obtain⟨ys,e1,rfl⟩:=t0.mp (show(CV xs).map PV.l=some y from e);obtain⟨vs,h1,q⟩:=h.cell k _ hc;exact⟨A k,vs,rfl,(show H (A k)≠none from λz=>by(rw[h1]at z;cases z)),h1,aG e1 q⟩
  |d xs=>obtain⟨ys,e1,rfl⟩:=t0.mp (show(ig xs).map PV.d=some y from e);obtain⟨vs,h1,q⟩:=h.cell k _ hc;exact⟨A k,vs,rfl,(show H (A k)≠none from λz=>by(rw[h1]at z;cases z)),.inl h1,aH e1 q⟩
  |z xs=>obtain⟨ys,e1,rfl⟩:=t0.mp (show(ig xs).map PV.d=some y from e);obtain⟨o,vs,h1,q⟩:=h.cell k _ hc;exact⟨A k,vs,rfl,(show H (A k)≠none from λz=>by(rw[h1]at z;cases z)),.inr ⟨o,h1⟩,aH e1 q⟩
  |o c xs=>obtain⟨ys,e1,rfl⟩:=t0.mp (show(ig xs).map (PV.o c)=some y from e);obtain⟨dx,vs,h1,q⟩:=h.cell k _ hc;exact⟨A k,dx,vs,rfl,(show H (A k)≠none from λz=>by(rw[h1]at z;cases z)),h1,ij e1 q⟩
def YU:∀{bs:MP}{ρ:ZL}{r:Sto}{i:Nat}{x:PV},Wv G bs ρ=some r->r[i]?=some (some x)->i<bs.length/\∃y,ρ[i]?=some (some y)/\sres G y=some x
 |_,[],r,i,x,e,h=>by unfold Wv at e;cases e;simp at h
 |[],_::ρ,r,i,x,e,h=>by
  unfold Wv at e;obtain⟨r',e1,rfl⟩:=t0.mp e;cases i with
  |zero=>cases h
  |succ i=>rw[P6]at h;exact absurd (YU e1 h).1 (a2n _)
 |false::bs,_::ρ,r,i,x,e,h=>by
  unfold Wv at e;obtain⟨r',e1,rfl⟩:=t0.mp e;cases i with
  |zero=>cases h
  |succ i=>rw[P6]at h ⊢;exact⟨a2a (YU e1 h).1,(YU e1 h).2⟩
 |true::bs,some y::ρ,r,i,x,e,h=>by
  unfold Wv at e;obtain⟨z,e0,e⟩:=O9.mp e;obtain⟨r',e1,rfl⟩:=t0.mp e;cases i with
  |zero=>cases h;exact⟨Nat.zero_lt_succ _,y,rfl,e0⟩
  |succ i=>rw[P6]at h ⊢;exact⟨a2a (YU e1 h).1,(YU e1 h).2⟩
 |true::bs,none::ρ,r,i,x,e,h=>by cases e
def VN:∀{bs:MP}{ρ:ZL}{r:Sto},Wv G bs ρ=some r->r.length=ρ.length
 |_,[],r,e=>by unfold Wv at e;cases e;rfl
 |[],_::ρ,r,e=>by unfold Wv at e;obtain⟨r',e1,rfl⟩:=t0.mp e;rw[v4,v4,VN e1]
 |false::bs,_::ρ,r,e=>by unfold Wv at e;obtain⟨r',e1,rfl⟩:=t0.mp e;rw[v4,v4,VN e1]
 |true::bs,some y::ρ,r,e=>by unfold Wv at e;obtain⟨z,e0,e⟩:=O9.mp e;obtain⟨r',e1,rfl⟩:=t0.mp e;rw[v4,v4,VN e1]
 |true::bs,none::ρ,r,e=>by cases e
def Iz(R:HR Z A H σ ρ G)(e:Wv G bs ρ=some r)(hS:S.all (·==1)=true)(hb:bs.length<=S.length):Rel Z.W (pB H (HM Z A G.length)) S (λ_=>0) H σ r:=by
 have one:∀{k c:Nat},S[k]?=some c->c=1:=λ{k c} h=>by have:=a0D.mp hS c (a0y h);simpa using this
 have n2:∀{k:Nat},S[k]?=some 2->False:=λ{k} h=>by have:=one h;omega
 refine⟨zl.refl _,R.len.trans (VN e).symm,λi x h=>?_,λi hi=>(n2 hi).elim,λi j hi=>(n2 hi).elim,λhi=>(n2 hi).elim,λa h=>h.elim,λi hi=>(n2 hi).elim⟩;obtain⟨hi,y,h1,h2⟩:=YU e h;obtain⟨v,h3,h4⟩:=R.var i y h1;have h1':S[i]?=some 1:=by have hl:i<S.length:=N9 hi hb;have:=N6 hl;rw[this,one this]
 exact⟨v,h3,λz=>(n2 z).elim,λ_=>yG.sub (xh R.toHH h4 h2) (λ_ n _=>n) λa m _=>⟨⟨.inl m,id⟩,λi hi=>(n2 hi).elim⟩,λ_ z=>absurd h1' z⟩
end
section
variable {X:Cx}{W:RC}{E:XK}{fr:Bool}{S:MB}{e:MR}{m:ME}
def Mn(bs:MP)(h:EM X ⟨W,E,fr⟩ S false e m)(hS:S.all (·==1)=true:=by rfl)(hb:bs.length<=S.length:=by decide):HE X W E e (hW bs m):=λhK=>by
 obtain⟨te,a1,a2⟩:=h hK;refine⟨te,a1,λZ hZ A H σ ρ G R Q q=>?_⟩;subst hZ;unfold hW at q;split at q
 .rename_i r hr;refine a2 _ _ H σ r (Iz R hr hS hb) Q ?_;revert q;cases m r with
  |ok x=>exact λq v H2 s rx=>q A H2 (R.toHH.keep s) (Gro.same s) v (rx.rep.sub λa m _=>xa R.toHH a m)
  |exc c fs=>exact λq=>aF R.toHH q λH2 es h=>h.sub λa m _=>m.elim id λn=>R.toHH.new a n
  |wall=>exact id
 .exact q.elim
end
def pD1(x:PV):PV->Out PV
 |.i n=>match pk x with|some k=>.ok (.d [(k,.i n)])|none=>.wall
 |_=>.wall
def mD1(mk mv:ME):ME:=λρ=>(mk ρ).bind λx=>(mv ρ).bind λy=>pD1 x y
def IA(h1:EM X C S w1 a m1)(h2:EM X C S w2 b m2):FM X C S (.Dict [some a] [b] pos) (mD1 m1 m2):=λhK=>by
 obtain⟨ta,a1,a2⟩:=h1 hK;obtain⟨tb,b1,b2⟩:=h2 hK;refine⟨_,B5 (ug a1 b1 B4) rfl rfl (by intro h;cases h) (show 1<=15 by decide),λB P H σ ρ R Q q=>λp hp=>?_⟩;have s0:zl H (upd H p (.dK [])):=zl.upd hp;unfold mD1 at q;show ta σ _ _;refine a2 B P _ σ ρ (R.keep s0) _ ?_;cases e1:m1 ρ with
 |exc c fs=>rw[e1]at q;exact q
 |wall=>rw[e1]at q;exact q
 |ok x=>
  rw[e1]at q;intro v H1 s1 r1;refine b2 B P _ σ ρ (R.keep (s0.trans s1)) _ ?_;cases e2:m2 ρ with
  |exc c fs=>have q:zJ C B H _ Q ((m2 ρ).bind _):=q;rw[e2]at q;exact q
  |wall=>have q:zJ C B H _ Q ((m2 ρ).bind _):=q;rw[e2]at q;exact q
  |ok y=>
   have q:zJ C B H _ Q ((m2 ρ).bind _):=q;rw[e2]at q;intro u H2 s2 r2;have q:zJ C B H _ Q (pD1 x y):=q;cases y with
   |i n=>
    cases ek:pk x with
    |none=>have q:zJ C B H _ Q (match pk x with|some k=>.ok (.d [(k,.i n)])|none=>.wall):=q;rw[ek]at q;exact q.elim
    |some k=>
    have q:zJ C B H _ Q (match pk x with|some k=>.ok (.d [(k,.i n)])|none=>.wall):=q;rw[ek]at q;have ev:=Wd (r1.weak) ek;have eu:u=.int n:=r2.weak;subst ev eu;have hp2:H2 p=some (.dK []):=(s1.trans s2) _ _ zd;refine⟨hp2,[(k,.int n)],rfl,by show 1<=15;decide,q _ _ (λc o hc=>?_) ⟨p,rfl,hp,[(k,.int n)],zd,⟨_,_,rfl,rfl,rfl⟩⟩⟩;have:c≠p:=λz=>by rw[z,hp]at hc;cases hc
    rw[zg this];exact(s0.trans (s1.trans s2)) _ _ hc
   |_=>exact(show False from q).elim
section
variable {Z:HC}{A:MN}{H:Hp}{G:AH}
end
section
variable {X:Cx}{W:RC}{E:XK}{e a b:MR}{es:MK}{pos p pos2 p2:Pos}{m1 m2:HME}{ms:HMA}{x y:Str}{k n:Nat}{f:Addr}{fd:Na}{ps:MD}{g:List HV->AH->HX HV}
end
def p5(m:ME):MS:=λρ=>(m ρ).bind λ_=>.ok (.nx ρ)
section
variable {X:Cx}{C:LC}{S S' S1 S2 Sb Sc:MB}{e:MR}{es:MK}{ws:MP}{ms:MA}{pos p pos':Pos}{x y:Str}{k i j:Nat}{f:Addr}{fd:Na}{ps:MD}{fr:Bool}{g:MU}{m1 m2:MS}
def CY(F:y8 X.prog X.w X.K X.mg X.base (CXe X.prog X.w) k f fd ps (lsp C.W fr ws g))(hr:qQ k X.A)(hg:Gl X x)(hm:X.mg x=some (.ref f))(hk:keepIn X.K (.ref f)=true)(hb:Binds X.K fd ps [])
  (ha:AM X.nox C.nox S ws (e::es) ms) (hs:swapsWith (.Call (.Name x p) (e::es) [] pos) none pos'.line X.env=pure false:=by rfl)
  (hdb:(x==("__debug__":Str))=false:=by decide) (he:starEach (e::es) X.env=(false,eval e X.env)::starEach es X.env:=by rfl) (hpl:(backTo pos (starEach es X.env)).any (·.1)=false:=by rfl):
  XM X C S S [.Expr (.Call (.Name x p) (e::es) [] pos) pos'] (p5 (g6 g ms)):=λhK=>by
 obtain⟨ta,a1,a2⟩:=ha hK;refine⟨_,uw (uv (uu F hr hg hm hk hb a1 hdb he hpl) hs),λB P H σ ρ R D Z q=>a2 B P H σ ρ R _ ?_⟩;unfold p5 g6 at q;revert q;cases ms ρ with
 |exc c fs=>exact λq=>q.elim
 |wall=>exact id
 |ok xs=>
  intro q vs H1 s1 r1;have R1:=R.keep s1;refine⟨_,xs,r1.args,?_⟩;have q:Fz C B S S P H D Z ((g xs).bind λ_=>.ok (.nx ρ)):=q;revert q;cases g xs with
  |ok r=>exact λq v H2 s hr=>q P H2 _ (R1.keep s)
  |exc c fs=>exact λq e dx es H2 s h1 h2 h3=>q e dx es H2 (s1.trans s) h1 h2 (h3.sub λa m _=>FA R1 m)
  |wall=>exact id
end
section
variable {X:Cx}{C:LC}{S:MB}{tg e:MR}{p pos:Pos}{m:ME}{cc:Bool}
end
def IB:V->List V->Hp->VK->Prop:=λx vs H Q=>∃a kvs,x=.ref a/\vs=[]/\H a=some (.dK kvs)/\Q .non (upd H a (.dK []))
def p6:MtM X "dict.clear" IB:=by intro pins s σ H x vs v us Q I rx rv h;obtain⟨a,kvs,rfl,rfl,hH,q⟩:=h;cases rx;have hus:=rv.zero;subst hus;exact B3 I hH λs' I'=>⟨.non,_,I',rfl,q⟩
def CZ(mo:HME):HMS:=λρ G=>(mo ρ G).fw λx G1=>match x with
 |.g k=>match G1[k]? with
  |some (.d _)=>.nx ρ (G1.set k (.d []))
  |_=>.wall
 |_=>.wall
def p7(ho:HE X W E o m1)(Xw:attributeBase o "clear" X.env (eval o X.env)=eval o X.env:=by rfl)(Xv:(jo.endLine==p.line)=true:=by rfl)(hsw:swapsWith (.Call (.Attribute o "clear" jo) [] [] p) none pos.line X.env=pure false:=by rfl):
  HS X W E (.Expr (.Call (.Attribute o "clear" jo) [] [] p) pos) (CZ m1):=λhK=>by
 obtain⟨to,o1,o2⟩:=ho hK;refine⟨_,VY (AB a1n a2f PySem.F.type_dict_clear p6 o1 Xw Xv) hsw,λZ hZ A H σ ρ G R D q=>o2 Z hZ A H σ ρ G R _ (HPs.bind q λx A1 H1 G1 h1 g1 q1 v rx=>?_)⟩;split at q1
 .rename_i k;obtain⟨hk,rfl⟩:=rx;split at q1
  .rename_i xs hc;obtain⟨vs,hp,r⟩:=h1.cell k _ hc;exact⟨.inr (.inr (.inl ⟨rfl,.inl ⟨_,hp⟩⟩)),_,vs,rfl,rfl,hp,Hb (c:=.d []) (R.gro h1 g1) hk hp id ⟨[],zd,rfl⟩ q1⟩
  .exact q1.elim
 .exact q1.elim
section
variable {X:Cx}{C:LC}{S Sb Sc:MB}{qP tg elt:MR}{ifs:MK}{me:ME}{mc:MT}{mg:MG}{pos nC py:Pos}{i j:Nat}{scope:Scope}{y:Str}
end
def signsOf:PV->Out (List PV)
 |.s z=>.ok (z.cps.toList.map λc=>.s ⟨#[c]⟩)
 |_=>.wall
def cS(m:ME):MI:=λρ=>(m ρ).bind signsOf
def FT:Cy W M N H2 (Its z) (z.cps.toList.map λc=>PV.s ⟨#[c]⟩):=λH' f=>by refine⟨λi x hx=>?_,by rw[u8];exact a1A a0X.symm⟩;rw[P2]at hx;obtain⟨c,hc,rfl⟩:=t0.mp hx;rw[Array.getElem?_toList]at hc;refine⟨(a1g.mp hc).1,λv H'' hy=>?_⟩;obtain⟨rfl,c',hc',rfl⟩:=hy;rw[hc]at hc';cases hc';exact⟨zl.refl _,λ_ _=>rfl⟩
section
variable {X:Cx}
end
def p8:List PV->Option (List Str)
 |[]=>some []
 |.s z::xs=>(p8 xs).map (z::·)
 |_::_=>none
def C0:∀{vs:ML}{ys:MD},zI W M H xs vs->p8 xs=some ys->vs=ys.map V.str:=by
 induction xs with
 |nil=>intro vs ys r e;cases e;unfold zI at r;exact r
 |cons x xs ih=>
  intro vs ys r e;unfold zI at r;obtain⟨v,q,rfl,rv,rq⟩:=r;cases x with
  |s z=>obtain⟨zs,e2,rfl⟩:=t0.mp (show(p8 xs).map (z::·)=some ys from e);unfold Rep at rv;rw[ih rq e2,rv];rfl
  |_=>cases(show(none:Option (List Str))=some ys from e)
def ik:∀{ys:MD},p8 (ys.map .s)=some ys
 |[]=>rfl
 |y::ys=>by show(p8 (ys.map .s)).map _=_;rw[ik];rfl
def cT(sep:Str):PV->Out PV
 |.l xs=>match p8 xs with
  |some ys=>if(ys.map (·.length)).sum+ys.length*sep.length<=16777216 then .ok (.s (Txt.join sep ys))else .wall
  |none=>.wall
 |_=>.wall
def IC(g:Str->PV->Out PV)(m1 m2:ME):ME:=λρ=>(m1 ρ).bind λx=>match x with
 |.s z=>(m2 ρ).bind (g z)
 |_=>.wall
def C1(ho:EM X C S w1 o m1)(ha:EM X C S w2 e m2)(Xw:attributeBase o "join" X.env (eval o X.env)=eval o X.env:=by rfl)
  (GV:((backTo vz (starEach [e] X.env)).all (λx=>!x.1)&&(backToKw vz (keywordEach [] X.env)).all (λx=>x.1.isSome)
   && decide (([e]:List Expr).length+([]:List Keyword).length+(if([]:List Keyword).isEmpty then 0 else 1)<30))=true:=by rfl)
  (Xv:(jo.endLine==vz.line)=true:=by rfl) (hs:starEach [e] X.env=[(false,eval e X.env)]:=by rfl):EM X C S false (.Call (.Attribute o "join" jo) [e] [] vz) (IC cT m1 m2):=λhK=>by
 obtain⟨to,a1,a2⟩:=ho hK;obtain⟨te,b1,b2⟩:=ha hK;refine⟨_,Ez PySem.F.plainAttrs_str PySem.F.slot_str_join PySem.F.type_str_join Cc a1 (wK b1 V0 (by rw[hs];rfl)) Xw GV Xv (by rw[hs];rfl) rfl,λB P H σ ρ R Q q=>a2 B P H σ ρ R _ (zV q λx v H1 s1 r1 q1=>?_)⟩;cases x with
 |s z=>
  have ev:v=V.str z:=r1.weak;subst ev;refine⟨rfl,b2 B P H1 σ ρ (R.keep s1) _ (zV (o:=m2 ρ) (f:=cT z) q1 λx u H2 s2 r2 q2=>?_)⟩;cases x with
  |l xs=>
   obtain⟨p,vs,rfl,_,hl,rr⟩:=r2.weak;cases et:p8 xs with
   |none=>
    have e:cT z (.l xs)=.wall:=by show(match p8 xs with|some ys=>_|none=>_)=_;rw[et]
    rw[e]at q2;exact q2.elim
   |some ys=>
    have evs:=C0 rr et;subst evs;by_cases h:(ys.map (·.length)).sum+ys.length*z.length<=16777216
    .have e:cT z (.l xs)=.ok (.s (Txt.join z ys)):=by show(match p8 xs with|some ys=>_|none=>_)=_;rw[et];exact if_pos h
     rw[e]at q2;exact⟨z,p,ys,rfl,rfl,SqL.of hl,h,q2 _ _ (zl.refl _) (RV.of rfl)⟩
    .have e:cT z (.l xs)=.wall:=by show(match p8 xs with|some ys=>_|none=>_)=_;rw[et];exact if_neg h
     rw[e]at q2;exact q2.elim
  |_=>exact q2.elim
 |_=>exact q1.elim
def FU:List V->Hp->VK->Prop:=λvs H Q=>∃n:Int,vs=[.int n]/\n.natAbs.log2<1920/\Q (.str (toString n)) H
def p9:wq X (.type "str") FU:=by intro pins s σ H xs us Q I r h;obtain⟨n,rfl,hn,q⟩:=h;obtain⟨u,rfl,t,rfl⟩:=vals1 r;exact P.str_of_int hn ⟨.str _,H,I.tok _,⟨_,rfl⟩,q⟩
def D0:List PV->Out PV
 |[.i n]=>if n.natAbs.log2<1920 then .ok (.s (toString n))else .wall
 |_=>.wall
def C2:LfC W FU D0:=λM C B H xs vs Q n h q=>by
 unfold D0 at q;split at q
 .obtain⟨v,r,rfl,hx,hr⟩:=h;cases(show _=_ from hr);cases(show _=_ from hx);split at q
  .rename_i hn;exact⟨_,rfl,hn,q _ H (zl.refl _) rfl⟩
  .exact q.elim
 .exact q.elim
def p_(hg:Gl X "str")(hm:X.mg "str"=none)(ha:AM X C S ws [e] ms)(he:starEach [e] X.env=[(false,eval e X.env)]:=by rfl):EM X C S false (.Call (.Name "str" p) [e] [] pos) (zj D0 ms):=
 uI (λ_=>p9) C2 hg hm PyProof.Rows.Boot.str ha (he:=he)
def FV(h:EM X C S w e m):IM X C S cc (.Name y py) e (cS m):=λhK=>by
 obtain⟨te,a1,a2⟩:=h hK;refine⟨_,EY a1,λB P H σ ρ R Q q=>a2 B P H σ ρ R _ ?_⟩;unfold cS at q;revert q;cases m ρ with
 |exc c fs=>exact id
 |wall=>exact id
 |ok x=>
  intro q v H2 s r;cases x with
  |s z=>have ev:v=V.str z:=r.weak;exact⟨z,ev,q _ H2 s FT⟩
  |_=>exact(show False from q).elim
section
variable {X:Cx}{W:RC}{E:XK}{fr:Bool}{S:MB}{e:MR}{m:ME}
end
section
variable {X:Cx}{C:LC}{S S' Sb Sc:MB}{o a:MR}{w1 w2:Bool}{m1 m2:ME}{to ta:TE}{y z:Str}{n:Int}{jo vz py pz pi pos rp cp kp:Pos}{jy jz ji j:Nat}
end
section
variable {X:Cx}{W:RC}{E:XK}{tg qP:MR}{body:Nk}{m:HME}{mg:HMG}{mb:HMS}{pos:Pos}
end
section
variable {X:Cx}{W:RC}{E:XK}{e:MR}{es:MK}{ms:HMA}{ws:MP}{g:MU}{k:Nat}{f:Addr}{fd:Na}{ps:MD}{x:Str}{p pos:Pos}
end
section
variable {X:Cx}{C:LC}{S:MB}{mi:MI}{mg:MG}{mc:MT}{me:ME}
end
open Classical in
def hide(H:Hp)(R:Nf):Hp:=λa=>if a∈R then none else H a
def fq(h:a∈R):hide H R a=none:=if_pos h
def wR(h:a∉R):hide H R a=H a:=if_neg h
def xi:hide H []=H:=funext λa=>wR (by simp)
def cU:zl (hide H (p::R)) (hide H R):=λa o h=>by
 by_cases m:a∈p::R
 .rw[fq m]at h;cases h
 .rw[wR m]at h;rw[wR λz=>m (M8 _ z)];exact h
def C3{ι:Type}{Y:ι->Cx}(h:∀z,FM (Y z) C S e m)(hK:∀z,(Y z).K=C.W.K):∃te,(∀z,PE (Y z) e te)/\LFr C S te m:=
 ⟨λσ H Q=>∀z,(Classical.choose (h z (hK z))) σ H Q,λz pins s σ H Q I q=>(S4 (h z (hK z))).1 pins s σ H Q I (q z),λB P H σ ρ R Q q z=>(S4 (h z (hK z))).2 B P H σ ρ R Q q⟩
def C4(kvs:MY)(y:PV):Out PV:=match pk y with
 |some k=>.ok ((zK kvs k).getD .n)
 |none=>.wall
def Hd(m1 m2:ME):ME:=λρ=>(m1 ρ).bind λx=>match x with
 |.d kvs=>(m2 ρ).bind (C4 kvs)
 |_=>.wall
def FW(hu:X.A.units+1<cLine)(h1:EM X C S w1 o m1)(h2:EM X C S w2 e m2)(m:M1 X o "get" jo e vz):EM X C S false (.Call (.Attribute o "get" jo) [e] [] vz) (Hd m1 m2):=λhK=>by
 obtain⟨ta,a1,a2⟩:=h1 hK;obtain⟨tb,b1,b2⟩:=h2 hK;refine⟨_,uh hu a1 b1 m,λB P H σ ρ R Q q=>a2 B P H σ ρ R _ (zV q λx v H1 s1 r1 q1=>?_)⟩;cases x with
 |d kvs=>
  obtain⟨p,es,rfl,_,hd,rk⟩:=r1.weak;refine⟨p,rfl,.inl ⟨es,hd⟩,b2 B P H1 σ ρ (R.keep s1) _ (zV (o:=m2 ρ) (f:=C4 kvs) q1 λy u H2 s2 r2 q2=>?_)⟩;cases ek:pk y with
  |none=>
   have e:C4 kvs y=.wall:=by unfold C4;rw[ek]
   rw[e]at q2;exact q2.elim
  |some k=>
   have e:C4 kvs y=.ok ((zK kvs k).getD .n):=by unfold C4;rw[ek]
   rw[e]at q2;have eu:=Wd r2.weak ek;subst eu;have hd2:Rd H2 p (.dK es):=hd.elim (λz=>.inl (s2 _ _ z)) λ⟨o,z⟩=>.inr ⟨o,s2 _ _ z⟩;refine⟨KA es k,.inl ⟨es,k,hd2,rfl,rfl⟩,?_⟩;cases ed:zK kvs k with
   |none=>rw[ed]at q2;rw[rk.G0 ed];exact q2 _ H2 (zl.refl _) (RV.of rfl)
   |some x=>rw[ed]at q2;obtain⟨v,ev,rv⟩:=rk.get ed;rw[ev];exact q2 _ H2 (zl.refl _) (RV.of (rv.same s2))
 |_=>exact q1.elim
section
variable {X:Cx}{W:RC}{E:XK}{o a:MR}{m1 m2:HME}{pos jo vz:Pos}
end
section
variable {X:Cx}{W:RC}{E:XK}{fr:Bool}{S S1 Sb Sc:MB}{tg a0 b0:MR}{body:Nk}{mg:MG}{mb:MS}{pos ipos:Pos}{i j:Nat}
end
def pk2:List PV->Option (List Key)
 |[x,y]=>(pk x).bind λa=>(pk y).bind λb=>some [a,b]
 |_=>none
def Ww(s:zl H H')(h:Rd H p u):Rd H' p u:=(zl.fr (M:=λ_=>True) s).rd h trivial
def aI{k:Nt}:∀{kvs:Nw},KA (dtV kvs) k=(zK kvs k).map V.int
 |[]=>rfl
 |q::r=>by
  unfold dtV KA zK;rw[N5,a03,a03];by_cases c:q.1=k
  .simp only[c,decide_true];rfl
  .simp only[c,decide_false];exact aI (kvs:=r)
def C5:putK (dtV kvs) k (.int n)=dtV (dput kvs k n):=by
 have e:∀{kvs:Nw},(dtV kvs).any (λkv=>decide (kv.1=k))=kvs.any (λkv=>decide (kv.1=k))/\(dtV kvs).map (λkv=>if kv.1=k then(kv.1,V.int n)else kv)=dtV (kvs.map λkv=>if kv.1=k then(kv.1,n)else kv):=λ{kvs}=>by
  induction kvs with
  |nil=>exact⟨rfl,rfl⟩
  |cons q r ih=>
   unfold dtV at ih ⊢;refine⟨by rw[N5,a0i,a0i,ih.1],?_⟩;rw[N5,N5,N5,N5,ih.2];by_cases c:q.1=k
   .rw[if_pos c,if_pos c]
   .rw[if_neg c,if_neg c]
 unfold putK dput;rw[e.1];split
 .exact e.2
 .unfold dtV;rw[R4];rfl
section
variable {X:Cx}{C:LC}{S S' Sb Sc:MB}{e a b o:MR}{es:MK}{w w1 w2:Bool}{ws:MP}{m m1 m2:ME}{ms:MA}{pos p pos':Pos}{i x1:Nat}
def RVs.He(h:RVs C B S P H ws xs vs)(hk:pk2 xs=some ks):vs=ks.map kV/\vs.length<=sizeLine:=by
 have h:=h.weak
 match xs,hk with
 |[x,y],hk=>obtain⟨k1,h1,hk⟩:=O9.mp hk;obtain⟨k2,h2,hk⟩:=O9.mp hk;cases hk;obtain⟨v,r,rfl,r1,u,r',rfl,r2,e⟩:=h;cases(show r'=[]from e);rw[Wd r1 h1,Wd r2 h2];exact⟨rfl,by show 2<=sizeLine;decide⟩
def Bg:ME:=λ_=>.ok (.dt [])
def xj:FM X C S (.Dict [] [] pos) Bg:=λhK=>⟨_,uf,λB P H σ ρ R Q q=>λp hp=>q _ _ (zl.upd hp) ⟨p,rfl,hp,zd⟩⟩
def Lo(x:PV)(xs:MX):Out PV:=match x,pk2 xs with
 |.dt kvs,some ks=>wu ((zK kvs ks).map PV.i)
 |_,_=>.wall
def rg(m:ME)(ms:MA):ME:=λρ=>(m ρ).bind λx=>(ms ρ).bind λxs=>Lo x xs
def cV(hu:X.A.units+1<cLine)(h1:EM X C S w1 a m1)(h2:AM X C S ws es ms)(hs:V3 (.Tuple es x1 p):=by intro _ _;rfl):EM X C S false (.Subscript a (.Tuple es x1 p) pos) (rg m1 ms):=λhK=>by
 obtain⟨ta,a1,a2⟩:=h1 hK;obtain⟨tb,b1,b2⟩:=h2 hK;refine⟨_,BW (eZ hu) a1 (V1 b1) hs,λB P H σ ρ R Q q=>a2 B P H σ ρ R _ (zV q λx v H1 s1 r1 q1=>b2 B P H1 σ ρ (R.keep s1) _ (yM q1 λxs vs H2 s2 r2 q2=>?_))⟩;unfold Lo at q2;split at q2
 .rename_i kvs ks hk;obtain⟨y,hy,q3⟩:=y9 q2;obtain⟨n,hn,rfl⟩:=t0.mp hy;obtain⟨rfl,hl⟩:=r2.He hk;obtain⟨p,rfl,_,hr⟩:=r1.weak;refine⟨hl,λz hz=>⟨p,.int n,rfl,.inr ⟨_,_,z,Ww (zl.upd hz) (Ww s2 hr),rfl,zd,by rw[aI,hn];rfl⟩,q3 _ _ (zl.upd hz) (RV.of rfl)⟩⟩
 .exact q2.elim
def inT(neg:Bool)(ks:Nt):PV->Out PV
 |.dt kvs=>.ok (.b (xor neg (zK kvs ks).isSome))
 |_=>.wall
def nv(neg:Bool)(ms:MA)(m:ME):ME:=λρ=>(ms ρ).bind λxs=>match pk2 xs with
 |some ks=>(m ρ).bind (inT neg ks)
 |none=>.wall
def Bh(h2:LA C S ws ta ms)(h1:LE C S w1 tb m1):LE C S false (tOp (G7 C.W.K neg) (Es ta) tb) (nv neg ms m1):=λB P H σ ρ R Q q=>h2 B P H σ ρ R _ (yM q λxs vs H1 s1 r1 q1=>by
 split at q1
 .rename_i ks hk;obtain⟨rfl,hl⟩:=r1.He hk;refine⟨hl,λz hz=>h1 B P _ σ ρ ((R.keep s1).keep (zl.upd hz)) _ (zV (wt q1 (zl.upd hz)) λy u H2 s2 r2 q2=>?_)⟩;unfold inT at q2;split at q2
  .obtain⟨p,rfl,_,hr⟩:=r2.weak;exact .inr ⟨p,_,rfl,.inr ⟨_,_,z,hr,rfl,s2 _ _ zd,rfl⟩,by rw[aI,a06];exact q2 _ _ (zl.refl _) (RV.of rfl)⟩
  .exact q2.elim
 .exact q1.elim)
def rh(hu:X.A.units+1<cLine)(h1:AM X C S ws es ms)(h2:EM X C S w2 b m2)(hm:behindInMarks .In b=false:=by with_unfolding_all rfl):TM X C S (.Compare (.Tuple es x1 p) [.In] [b] pos) (yH (nv false ms m2)):=λhK=>by obtain⟨ta,a1,a2⟩:=h1 hK;obtain⟨tb,b1,b2⟩:=h2 hK;exact⟨_,eE (oO hu) (V1 a1) b1 hm,af (by rw[hK];exact Bh a2 b2)⟩
def cW(hu:X.A.units+1<cLine)(h1:AM X C S ws es ms)(h2:EM X C S w2 b m2)(hm:behindInMarks .NotIn b=false:=by with_unfolding_all rfl):TM X C S (.Compare (.Tuple es x1 p) [.NotIn] [b] pos) (yH (nv true ms m2)):=λhK=>by obtain⟨ta,a1,a2⟩:=h1 hK;obtain⟨tb,b1,b2⟩:=h2 hK;exact⟨_,eE (cE hu) (V1 a1) b1 hm,af (by rw[hK];exact Bh a2 b2)⟩
def ID(i:Nat)(ρ:Sto)(o:Out (List PV)):Option (Option PV)->PV->Out Fw
 |some (some (.dt kvs)),.i n=>o.bind λxs=>match pk2 xs with
  |some k=>if kvs.length<sizeLine then .ok (.nx (ρ.set i (some (.dt (dput kvs k n)))))else .wall
  |none=>.wall
 |_,_=>.wall
def cX(i:Nat)(ms:MA)(mv:ME):MS:=λρ=>(mv ρ).bind λv=>ID i ρ (ms ρ) ρ[i]? v
def ft(hu:X.A.units+1<cLine)(ho:PE X o (eC i))(hk:AM X C S ws es ms)(hv:EM X C S false e m2)(hi:S[i]?=some 2:=by rfl)(hs:swapsWith e (some (.Subscript o (.Tuple es x1 p) pos')) pos.line X.env=pure false:=by rfl):
  SM X C S S Sb Sc (.Assign [.Subscript o (.Tuple es x1 p) pos'] e pos) (cX i ms m2):=λhK=>by
 obtain⟨ta,a1,a2⟩:=hk hK;obtain⟨tv,b1,b2⟩:=hv hK;refine⟨_,eK hu ho (V1 a1) b1 hs,λB P H σ ρ R D q=>b2 B P H σ ρ R _ ?_⟩;unfold cX at q;revert q;cases m2 ρ with
 |ok y=>
  intro q v H1 sm1 rv;have R1:=R.keep sm1;have q:k9 C B S Sb Sc D (ID i ρ (ms ρ) ρ[i]? y):=q;unfold ID at q;split at q
  .rename_i kvs n hx q0;obtain⟨hσ,hp,hl⟩:=R1.at2 hi hx;have hp:H1 (P i)=some (.dT (dtV kvs)):=hp;cases(show v=.int n from rv.weak);refine⟨_,hσ,a2 B P H1 σ ρ R1 _ ?_⟩;revert q;cases ms ρ with
   |ok z=>
    intro q u H2 sm2 ru;have R2:=R1.keep sm2;have q:k9 C B S Sb Sc D (match pk2 z with
     |some k=>if kvs.length<sizeLine then .ok (.nx (ρ.set i (some (.dt (dput kvs k n)))))else .wall
     |none=>.wall):=q
    split at q
    .rename_i k hk;split at q
     .rename_i hz;obtain⟨rfl,hl2⟩:=ru.He hk;refine⟨hl2,λt ht=>?_⟩;have R3:=R2.keep (zl.upd (o:=.tup (k.map kV)) ht);have hp2:=zl.upd (o:=.tup (k.map kV)) ht _ _ (sm2 _ _ hp);refine⟨_,_,rfl,uc.t hp2 zd (by unfold dtV;rw[u8];exact hz),q P _ σ (R3.wr hi hl hσ (by exact id) ?_)⟩;show upd _ _ _ _=_;rw[zd,C5]
     .exact q.elim
    .exact q.elim
   |exc c fs=>exact id
   |wall=>exact id
  .exact q.elim
 |exc c fs=>exact id
 |wall=>exact id
end
section
variable {X:Cx}{W:RC}{E:XK}{o e:MR}{es:MK}{m:HME}{ms:HMA}{pos jo:Pos}{mn:Str}{n:Nat}
end
def IE{α:Type}{P:List α->Prop}{us:List α}(hl:us.length=6)(h:∀a b c d e f,P [a,b,c,d,e,f]):P us:=by
 match us,hl with|[a,b,c,d,e,f],_=>exact h a b c d e f
section
variable {X:Cx}{k:Nat}{f C:Addr}{fd:Na}{ps:MD}{sp:Sp}{x m:Str}{p pos jo:Pos}{e o:MR}{es:MK}{ta te:TE}{t:TA}{alts:Addr->Sp->Prop}
end
section
variable {X:Cx}{C:LC}{S S' S1 S2 Sb Sc:MB}{e o:MR}{es:MK}{ws:MP}{m:ME}{ms:MA}{pos p pos' jo:Pos}{x y mn:Str}{k i j:Nat}{f:Addr}{fd:Na}{ps:MD}{fr w:Bool}{g:MU}{m1 m2:MS}
end
end L2
namespace L2
open PySem PySem.W PyProof.Rows
def VO{α:Type}(P:NG)(f:ND):KasT α->(α->Prop)->Prop
 |.ret a,Q=>Q a
 |.ask i j k,Q=>P i/\P j/\VO P f (k (f i j)) Q
def wx{α β:Type}{P:NG}{f:ND}{g:α->KasT β}{Q:β->Prop}:∀{t:KasT α},VO P f t (λa=>VO P f (g a) Q)->VO P f (t.bind g) Q
 |.ret _,h=>h
 |.ask _ _ _,h=>⟨h.1,h.2.1,wx h.2.2⟩
def yU{α:Type}{P:NG}{f:ND}{Q Q':α->Prop}(hq:∀a,Q a->Q' a):∀{t:KasT α},VO P f t Q->VO P f t Q'
 |.ret _,h=>hq _ h
 |.ask _ _ _,h=>⟨h.1,h.2.1,yU hq h.2.2⟩
def rj{α:Type}{P:NG}{f:ND}{cmp:Nat->Nat->(Bool->Shared->Prop)->Shared->Prop}{J:Shared->Prop}(hc:∀i j C s,P i->P j->J s->(∀s',J s'->C (f i j) s')->cmp i j C s){Q:α->Prop}{R:α->Shared->Prop}(hq:∀a s,Q a->J s->R a s):∀{t:KasT α}{s:MH},J s->VO P f t Q->t.kasWp cmp R s
 |.ret a,s,hs,h=>hq a s h hs
 |.ask i j k,s,hs,h=>hc i j _ s h.1 h.2.1 hs λs' hs'=>rj hc hq hs' h.2.2
abbrev at0(p:Nr)(k:Nat):Nat:=p.getD k 0
def Jj:at0 p k=(p[k]?).getD 0:=by
 unfold at0;by_cases h:k<p.size
 .simp[Array.getD,h]
 .simp[Array.getD,h]
def aJ(hj:j<=p.size)(k:Nat):at0 (kas_rev p i j) k=if i<=k/\k<j then at0 p (i+j-1-k)else at0 p k:=by rw[Jj,Jj,Jj];unfold kas_rev;rw[getElem?_mirror_all hj];split<;>rfl
def Uz(hk:k<p.size)(hl:l<=k)(i:Nat):at0 (bubble p k (k-l)) i=if i=l then at0 p k else if l<i/\i<=k then at0 p (i-1)else at0 p i:=by
 rw[Jj,Jj,Jj,Jj,getElem?_bubble hk (k-l) (by omega),show k-(k-l)=l by omega];split
 .rfl
 .split<;>rfl
section
variable {O:KeyOrd}{key:Nat->O.α}{n:Nat}
abbrev kk(key:Nat->O.α)(p:Nr)(i:Nat):O.α:=key (at0 p i)
abbrev ans(key:Nat->O.α)(i j:Nat):Bool:=O.blt (key i) (key j)
structure Pm(n:Nat)(p:Nr):Prop where
 perm:p.toList.Perm (List.range n)
 size:p.size=n
def Pm.rev(h:Pm n p):Pm n (kas_rev p i j):=⟨(a1U.mp (mirror_perm p i j _)).trans h.perm,(kas_rev_size i j).trans h.size⟩
def Pm.bub(h:Pm n p):Pm n (bubble p i j):=⟨(a1U.mp (bubble_perm p i j)).trans h.perm,(bubble_size p i j).trans h.size⟩
def Pm.lt(h:Pm n p)(h0:0<n)(k:Nat):at0 p k<n:=by
 rw[Jj];by_cases hk:k<p.size
 .rw[getElem?_pos p k hk];have:p[k]∈p.toList:=by simp
  exact a0u.mp (h.perm.mem_iff.mp this)
 .rw[getElem?_neg p k hk];exact h0
def Up(key:Nat->O.α)(p:Nr)(m:Nat):Prop:=∀i j,i<=j->j<m->O.kle (kk key p i) (kk key p j)
def Dn(key:Nat->O.α)(p:Nr)(m:Nat):Prop:=∀i j,i<=j->j<m->O.kle (kk key p j) (kk key p i)
def rn{p:Nr}(hp:Pm n p)(h0:0<n):∀{f m:Nat},1<=m->m+f<=n->Up key p m->VO (·<n) (ans key) (kas_asc p f m) λr=>m<=r/\r<=m+f/\Up key p r/\(r<m+f->O.klt (kk key p r) (kk key p (r-1)))
 |0,m,_,_,hu=>⟨M7 _,M7 _,hu,λh=>absurd h (by omega)⟩
 |f+1,m,h1,hm,hu=>by
  refine⟨hp.lt h0 _,hp.lt h0 _,?_⟩;show VO _ _ (if O.blt (kk key p m) (kk key p (m-1))=true then _ else _) _;cases hc:O.blt (kk key p m) (kk key p (m-1))with
  |true=>exact⟨M7 _,by omega,hu,λ_=>hc⟩
  |false=>
   have hu':Up key p (m+1):=λi j hij hj=>by
    by_cases c:j=m
    .subst c;by_cases c2:i=j
     .subst c2;exact O.irrefl _
     .exact a2b (hu i (j-1) (by omega) (by omega)) hc
    .exact hu i j hij (by omega)
   exact yU (λr ⟨a,b,c,d⟩=>⟨by omega,by omega,c,λh=>d (by omega)⟩) (rn hp h0 (f:=f) (m:=m+1) (by omega) (by omega) hu')
structure D2(key:Nat->O.α)(n:Nat)(p:Nr)(m q:Nat):Prop where
 pm:Pm n p
 dn:Dn key p m
 le:m<=n
 qm:q+1<=m
 eq:∀k,m-(q+1)<=k->k<m->kk key p k=kk key p (m-1)
def D2.alike(h:D2 key n p m q)(k:Nat):kk key (kas_rev p (m-(q+1)) m) k=kk key p k:=by
 have hm:=h.le;have hs:=h.pm.size;have hq:=h.qm;unfold kk;rw[aJ (by omega)];split
 .rename_i c;have e1:=h.eq (m-(q+1)+m-1-k) (by omega) (by omega);have e2:=h.eq k c.1 c.2;exact e1.trans e2.symm
 .rfl
def fu(h0:0<n):∀{f m q:Nat}{p:Nr},m+f<=n->D2 key n p m q->VO (·<n) (ans key) (kas_desc f p m q) λr=>m<=r.2.1/\r.2.1<=m+f/\D2 key n r.1 r.2.1 r.2.2
 |0,m,q,p,_,h=>⟨M7 _,M7 _,h⟩
 |f+1,m,q,p,hm,h=>by
  have hq:=h.qm;refine⟨h.pm.lt h0 _,h.pm.lt h0 _,?_⟩;show VO _ _ (if O.blt (kk key p m) (kk key p (m-1))=true then _ else _) _;have dn1:∀{p':Nr},(∀k,kk key p' k=kk key p k)->O.kle (kk key p m) (kk key p (m-1))->Dn key p' (m+1):=λ{p'} he hk i j hij hj=>by
   rw[he,he];by_cases c:j=m
   .subst c;by_cases c2:i=j
    .subst c2;exact O.irrefl _
    .exact a2b hk (h.dn i (j-1) (by omega) (by omega))
   .exact h.dn i j hij (by omega)
  cases hc:O.blt (kk key p m) (kk key p (m-1))with
  |true=>
   have hk:O.kle (kk key p m) (kk key p (m-1)):=a2c hc;have go:∀{p':Nr},Pm n p'->(∀k,kk key p' k=kk key p k)->VO (·<n) (ans key) (kas_desc f p' (m+1) 0) λr=>m<=r.2.1/\r.2.1<=m+(f+1)/\D2 key n r.1 r.2.1 r.2.2:=λ{p'} hp he=>
    yU (λr ⟨a,b,c⟩=>⟨by omega,by omega,c⟩) (fu h0 (f:=f) (m:=m+1) (q:=0) (p:=p') (by omega) ⟨hp,dn1 he hk,by omega,by omega,λk k1 k2=>by rw[show k=m+1-1 by omega]⟩)
   show VO _ _ (if q>0 then kas_desc f (kas_rev p (m-(q+1)) m) (m+1) 0 else kas_desc f p (m+1) 0) _;by_cases c:q>0
   .rw[if_pos c];exact go h.pm.rev h.alike
   .rw[if_neg c];exact go h.pm λ_=>rfl
  |false=>
   refine⟨h.pm.lt h0 _,h.pm.lt h0 _,?_⟩;show VO _ _ (if O.blt (kk key p (m-1)) (kk key p m)=true then _ else _) _;cases hd:O.blt (kk key p (m-1)) (kk key p m)with
   |true=>exact⟨M7 _,by show m<=m+(f+1);omega,h⟩
   |false=>
    have e:kk key p m=kk key p (m-1):=O.total _ _ hc hd;refine yU (λr ⟨a,b,c⟩=>⟨by omega,by omega,c⟩) (fu h0 (f:=f) (m:=m+1) (q:=q+1) (p:=p) (by omega) ⟨h.pm,dn1 (λ_=>rfl) hd,by omega,by omega,λk k1 k2=>?_⟩);by_cases c:k=m
    .rw[c];rfl
    .rw[show m+1-1=m by omega,e];exact h.eq k (by omega) (by omega)
abbrev IF(key:Nat->O.α)(n:Nat):Nat×Array Nat->Prop:=λr=>Pm n r.2/\1<=r.1/\r.1<=n/\Up key r.2 r.1
def il(h0:0<n)(hp:Pm n p)(h1:1<=m)(hm:m<=n)(hd:Dn key p m):VO (·<n) (ans key) (kas_tail3 m n p) (IF key n):=by
 have hs:=hp.size;have hu:Up key (kas_rev p 0 m) m:=λi j hij hj=>by unfold kk;rw[aJ (by omega),aJ (by omega),if_pos ⟨by omega,by omega⟩,if_pos ⟨by omega,by omega⟩];exact hd (0+m-1-j) (0+m-1-i) (by omega) (by omega)
 refine wx (yU (λr ⟨a,b,c,_⟩=>?_) (rn hp.rev h0 (f:=n-m) (m:=m) h1 (by omega) hu));exact⟨hp.rev,by show 1<=r;omega,by show r<=n;omega,c⟩
def Wx(h0:0<n)(hp:Pm n p)(h1:1<=m)(hm:m+1<=n)(he:∀k,k<m->kk key p k=kk key p (m-1))(hl:O.klt (kk key p m) (kk key p (m-1))):VO (·<n) (ans key) (kas_descPart m n p) (IF key n):=by
 have hs:=hp.size;have hf:D2 key n p (m+1) 0:=⟨hp,λi j hij hj=>by
  by_cases c:j=m
  .subst c;by_cases c2:i=j
   .subst c2;exact O.irrefl _
   .rw[he i (by omega)];exact a2c hl
  .rw[he i (by omega),he j (by omega)];exact O.irrefl _,by omega,by omega,λk k1 k2=>by rw[show k=m+1-1 by omega]⟩
 refine wx (yU (λr ⟨a,b,c⟩=>?_) (fu h0 (f:=n-(m+1)) (m:=m+1) (q:=0) (p:=p) (by omega) hf));have cm:=c.qm;by_cases hq:r.2.2>0
 .rw[if_pos hq];exact il h0 c.pm.rev (by omega) c.le λi j hij hj=>by rw[c.alike,c.alike];exact c.dn i j hij hj
 .rw[if_neg hq];exact il h0 c.pm (by omega) c.le c.dn
def xk(h0:0<n)(hp:Pm n p):VO (·<n) (ans key) (kas_count n p) (IF key n):=by
 have hs:=hp.size;refine wx (yU (λm ⟨a,b,c,d⟩=>?_) (rn (key:=key) hp h0 (f:=n-1) (m:=1) (M7 _) (by omega) λi j hij hj=>by rw[show i=j by omega];exact O.irrefl _));by_cases e1:(m==n)=true
 .rw[if_pos e1];exact⟨hp,a,by show m<=n;omega,c⟩
 .rw[if_neg e1];have hmn:m<n:=by have:m≠n:=λq=>e1 (by rw[q];exact a0V _);omega
  have hl:=d (by omega);by_cases e2:m>1
  .rw[if_pos e2];refine⟨hp.lt h0 _,hp.lt h0 _,?_⟩;show VO _ _ (if O.blt (kk key p 0) (kk key p (m-1))=true then _ else _) _;cases hc:O.blt (kk key p 0) (kk key p (m-1))with
   |true=>exact⟨hp,a,by show m<=n;omega,c⟩
   |false=>
    have e:kk key p 0=kk key p (m-1):=O.total _ _ hc (c 0 (m-1) (by omega) (by omega));have al:∀k,k<m->kk key p k=kk key p (m-1):=λk hk=>O.total _ _ (by rw[<- e];exact c 0 k (by omega) hk) (c k (m-1) (by omega) (by omega));have rv:∀k,kk key (kas_rev p 0 m) k=kk key p k:=λk=>by
     unfold kk;rw[aJ (by omega)];split
     .rename_i z;exact(al (0+m-1-k) (by omega)).trans (al k z.2).symm
     .rfl
    exact Wx h0 hp.rev a hmn (λk hk=>by rw[rv,rv];exact al k hk) (by rw[rv,rv];exact hl)
  .rw[if_neg e2];exact Wx h0 hp a hmn (λk hk=>by rw[show k=m-1 by omega]) hl
def ve{p:Nr}(hp:Pm n p)(h0:0<n){k:Nat}(hu:Up key p k):∀{f l r:Nat},l<=r->r<=k->r-l<=f->(∀i,i<l->O.kle (kk key p i) (kk key p k))->(∀i,r<=i->i<k->O.klt (kk key p k) (kk key p i))->
  VO (·<n) (ans key) (kas_place p k f l r) λl=>l<=k/\(∀i,i<l->O.kle (kk key p i) (kk key p k))/\∀i,l<=i->i<k->O.klt (kk key p k) (kk key p i)
 |0,l,r,lr,rk,hf,h1,h2=>⟨by omega,h1,λi hi=>h2 i (by omega)⟩
 |f+1,l,r,lr,rk,hf,h1,h2=>by
  show VO _ _ (if l ≥ r then KasT.ret l else _) _;by_cases c:l ≥ r
  .rw[if_pos c];exact⟨by omega,h1,λi hi=>h2 i (by omega)⟩
  .rw[if_neg c];refine⟨hp.lt h0 _,hp.lt h0 _,?_⟩;show VO _ _ (if O.blt (kk key p k) (kk key p ((l+r) / 2))=true then _ else _) _;cases hc:O.blt (kk key p k) (kk key p ((l+r) / 2))with
   |true=>exact ve hp h0 hu (f:=f) (l:=l) (r:=(l+r) / 2) (by omega) (by omega) (by omega) h1 λi i1 i2=>KeyOrd.klt_of_klt_of_kle hc (hu _ _ i1 i2)
   |false=>exact ve hp h0 hu (f:=f) (l:=(l+r) / 2+1) (r:=r) (by omega) rk (by omega) (λi hi=>a2b (hu i ((l+r) / 2) (by omega) (by omega)) hc) h2
def Bi(h0:0<n):∀{f k:Nat}{p:Nr},Pm n p->k+f<=n->Up key p k->VO (·<n) (ans key) (kas_bin f p k) λp'=>Pm n p'/\Up key p' (k+f)
 |0,k,p,hp,_,hu=>⟨hp,hu⟩
 |f+1,k,p,hp,hk,hu=>by
  have hs:=hp.size;refine wx (yU (λl ⟨a,b,c⟩=>?_) (ve hp h0 hu (f:=k) (l:=0) (r:=k) (S7 _) (M7 _) (by omega) (λi hi=>absurd hi (a2n _)) λi i1 i2=>absurd i2 (by omega)));refine yU (λp' ⟨x,y⟩=>⟨x,by rw[show k+(f+1)=k+1+f by omega];exact y⟩) (Bi h0 (f:=f) (k:=k+1) hp.bub (by omega) λi j hij hj=>?_);unfold kk;rw[Uz (by omega) a,Uz (by omega) a];by_cases i1:i=l
  .rw[if_pos i1];by_cases j1:j=l
   .rw[if_pos j1];exact O.irrefl _
   .rw[if_neg j1,if_pos ⟨by omega,by omega⟩];exact a2c (c (j-1) (by omega) (by omega))
  .rw[if_neg i1];by_cases j1:j=l
   .rw[if_pos j1,if_neg (by omega)];exact b i (by omega)
   .rw[if_neg j1];by_cases i2:l<i/\i<=k
    .rw[if_pos i2,if_pos ⟨by omega,by omega⟩];exact hu (i-1) (j-1) (by omega) (by omega)
    .rw[if_neg i2];by_cases j2:l<j/\j<=k
     .rw[if_pos j2];exact hu i (j-1) (by omega) (by omega)
     .rw[if_neg j2];exact hu i j hij (by omega)
def rA(h0:0<n):VO (·<n) (ans key) (kas_sort n) λp=>Pm n p/\Up key p n:=by
 refine wx (yU (λr ⟨a,b,c,d⟩=>?_) (xk (key:=key) h0 (p:=List.toArray (List.range n)) ⟨List.Perm.refl _,by simp⟩));by_cases h:r.1<n
 .rw[if_pos h,show max r.1 1=r.1 by omega];refine yU (λp ⟨x,y⟩=>⟨x,by rw[show n=r.1+(n-r.1) by omega];exact y⟩) (Bi h0 (f:=n-r.1) (k:=r.1) a (by omega) d)
 .rw[if_neg h];exact⟨a,by rw[show n=r.1 by omega];exact d⟩
end
end L2
namespace L2
open PySem PySem.Spec PyProof.Rows PySem.W
abbrev XA:=Int×Int×Str
def C6(x y:XA):Bool:=if x.1=y.1 then(if x.2.1=y.2.1 then decide (x.2.2.cps.toList<y.2.2.cps.toList)else decide (x.2.1<y.2.1))else decide (x.1<y.1)
def C7{a b:Str}(h:a.cps.toList=b.cps.toList):a=b:=by obtain⟨x⟩:=a;obtain⟨y⟩:=b;exact T6 Str.mk (Array.toList_inj.mp h)
def D3:KeyOrd where
 α:=XA
 blt:=C6
 irrefl a:=by unfold C6;rw[if_pos rfl,if_pos rfl];exact strKind.irrefl _
 trans a b c h1 h2:=by
  unfold C6 at *;by_cases e1:a.1=b.1
  .rw[if_pos e1]at h1;by_cases e2:b.1=c.1
   .rw[if_pos e2]at h2;rw[if_pos (e1.trans e2)];by_cases f1:a.2.1=b.2.1
    .rw[if_pos f1]at h1;by_cases f2:b.2.1=c.2.1
     .rw[if_pos f2]at h2;rw[if_pos (f1.trans f2)];exact strKind.trans _ _ _ h1 h2
     .rw[if_neg f2]at h2;rw[if_neg (by rw[f1];exact f2),f1];exact h2
    .rw[if_neg f1]at h1;by_cases f2:b.2.1=c.2.1
     .rw[if_pos f2]at h2;rw[if_neg (by rw[<- f2];exact f1),<- f2];exact h1
     .rw[if_neg f2]at h2;have h1:=S6 h1;have h2:=S6 h2;rw[if_neg (by omega)];exact O0 (by omega)
   .rw[if_neg e2]at h2;rw[if_neg (by rw[e1];exact e2),e1];exact h2
  .rw[if_neg e1]at h1;have h1:=S6 h1;by_cases e2:b.1=c.1
   .rw[if_neg (by omega)];exact O0 (by omega)
   .rw[if_neg e2]at h2;have h2:=S6 h2;rw[if_neg (by omega)];exact O0 (by omega)
 negTrans a b c h:=by
  unfold C6 at *;by_cases e1:a.1=b.1
  .rw[if_pos e1];by_cases e2:b.1=c.1
   .rw[if_pos (e1.trans e2)]at h;rw[if_pos e2];by_cases f1:a.2.1=b.2.1
    .rw[if_pos f1];by_cases f2:b.2.1=c.2.1
     .rw[if_pos (f1.trans f2)]at h;rw[if_pos f2];exact strKind.negTrans _ _ _ h
     .rw[if_neg (by rw[f1];exact f2)]at h;rw[if_neg f2];exact .inr (by rw[<- f1];exact h)
    .rw[if_neg f1];by_cases f2:b.2.1=c.2.1
     .rw[if_neg (by rw[<- f2];exact f1)]at h;exact .inl (by rw[f2];exact h)
     .rw[if_neg f2];by_cases g:a.2.1<b.2.1
      .exact .inl (O0 g)
      .by_cases f3:a.2.1=c.2.1
       .exact .inr (O0 (by omega))
       .rw[if_neg f3]at h;have h:=S6 h;exact .inr (O0 (by omega))
   .rw[if_neg (by rw[e1];exact e2)]at h;rw[if_neg e2];exact .inr (by rw[<- e1];exact h)
  .rw[if_neg e1];by_cases g:a.1<b.1
   .exact .inl (O0 g)
   .refine .inr ?_;by_cases e2:b.1=c.1
    .rw[if_neg (by rw[<- e2];exact e1)]at h;have h:=S6 h;omega
    .rw[if_neg e2];by_cases f3:a.1=c.1
     .exact O0 (by omega)
     .rw[if_neg f3]at h;have h:=S6 h;exact O0 (by omega)
 total a b h1 h2:=by
  unfold C6 at *;by_cases e1:a.1=b.1
  .rw[if_pos e1]at h1;rw[if_pos e1.symm]at h2;by_cases f1:a.2.1=b.2.1
   .rw[if_pos f1]at h1;rw[if_pos f1.symm]at h2;have:=C7 (strKind.total _ _ h1 h2);exact Prod.ext e1 (Prod.ext f1 this)
   .rw[if_neg f1]at h1;rw[if_neg (Ne.symm f1)]at h2;have h1:=a1m h1;have h2:=a1m h2;omega
  .rw[if_neg e1]at h1;rw[if_neg (Ne.symm e1)]at h2;have h1:=a1m h1;have h2:=a1m h2;omega
def Hf(h:Heap)(v:Value)(k:XA):Prop:=∃a o n t1 t2 t3,v=.ref a/\h.get? a=some o/\o.cls=.type "tuple"/\o.data=.seq #[.int k.1 t1,.int k.2.1 t2,.str k.2.2 t3] n
section
variable {prog:MV}{w:M_}{A:Nb}{E:MC}{s:MH}
def lt3(h1:Hf s.heap x k1)(h2:Hf s.heap y k2)(h:Q (C6 k1 k2) s):wpAny (model prog w) A (keyLt' (tuples' true) x y) Q E s:=by
 obtain⟨a,o,n,t1,t2,t3,rfl,ho,_,hd⟩:=h1;obtain⟨b,p,m,u1,u2,u3,rfl,hp,_,hq⟩:=h2;refine kat_lt ho hd hp hq ?_;unfold C6 at h;refine kat_cons (a13 ?_);by_cases e1:k1.1=k2.1
 .rw[if_pos e1]at h;rw[show(k1.1==k2.1)=true from R8.mpr e1];refine kat_yes (kat_cons (a13 ?_));by_cases e2:k1.2.1=k2.2.1
  .rw[if_pos e2]at h;rw[show(k1.2.1==k2.2.1)=true from R8.mpr e2];refine kat_yes (kat_cons (wpAny_eqBool_str ?_));by_cases e3:k1.2.2=k2.2.2
   .rw[O0 e3];refine kat_yes (kat_nil ?_);rw[e3,show decide (k2.2.2.cps.toList<k2.2.2.cps.toList)=false from strKind.irrefl _]at h;exact h
   .rw[N8 e3];exact kat_no (kat_one _ _ (lt_str h))
  .rw[if_neg e2]at h;rw[show(k1.2.1==k2.2.1)=false from T7.mpr e2];exact kat_no (kat_one _ _ (lt_int h))
 .rw[if_neg e1]at h;rw[show(k1.1==k2.1)=false from T7.mpr e1];exact kat_no (oneLt_int h)
def cY(h:Heap):List Value->List XA->Prop
 |[],[]=>True
 |v::vs,k::ks=>Hf h v k/\cY h vs ks
 |_,_=>False
def cY.get(d:XA):∀{vs:MJ}{ks:List XA}{i:Nat},cY h vs ks->i<ks.length->Hf h (vs.getD i .none) (ks.getD i d):=by
 intro vs
 induction vs with
 |nil=>
  intro ks i t hi;cases ks with
  |nil=>exact absurd hi (a2n _)
  |cons k ks=>exact t.elim
 |cons v vs ih=>
  intro ks i t hi;cases ks with
  |nil=>exact t.elim
  |cons k ks=>
   cases i with
   |zero=>exact t.1
   |succ i=>exact ih (ks:=ks) (i:=i) t.2 (Nat.lt_of_succ_lt_succ hi)
def cY.kat{h:Heap}:∀{vs:MJ}{ks:List XA},cY h vs ks->∃fs:List Value,KatTups h vs fs/\fs.length=ks.length/\∀v∈fs,∃n t,v=.int n t
 |[],[],_=>⟨[],trivial,rfl,λv h=>by cases h⟩
 |_::_,_::_,⟨⟨a,o,n,t1,t2,t3,e,ho,hc,hd⟩,t⟩=>by obtain⟨fs,f1,f2,f3⟩:=cY.kat t;exact⟨_::fs,⟨⟨a,o,_,n,e,ho,hc,hd,rfl⟩,f1⟩,by rw[v4,v4,f2],λv hv=>(O5.mp hv).elim (λe=>⟨_,_,e⟩) (f3 v)⟩
 |[],_::_,t=>t.elim
 |_::_,[],t=>t.elim
def IG(t:cY s.heap vs ks)(h0:0<ks.length)(h:Q (tuples' true) s):wpAny (model prog w) A (keyKind' vs.toArray) Q E s:=by obtain⟨fs,f1,f2,f3⟩:=t.kat;refine kat_kind (T:=.type "int") f1 (by omega) (λv hv=>?_) (by decide) (by rw[show((Value.type "int") != Value.type "tuple")=true by decide];exact h);obtain⟨n,t,rfl⟩:=f3 v hv;exact .now
end
section
variable {X:Cx}{pins:My}{σ:St}{H:Hp}{s:MH}{h':Heap}
def Inv.IH(I:Inv X pins σ H s)(k:∀b o,b≠it->s.heap.get? b=some o->h'.get? b=some o)(hn:H it=none)(hL:it≠X.env.locals)
  (h1:it∈X.ex\/X.s₀.heap.objs.size<=it) (h2:∀x c,X.env.cells.lookup x=some c->c≠it) (h3:∀p∈X.pn++pins,p.1≠it) (new:yF X.prog X.w (upd H it o) h' it o):Inv X pins σ (upd H it o) { s with heap:=h',toks:=t' }:=by
 have nit:∀b u,H b=some u->b≠it:=λb u e z=>by rw[z,hn]at e;cases e
 have nc:∀b,b∉[it]->b≠it:=λb hc z=>hc (by simp[z]);refine I.step (g':=s.gens) (d':=s.drawn) (ch:=[it]) (λb hb=>?_) (λb o _ _ hc e _=>k b o (nc b hc) e) (λb o _ _ hc e _=>⟨o.slots,k b o (nc b hc) e⟩) (λb _ hc _ n=>by rw[zg (nc b hc)];exact n)
  (λb o hc e=>⟨o,k b o (nc b hc) e⟩) (λb xs e=>by rw[zg (nit b _ e)];exact e) (λb _ _ e=>by rw[zg (nit b _ e)];exact e) (λb ps e=>⟨#[],by rw[zg (nit b _ e),e];simp⟩) (λm hm=>?_) (λb u e=>?_) I.bare
 .have e:b=it:=by simpa using hb
  subst e;exact⟨h1,hL,h2,h3⟩
 .obtain⟨o,es,ep,ho,r⟩:=hm;exact⟨o,es,ep,k _ o (Ne.symm hL) ho,r⟩
 .by_cases hb:b=it
  .subst hb;rw[zd]at e;cases e;exact new
  .rw[zg hb]at e;refine(I.hok b u e).nj (λc v hc q=>k c v ?_ q) (λc q=>by rw[zg (nit c _ q)];exact q) λc xs q=>by rw[zg (nit c _ q)];exact q
   rcases hc with z|z
   .rw[z];exact nit b u e
   .exact nit c _ z
structure xl(X:Cx)(pins:My)(a:Addr):Prop where
 loc:a≠X.env.locals
 fs:a∉X.fs
 ex:a∈X.ex\/X.s₀.heap.objs.size<=a
 cel:∀x c,X.env.cells.lookup x=some c->c≠a
 pin:∀p∈X.pn++pins,p.1≠a
def Inv.Lp{H':Hp}(I:Inv X pins σ H s)(hb:s.heap.objs.size<=b):xl X pins b:=by have:=I.DT (H':=λ_=>none) hb rfl;exact⟨this.2.1,this.2.2.1,this.2.2.2.1,this.2.2.2.2.1,this.2.2.2.2.2⟩
def Inv.Hg(I:Inv X pins σ H s)(w:xl X pins a)(hn:H a=none)(ho:s.heap.get? a=some o)(hc:∀v,o.data≠.cell v):Inv X (pins++[(a,o)]) σ H s:=
 I.VW λp hp=>(R9.mp hp).elim (λz=>I.pin p (O3 _ z)) λz=>by rw[O7.mp z];exact⟨ho,hn,w.loc,w.fs,hc⟩
def Inv.at1(I:Inv X (pins++[(a,o)]) σ H s):s.heap.get? a=some o/\H a=none:=by have:=I.pin (a,o) (O3 _ (O3 _ M3));exact⟨this.1,this.2.1⟩
end
def rB(sp:Sp):List V->List V->Hp->(List V->Hp->Prop)->Prop
 |[],acc,H,Q=>Q acc H
 |v::vs,acc,H,Q=>sp [v] H (λz H'=>rB sp vs (acc++[z]) H' Q) (λ_ _ _=>False)
def XB(K:Nh)(H:Hp):List V->List XA->Prop
 |[],[]=>True
 |z::zs,k::ks=>(∃p,z=.ref p/\SqT K H p [.int k.1,.int k.2.1,.str k.2.2])/\XB K H zs ks
 |_,_=>False
def XB.len{K:Nh}{H:Hp}:∀{zs:ML}{ks:List XA},XB K H zs ks->zs.length=ks.length
 |[],[],_=>rfl
 |_::_,_::_,t=>by rw[v4,v4,XB.len t.2]
 |[],_::_,t=>t.elim
 |_::_,[],t=>t.elim
def XB.mI{X:Cx}{pins:My}{σ:St}{H:Hp}{s:MH}(I:Inv X pins σ H s):∀{zs:ML}{ks:List XA}{us:MJ},XB X.K H zs ks->Vals zs us->cY s.heap us ks
 |[],[],_,_,.nil=>trivial
 |_::_,k::_,_,⟨⟨p,e,hq⟩,t⟩,.cons r rs=>by
  subst e;cases r;refine⟨?_,XB.mI I t rs⟩;obtain⟨its,r',⟨o,ho,hc,n,hd⟩,_⟩:=I.tuple hq;cases r' with
  |cons r1 r'=>cases r' with
   |cons r2 r'=>cases r' with
    |cons r3 r'=>cases r';obtain⟨t1,rfl⟩:=r1;obtain⟨t2,rfl⟩:=r2;obtain⟨t3,rfl⟩:=r3;exact⟨p,o,n,t1,t2,t3,rfl,ho,hc,hd⟩
 |[],_::_,_,t,_=>t.elim
 |_::_,[],_,t,_=>t.elim
def Srt(kz:List XA)(q:MB):Prop:=q.Perm (List.range kz.length)/\q.Pairwise λi j=>D3.kle (kz.getD i (0,0,"")) (kz.getD j (0,0,""))
def rC(sp:Sp)(K:Nh)(ys:ML)(H:Hp)(Q:VK):Prop:=ys.length<64/\rB sp ys [] H λzs H'=>∃kz:List XA,kz.length=ys.length/\XB K H' zs kz/\∀(q:MB) a,Srt kz q->H' a=none->Q (.ref a) (upd H' a (.lst (q.map λi=>ys.getD i .non)))
def Bj(hp:Pm kz.length p)(hu:Up (O:=D3) (λi=>kz.getD i (0,0,"")) p kz.length):Srt kz p.toList:=by
 refine⟨hp.perm,?_⟩;rw[a12];intro i j hi hj hij;have hs:=hp.size;rw[a0X]at hi hj;have:=hu i j (a1j hij) (by omega);have e:∀k (hk:k<p.size),at0 p k=p.toList[k]'(by rw[a0X];exact hk):=λk hk=>by rw[Jj,getElem?_pos p k hk];simp
 unfold kk at this;rw[e i hi,e j hj]at this;exact this
section
variable {X:Cx}{k:Nat}{f:Addr}{fd:Na}{ps:MD}{sp:Sp}
def xm(F:y8 X.prog X.w X.K X.mg X.base (CXe X.prog X.w) k f fd ps sp)(hr:qQ k A)(hA:nW X.prog X.w X.K X.mg X.base A X.stack s H)(hb:Binds X.K fd ps [])
  (I:Inv X pins σ H s) (r:RelV v u) (h:sp [v] H Q (λ_ _ _=>False)):wpAny (NO X) A (call (.ref f) [u]) (EP X pins σ Q) E s:=by
 have r2:Vals [v] [u]:=.cons r .nil;have hl:([u]++[]).length=ps.length:=by rw[P4,<- r2.length];exact F.len _ _ _ _ h
 have bd:=hb s [u] I.kIn hl;rw[P4]at bd;refine a0G (a0J (F.run A X.stack s H ⟨[u],[]⟩ [u] [v] Q _ hr hA bd r2 h) λr s' hq=>?_);cases r with
 |error e=>exact(Wm hq).elim
 |ok fl=>
  cases fl with
  |ret u=>exact I.after hq
  |next=>exact False.elim hq
  |brk=>exact False.elim hq
  |cont=>exact False.elim hq
def KC(X:Cx)(k:Nat)(lp:My)(f:Addr)(sp:Sp):Prop:=∀{pins:My}{σ:St}{H:Hp}{s:MH}{Q:VK}{E:MC}{A:Nb}{u:Value}{v:V},(∀p∈lp,p∈pins)->qQ k A->nW X.prog X.w X.K X.mg X.base A X.stack s H->Inv X pins σ H s->RelV v u->sp [v] H Q (λ_ _ _=>False)->wpAny (NO X) A (call (.ref f) [u]) (EP X pins σ Q) E s
def II(F:y8 X.prog X.w X.K X.mg X.base (CXe X.prog X.w) k f fd ps sp)(hb:Binds X.K fd ps []):KC X k [] f sp:=λ_ hr hA I r h=>xm F hr hA hb I r h
end
section
variable {X:Cx}{k:Nat}{f:Addr}{sp:Sp}
def ip{pins:My}{σ:St}{A:Nb}{E:MC}{kS:Addr}{Q0:List V->Hp->Prop}{body:Value->PUnit->Sem (ForInStep PUnit)}{lp:My}(F:KC X k lp f sp)(hlp:∀p∈lp,p∈pins)(hr:qQ k A)(hA:A.frames=X.A.frames)
  (w:xl X pins kS)
  (J3:∀x s (C:Shared->Prop),wpAny (NO X) A (call (.ref f) [x]) (λz s'=>wpAny (NO X) A (Builtin.List.listUpdate (.ref kS) (·.push z)) (λ_ s''=>C s'') (λ_ _=>False) s') (λ_ _=>False) s->wpAny (NO X) A (body x ⟨⟩) (λr s'=>r=.yield ⟨⟩/\C s') E s):
  ∀{ys:ML}{its:MJ}{acc:ML}{us:MJ}{e:Nat}{H:Hp}{s:MH},acc.length+ys.length<64->Vals ys its->Vals acc us->Inv X (pins++[(kS,seqObj "list" us.toArray e)]) σ H s->rB sp ys acc H Q0->
   wpAny (NO X) A (forIn its PUnit.unit body) (λ_ s'=>∃zs us' e' H',zs.length=acc.length+ys.length/\Vals zs us'/\Inv X (pins++[(kS,seqObj "list" us'.toArray e')]) σ H' s'/\Q0 zs H') E s
 |[],_,acc,us,e,H,s,_,.nil,ra,I,h=>by rw[List.forIn_nil];exact M9 ⟨acc,us,e,H,rfl,ra,I,h⟩
 |v::ys,_,acc,us,e,H,s,hl,.cons (b:=u) (l₂:=its) r rs,ra,I,h=>by
  rw[v4]at hl;have hul:=ra.length;rw[List.forIn_cons];refine f8 (T2 (J3 u s (λs'=>∃(zs:(V×Nat)×Value) (H':Hp),Inv X (pins++[(kS,seqObj "list" (us++[zs.2]).toArray zs.1.2)]) σ H' s'/\RelV zs.1.1 zs.2/\rB sp ys (acc++[zs.1.1]) H' Q0) ?_) (λq s' hq=>?_) λ_ _ x=>x)
  .have A0:nW X.prog X.w X.K X.mg X.base A X.stack s H:=⟨hA.trans I.nr.frames,I.nr.mod,I.nr.bs,I.nr.bsz,I.nr.eB,I.nr.frf,I.nr.hok,I.nr.bare⟩;refine T2 (F (λp hp=>a0R _ (hlp p hp)) hr A0 I r h) (λz s1 ⟨y,H1,I1,r1,q1⟩=>?_) λ_ _ x=>x;have a1:=I1.at1;have J1:Inv X pins σ H1 s1:=I1.kf;obtain⟨e2,he2⟩:∃e2,(s1.heap.update kS (Obj.mapSeq (·.push z))).get? kS=some (seqObj "list" (us++[z]).toArray e2):=⟨_,by
    have:=get?_update_seq a1.1 (·.push z);rw[show us.toArray.push z=(us++[z]).toArray by simp]at this;exact this⟩
   refine a1V a1.1 rfl ?_ (by rw[O4,a0e];omega) (P7 (a1A (Array.size_push ..)) (by rw[O4,a0e];omega));have J2:Inv X pins σ H1 { s1 with heap:=s1.heap.update kS (Obj.mapSeq (·.push z)),toks:=s1.toks }:=J1.turned (λb o hb ho=>(P8 s1.heap _ (Ne.symm hb)).trans ho) a1.2 w.loc w.ex w.cel w.pin;exact⟨((y,e2),z),H1,J2.Hg w a1.2 he2 (λv h=>by cases h),r1,q1⟩
  .obtain⟨rfl,zs,H',I',r',q'⟩:=hq;show wpAny (NO X) A (forIn its PUnit.unit body) _ E s';refine T2 (ip F hlp hr hA w J3 (ys:=ys) (acc:=acc++[zs.1.1]) (us:=us++[zs.2]) (by rw[O6,a08];omega) rs (ra.append (.cons r' .nil)) I' q') (λ_ s2 ⟨zs',us',e',H2,hl',h2,h3,h4⟩=>⟨zs',us',e',H2,?_,h2,h3,h4⟩) λ_ _ x=>x;rw[hl',O6,a08,v4];omega
def Vals.getD(r:Vals ys its)(i:Nat):RelV (ys.getD i .non) (its.getD i .none):=by
 induction r generalizing i with
 |nil=>exact rfl
 |cons r rs ih=>
  cases i with
  |zero=>exact r
  |succ i=>exact ih i
def aL{ys:ML}{its:MJ}(r:Vals ys its):∀q:List Nat,Vals (q.map λi=>ys.getD i .non) (q.map λi=>its.getD i .none)
 |[]=>.nil
 |i::q=>.cons (r.getD i) (aL r q)
end
section
variable {X:Cx}{k:Nat}{f:Addr}{fd:Na}{ps:MD}{sp:Sp}
def cZ{pins:My}{σ:St}{A:Nb}{E:MC}{kS D:Addr}{e e1:Nat}{H:Hp}{s:MH}{us outU:MJ}{outV:ML}{st:SortSt}{Q:VK}{P:PySem.Fin->Shared->Prop}
  (w1:xl X pins D) (w2:xl X (pins++[(D,seqObj "list" #[] e1)]) kS) (hu:us.length<64) (ho:outU.length<64) (ro:Vals outV outU) (hout:(arrOf st).map (·.2)=List.toArray outU) (hf:failedOf st=none)
  (I:Inv X (pins++[(D,seqObj "list" #[] e1)]++[(kS,seqObj "list" us.toArray e)]) σ H s) (hq:Q (.ref D) (upd H D (.lst outV))) (hP:∀s',EP X pins σ Q (.ref D) s'->P (.done (.ret .none)) s'):wpAny (NO X) A (ksk_tail D false e1 (.ref kS) st) P E s:=by
 have aK:=I.at1;have J1:Inv X (pins++[(D,seqObj "list" #[] e1)]) σ H s:=I.kf;have hne:kS≠D:=λz=>w2.pin (D,seqObj "list" #[] e1) (O3 _ (O3 _ M3)) z.symm;have J2:Inv X (pins++[(D,seqObj "list" #[] e1)]) σ H { s with heap:=s.heap.update kS (Obj.mapSeq λ_=>(#[]:Array Value)),toks:=s.toks }:=J1.turned (λb o hb ho=>(P8 s.heap _ (Ne.symm hb)).trans ho) aK.2 w2.loc w2.ex w2.cel w2.pin;have aD:=J2.at1;unfold ksk_tail
 try dsimp only
 rw[hout];refine f8 (a1V aK.1 rfl ?_ (by rw[O4,a0e];omega) (S7 _));refine f8 (a22 ?_);refine f8 (seqEpoch_at aD.1 rfl ?_);refine f8 (a1V aD.1 rfl ?_ (S7 _) (by simp only[Bool.false_eq_true,if_false,List.size_toArray];rw[a0e];omega));rw[hf];simp only[bne_self_eq_false,Bool.false_eq_true,if_false];refine M9 (hP _ ?_);have e2:=get?_update_seq aD.1 λ_=>List.toArray outU;have hl:=ro.length;have J4:Inv X pins σ (upd H D (.lst outV)) { s with heap:=(s.heap.update kS (Obj.mapSeq λ_=>(#[]:Array Value))).update D (Obj.mapSeq λ_=>List.toArray outU),toks:=s.toks }:=Inv.IH (s:={ s with heap:=s.heap.update kS (Obj.mapSeq λ_=>(#[]:Array Value)),toks:=s.toks }) J2.kf (λb o hb ho=>(P8 _ _ (Ne.symm hb)).trans ho) aD.2 w1.loc w1.ex w1.cel w1.pin (o:=.lst outV) ⟨by rw[a0e];omega,outU,_,ro,e2⟩;exact⟨.ref D,_,J4,rfl,hq⟩
def xn
  (w1:xl X pins D) (w2:xl X (pins++[(D,seqObj "list" #[] e1)]) kS) (hy:ys.length<64) (ry:Vals ys its) (rz:Vals zs us) (hk:XB X.K H zs kz) (hkl:kz.length=ys.length)
  (I:Inv X (pins++[(D,seqObj "list" #[] e1)]++[(kS,seqObj "list" us.toArray e)]) σ H s) (hq:∀q:List Nat,Srt kz q->Q (.ref D) (upd H D (.lst (q.map λi=>ys.getD i .non)))) (hP:∀s',EP X pins σ Q (.ref D) s'->P (.done (.ret .none)) s'):wpAny (NO X) A (ksk_end D false its.toArray e1 (.ref kS) us.toArray) P E s:=by
 have hl:=ry.length;have hzl:=hk.len;have hul:=rz.length;have hit:us.length=its.length:=by omega
 unfold ksk_end
 try dsimp only
 simp only[Bool.false_eq_true,if_false];by_cases h2:its.toArray.size<2
 .rw[if_pos h2,if_pos h2];rw[O4]at h2;refine f8 (M9 ?_);rw[StateT.run_pure];refine f8 (M9 ?_)
  try dsimp only
  have hs:Srt kz (List.range its.length):=by refine⟨by rw[hkl,hl],?_⟩;rw[a12];intro i j hi hj hij;rw[T4]at hi hj;omega
  refine cZ w1 w2 (by omega) (outU:=(List.range its.length).map λi=>its.getD i .none) (by rw[u8,T4];omega) (aL ry _) ?_ rfl I (hq _ hs) hP;apply Array.toList_inj.mp;show((us.toArray.zip its.toArray).map (·.2)).toList=_;rw[Array.toList_map,ksk_zip,List.map_snd_zip (by rw[List.toList_toArray,hit];exact M7 _)];refine List.ext_getElem (by rw[u8,T4]) λi h1 h2=>?_;rw[a0s,a1l];simp[h1]
 .rw[if_neg h2,if_neg h2];rw[O4]at h2;have T3:=hk.mI I rz;refine f8 (IG T3 (by omega) ?_);have tree:(kas_sort its.length).kasWp (kas_ask X.prog X.w A (tuples' true) us) (λp s'=>s'=s/\Srt kz p.toList) s:=by
   refine rj (P:=(·<kz.length)) (f:=ans (O:=D3) λi=>kz.getD i (0,0,"")) (J:=λs'=>s'=s) (Q:=λp=>Srt kz p.toList) (λi j C s' hi hj hs hC=>?_) (λp s' h1 h2=>⟨h2,h1⟩) rfl ?_
   .subst hs;exact lt3 (T3.get (0,0,"") hi) (T3.get (0,0,"") hj) (hC _ rfl)
   .have:=rA (O:=D3) (key:=λi=>kz.getD i (0,0,"")) (n:=kz.length) (by omega);rw[show its.length=kz.length by omega];exact yU (λp ⟨a,b⟩=>Bj a b) this
  refine f8 (T2 (kat_run (ks:=us) (vs:=its) (Q:=λst' s'=>s'=s/\∃p:Array Nat,p.size=its.length/\arrOf st'=p.map (kas_item (us.toArray.zip its.toArray))/\failedOf st'=none/\Srt kz p.toList) hit (by omega) (by omega) (λp st' s' a1 a2 a3 a4=>⟨a4.1,p,a1,a2,a3,a4.2⟩) tree) ?_ λ_ _ x=>x)
  rintro⟨⟨⟩,st'⟩ s' ⟨rfl,p,hp,har,hf,srt⟩
  try dsimp only
  exact cZ w1 w2 (by omega) (outU:=p.toList.map λi=>its.getD i .none) (by rw[u8,a0X];omega) (aL ry _) (kat_snds hit har) hf I (hq _ srt) hP
end
def UA(F:KC X k lp f sp)(hlp:∀p∈lp,p∈pins)(hr:qQ (k+2) X.A)
  (I:Inv X pins σ H s) (hl:SqL X.K H l ys) (h:rC sp X.K ys H Q):wpAny (NO X) X.A (call (.builtin "sorted") [.ref l] [(Str.ofString "key",.ref f)]) (EP X pins σ Q) E s:=by
 obtain⟨hy,h⟩:=h;obtain⟨its,ry,pl,hz⟩:=I.list hl;have hlen:=ry.length;refine call_function_entry_kw kind_sorted plain_sorted entry_sorted (ksk_s1 _ _) ?_;unfold Builtin.«sorted»;refine f8 (m:=checkCount "sorted" 1 1 _) (M9 ?_);refine f8 (collect_list pl.isList ?_ (by rw[a0e];omega));refine f8 (wpAny_newList ?_ (by rw[a0e];omega));have hsz:((s.heap.push (seqObj "list" #[] 0)).update s.heap.objs.size (Obj.mapSeq (·++its.toArray))).objs.size=s.heap.objs.size+1:=by rw[Heap.size_update,size_push']
 have hoL:(((s.heap.push (seqObj "list" #[] 0)).update s.heap.objs.size (Obj.mapSeq (·++its.toArray))).push (seqObj "list" its.toArray 0)).get? (s.heap.objs.size+1)=some (seqObj "list" its.toArray 0):=by rw[<- hsz];exact O8 _ rfl
 have keep:∀b o,s.heap.get? b=some o->(((s.heap.push (seqObj "list" #[] 0)).update s.heap.objs.size (Obj.mapSeq (·++its.toArray))).push (seqObj "list" its.toArray 0)).get? b=some o:=λb o q=>by have hlt:b<s.heap.objs.size:=N4 q;rw[Heap.get?_push_ne _ _ _ (by rw[hsz];exact O1 (a1r hlt)),a1L _ _ _ _ (O1 hlt),Heap.get?_push_ne _ _ _ (O1 hlt)];exact q
 have hs1:(((s.heap.push (seqObj "list" #[] 0)).update s.heap.objs.size (Obj.mapSeq (·++its.toArray))).push (seqObj "list" its.toArray 0)).objs.size=s.heap.objs.size+2:=by rw[size_push',hsz]
 show wpAny _ _ _ _ _ { s with heap:=((s.heap.push (seqObj "list" #[] 0)).update s.heap.objs.size (Obj.mapSeq (·++its.toArray))).push (seqObj "list" its.toArray 0) };rw[hsz];have I1:Inv X pins σ H { s with heap:=((s.heap.push (seqObj "list" #[] 0)).update s.heap.objs.size (Obj.mapSeq (·++its.toArray))).push (seqObj "list" its.toArray 0),toks:=s.toks }:=I.kept keep;have w1:xl X pins (s.heap.objs.size+1):=I.Lp (H':=H) (a0x _);have n1:H (s.heap.objs.size+1)=none:=I.hok.fresh (a0x _);generalize((s.heap.push (seqObj "list" #[] 0)).update s.heap.objs.size (Obj.mapSeq (·++its.toArray))).push (seqObj "list" its.toArray 0)=h1 at hoL hs1 I1 keep;generalize hD:s.heap.objs.size+1=D at hoL w1 n1;refine f8 (T8 (wpAny_call_entry_kw slot_list_sort ⟨_,hoL,rfl⟩ entry_list_sort ?body (ksk_l1 _ _)))
 case body=>
  show wpAny (NO X) X.A.in1.in1 (Builtin.«list.sort» ⟨[.ref D],[(Str.ofString "key",.ref f)]⟩) _ _ _;rw[ksk_t1];obtain⟨e1,ho1⟩:∃e1,(h1.update D (Obj.mapSeq λ_=>(#[]:Array Value))).get? D=some (seqObj "list" #[] e1):=⟨_,get?_update_seq hoL λ_=>#[]⟩;have I2:Inv X pins σ H { s with heap:=h1.update D (Obj.mapSeq λ_=>(#[]:Array Value)),toks:=s.toks }:=Inv.turned (s:={ s with heap:=h1,toks:=s.toks }) I1 (λb o hb ho=>(P8 h1 _ (Ne.symm hb)).trans ho) n1 w1.loc w1.ex w1.cel w1.pin;have hs2:(h1.update D (Obj.mapSeq λ_=>(#[]:Array Value))).objs.size=s.heap.objs.size+2:=by rw[Heap.size_update,hs1]
  unfold ksk_tree;refine f8 (listItems_at hoL rfl ?_);refine f8 (a1V hoL rfl ?_ (by rw[O4,a0e];omega) (S7 _));generalize h1.update D (Obj.mapSeq λ_=>(#[]:Array Value))=h2 at ho1 I2 hs2;refine f8 (seqEpoch_at ho1 rfl ?_);refine f8 (wpAny_newTuple ?_ (by show its.length<=_;rw[a0e];omega));refine f8 (wpAny_newList ?_ (S7 _));refine T8 ?_;have hk3:(h2.push { cls:=.type "tuple",data:=.seq its.toArray.toList.toArray }).objs.size=s.heap.objs.size+3:=by rw[size_push',hs2]
  have keep3:∀b o,h2.get? b=some o->((h2.push { cls:=.type "tuple",data:=.seq its.toArray.toList.toArray }).push { cls:=.type "list",data:=.seq ([]:List Value).toArray }).get? b=some o:=λb o q=>M6 _ (M6 _ q);have I3:Inv X pins σ H { s with heap:=(h2.push { cls:=.type "tuple",data:=.seq its.toArray.toList.toArray }).push { cls:=.type "list",data:=.seq ([]:List Value).toArray },toks:=s.toks }:=Inv.kept (s:={ s with heap:=h2,toks:=s.toks }) I2 keep3;have hoK:((h2.push { cls:=.type "tuple",data:=.seq its.toArray.toList.toArray }).push { cls:=.type "list",data:=.seq ([]:List Value).toArray }).get? (h2.push { cls:=.type "tuple",data:=.seq its.toArray.toList.toArray }).objs.size=some (seqObj "list" ([]:List Value).toArray 0):=O8 _ rfl;have hoD:=keep3 D _ ho1;show wpAny (NO X) X.A.in1.in1 (ksk_rest D (.ref f) false its.toArray e1 (.ref (h2.push { cls:=.type "tuple",data:=.seq its.toArray.toList.toArray }).objs.size)) _ _ { s with heap:=(h2.push { cls:=.type "tuple",data:=.seq its.toArray.toList.toArray }).push { cls:=.type "list",data:=.seq ([]:List Value).toArray },toks:=s.toks };have w2:xl X (pins++[(D,seqObj "list" #[] e1)]) (h2.push { cls:=.type "tuple",data:=.seq its.toArray.toList.toArray }).objs.size:=by have J:Inv X (pins++[(D,seqObj "list" #[] e1)]) σ H { s with heap:=h2,toks:=s.toks }:=Inv.Hg (s:={ s with heap:=h2,toks:=s.toks }) I2 w1 n1 ho1 (λv h=>by cases h);exact J.Lp (H':=H) (by show h2.objs.size<=_;rw[hk3,hs2];omega)
  have n2:H (h2.push { cls:=.type "tuple",data:=.seq its.toArray.toList.toArray }).objs.size=none:=I.hok.fresh (by rw[hk3];omega);generalize(h2.push { cls:=.type "tuple",data:=.seq its.toArray.toList.toArray }).push { cls:=.type "list",data:=.seq ([]:List Value).toArray }=h3 at I3 hoK hoD;generalize(h2.push { cls:=.type "tuple",data:=.seq its.toArray.toList.toArray }).objs.size=kS at hoK w2 n2;have I4:Inv X (pins++[(D,seqObj "list" #[] e1)]++[(kS,seqObj "list" ([]:List Value).toArray 0)]) σ H { s with heap:=h3,toks:=s.toks }:=
   Inv.Hg (s:={ s with heap:=h3,toks:=s.toks }) (Inv.Hg (s:={ s with heap:=h3,toks:=s.toks }) I3 w1 n1 hoD (λv h=>by cases h)) w2 n2 hoK (λv h=>by cases h)
  unfold ksk_rest;refine f8 (a2G ?_)
  first
   |rw[List.forIn_toArray]
   | (rw[<- a2Y];simp only[List.toList_toArray])
   |rw[<- a2Y]
  refine f8 (T2 (ip (pins:=pins++[(D,seqObj "list" #[] e1)]) (σ:=σ) (A:=X.A.in1.in1) (E:=E) F (λp hp=>a0R _ (hlp p hp)) hr.in1.in1 rfl w2 (λx s' C hx=>?_) (ys:=ys) (its:=its) (acc:=[]) (us:=[]) (e:=0) (H:=H) (by rw[a1h];omega) ry .nil I4 h) (λ_ s' hd=>?_) λ_ _ x=>x)
  .refine f8 (a1f (T2 hx (λz s'' hz=>?_) λ_ _ hF=>hF.elim))
   try dsimp only
   exact f8 (T2 hz (λ_ s3 h3=>M9 ⟨rfl,h3⟩) λ_ _ hF=>hF.elim)
  .obtain⟨zs,us,e2,H',hzl,rz,I5,kz,hkl,hk3,hq⟩:=hd;have aK:=I5.at1;have aD:=I5.kf.at1
   try dsimp only
   refine f8 (listItems_at aK.1 rfl ?_);exact xn w1 w2 hy ry rz hk3 hkl I5 (λq srt=>hq q D srt aD.2) λs3 he=>⟨_,rfl,M9 ⟨_,rfl,he⟩⟩
def Ki(g:MU):List PV->Option (List XA)
 |[]=>some []
 |x::xs=>match g [x]with
  |.ok (.t [.i a,.i b,.s c])=>(Ki g xs).map ((a,b,c)::·)
  |_=>none
def Wz{g:MU}:∀{xs:MX}{kz:List XA},Ki g xs=some kz->kz.length=xs.length
 |[],_,h=>by cases h;rfl
 |x::xs,kz,h=>by
  unfold Ki at h;split at h
  .obtain⟨ks,e,rfl⟩:=t0.mp h;rw[v4,v4,Wz e]
  .cases h
def rD{α:Type}{P:NG}{f:ND}{Q:α->Prop}:∀{t:KasT α},VO P f t Q->∃a,Q a
 |.ret a,h=>⟨a,h⟩
 |.ask _ _ _,h=>rD h.2.2
def Bk(kz:List XA):∃q,Srt kz q:=by
 by_cases h:0<kz.length
 .obtain⟨p,a,b⟩:=rD (rA (O:=D3) (key:=λi=>kz.getD i (0,0,"")) h);exact⟨p.toList,Bj a b⟩
 .refine⟨[],?_,List.Pairwise.nil⟩;rw[show kz.length=0 by omega];exact List.Perm.refl _
def xo(kz:List XA):List Nat:=Classical.choose (Bk kz)
def YV(kz:List XA):Srt kz (xo kz):=S4 (Bk kz)
def rE(nd:kz.Nodup)(h:Srt kz q)(h':Srt kz q'):q=q':=by
 refine a2d (λa b ha hb h1 h2=>?_) h.2 h'.2 (h.1.trans h'.1.symm);have a1:=a0u.mp (h.1.mem_iff.mp ha);have b1:=a0u.mp (h'.1.mem_iff.mp hb);have e:=KeyOrd.kle_antisymm h1 h2;have ga:kz.getD a (0,0,"")=kz[a]:=by simp[a1]
 have gb:kz.getD b (0,0,"")=kz[b]:=by simp[b1]
 rw[ga,gb]at e;exact(List.getElem_inj nd).mp e
open Classical in
def XE(g:MU)(xs:MX):Out PV:=if xs.length<64 then match Ki g xs with
 |some kz=>if kz.Nodup then .ok (.l ((xo kz).map λi=>xs.getD i .n))else .wall
 |none=>.wall else .wall
def iq(g:MU)(ms:MA):ME:=λρ=>(ms ρ).bind λxs=>match xs with
 |[.l xs]=>XE g xs
 |_=>.wall
def SqT.same{K:Nh}{H H':Hp}{p:Addr}{xs:ML}(h:SqT K H p xs)(s:zl H H'):SqT K H' p xs:=by
 rcases h with h|h
 .rcases h with h|⟨o,h⟩
  .exact .inl (.inl (s _ _ h))
  .exact .inl (.inr ⟨o,s _ _ h⟩)
 .exact .inr h
def fB{W:RC}{M:MF}{wk:Bool}{g:MU}{Q:List V->Hp->Prop}:∀{xs:MX}{vs acc:ML}{H:Hp}{kz:List XA},zI W M H xs vs->Ki g xs=some kz->(∀H' zs,zl H H'->XB W.K H' zs kz->Q (acc++zs) H')->rB (lsp W false [wk] g) vs acc H Q
 |[],_,acc,H,kz,hr,hk,q=>by cases(show _=_ from hr);cases hk;have:=q H [] (zl.refl _) trivial;rw[P4]at this;exact this
 |x::xs,_,acc,H,kz,hr,hk,q=>by
  obtain⟨v,r,rfl,h1,h2⟩:=hr;unfold Ki at hk;split at hk
  .rename_i a b c hg;obtain⟨ks,e,rfl⟩:=t0.mp hk;refine⟨M,[x],⟨x,v,[],[],rfl,rfl,?_,rfl,rfl⟩,?_⟩
   .cases wk with
    |true=>rw[if_pos rfl];exact h1.weak
    |false=>rw[if_neg O2];exact yG.iff.mpr h1
   .rw[hg];intro z H2 s hz;unfold RtV at hz;rw[if_neg O2]at hz;obtain⟨p,ws,rfl,hq,hws⟩:=hz;obtain⟨v1,r1,rfl,e1,hws⟩:=hws;obtain⟨v2,r2,rfl,e2,hws⟩:=hws;obtain⟨v3,r3,rfl,e3,hws⟩:=hws;cases(show _=_ from hws);cases(show _=_ from e1);cases(show _=_ from e2);cases(show _=_ from e3);refine fB (acc:=acc++[.ref p]) (h2.same s) e λH' zs s' hz=>?_;have:=q H' (.ref p::zs) (s.trans s') ⟨⟨p,rfl,hq.same s'⟩,hz⟩;rw[T9];exact this
  .cases hk
def zI.rF{W:RC}{M:MF}{H:Hp}{xs:MX}{vs:ML}(h:zI W M H xs vs):∀q:List Nat,zI W M H (q.map λi=>xs.getD i .n) (q.map λi=>vs.getD i .non)
 |[]=>rfl
 |i::q=>by
  refine⟨_,_,rfl,?_,h.rF q⟩;show Rep W M H (xs.getD i .n) (vs.getD i .non);simp only[List.getD_eq_getElem?_getD];cases hx:xs[i]? with
  |some x=>obtain⟨v,e,r⟩:=h.get hx;rw[e];exact r
  |none=>
   cases hv:vs[i]? with
   |none=>exact rfl
   |some v=>obtain⟨x,e,_⟩:=h.DX hv;rw[hx]at e;cases e
def xp(F:y8 X.prog X.w X.K X.mg X.base (CXe X.prog X.w) k f fd ps sp)(hr:qQ (k+2) X.A)(hb:Binds X.K fd ps [])(hg:Gl X "sorted")(hm:X.mg "sorted"=none)(hgf:Gl X fn)(hmf:X.mg fn=some (.ref f))(ha:PA X [e] t)(hdb:(fn==("__debug__":Str))=false:=by decide)
  (he1:backTo pos (starEach [e] X.env)=(false,eval e X.env)::backTo pos (starEach [] X.env):=by rfl) (hpl:(backTo pos (starEach [e] X.env)).any (·.1)=false:=by rfl):
  PE X (.Call (.Name "sorted" p) [e] [⟨some "key",.Name fn p2,kpos⟩] pos) (λσ H Q=>t σ H λvs H1=>∃l ys,vs=[.ref l]/\SqL X.K H1 l ys/\rC sp X.K ys H1 Q):=by
 intro pins s σ H Q I h;refine a0h (Kz I hg hm boot_sorted ?_ (by decide) (by decide));refine callWith_kw (thn (ha pos pins s σ H _ I h) λus s1 ⟨vs,H1,I1,r1,l,ys,hv,hl,hq⟩=>?_) he1 hpl;subst hv;obtain⟨u,rfl,ru⟩:=vals1 r1;cases ru;refine thn (BR (nm:=some "key") (kpos:=kpos) (zL (v:=.ref f) hgf hmf rfl hdb) Eu pos pins s1 σ H1 (λzs H2=>zs=[.ref f]/\H2=H1) I1 ⟨rfl,rfl⟩) λws s2 ⟨zs,H2,I2,rz,e1,e2⟩=>?_;subst e1;subst e2;obtain⟨u2,rfl,ru2⟩:=vals1 rz;cases ru2;exact UA (II F hb) (λ_ h=>nomatch h) hr I2 hl hq
def xq(F:y8 X.prog X.w X.K X.mg X.base (CXe X.prog X.w) k f fd ps (lsp C.W false [wk] g))(hr:qQ (k+2) X.A)(hb:Binds X.K fd ps [])(hg:Gl X "sorted")(hm:X.mg "sorted"=none)(hgf:Gl X fn)(hmf:X.mg fn=some (.ref f))(ha:AM X C S ws [e] ms)(hdb:(fn==("__debug__":Str))=false:=by decide)
  (he1:backTo pos (starEach [e] X.env)=(false,eval e X.env)::backTo pos (starEach [] X.env):=by rfl) (hpl:(backTo pos (starEach [e] X.env)).any (·.1)=false:=by rfl):
  FM X C S (.Call (.Name "sorted" p) [e] [⟨some "key",.Name fn p2,kpos⟩] pos) (iq g ms):=λhK=>by
 obtain⟨ta,a1,a2⟩:=ha hK;refine⟨_,xp F hr hb hg hm hgf hmf a1 hdb he1 hpl,λB P H σ ρ R Q q=>a2 B P H σ ρ R _ (wL q λxs vs H1 s1 r1 q1=>?_)⟩;have r1:=r1.weak;split at q1
 .rename_i ys _;obtain⟨v,r,rfl,⟨l,us,rfl,_,hl,rr⟩,hr'⟩:=r1;cases(show _=_ from hr');unfold XE at q1;split at q1
  .rename_i h64;split at q1
   .rename_i kz hk;split at q1
    .rename_i nd;have hlen:us.length=ys.length:=(zI.len rr).symm▸rfl;rw[hK];refine⟨l,us,rfl,SqL.of hl,by omega,fB rr hk λH' zs s hz=>⟨kz,by rw[Wz hk,hlen],by rw[a0A];exact hz,λq' a srt ha=>?_⟩⟩;rw[rE nd srt (YV kz)];have q2:=kB q1 s;exact q2 _ _ (zl.upd ha) (ZV ((rr.same s).rF _) ha)
    .exact q1.elim
   .exact q1.elim
  .exact q1.elim
 .exact q1.elim
def WA(f:Str)(x:HV):List (Str×HV)->List (Str×HV)
 |[]=>[(f,x)]
 |kx::r=>if kx.1=f then(kx.1,x)::r else kx::WA f x r
def yO.J6{R:HV->V->Prop}{f:Str}{x:HV}{v:V}(hx:R x v):∀{fs:List (Str×HV)}{es:Nd},yO R fs es->yO R (WA f x fs) (J6 f v es)
 |[],_,h=>by cases(show _=_ from h);exact⟨v,[],rfl,hx,rfl⟩
 |kx::r,_,⟨u,q,e,h1,h2⟩=>by
  subst e;unfold WA L2.J6;by_cases c:kx.1=f
  .rw[if_pos c,if_pos (by simpa using c)];exact⟨v,q,rfl,hx,h2⟩
  .rw[if_neg c,if_neg (by simpa using c)];exact⟨u,_,rfl,h1,yO.J6 hx h2⟩
def aM(cs:MB)(f:Str)(mo mv:HME):HMS:=λρ G=>(mv ρ G).fw λy G1=>(mo ρ G1).fw λx G2=>match x with
 |.g k=>match G2[k]? with
  |some (.o c fs)=>if c∈cs/\fs.length<1000 then .nx ρ (G2.set k (.o c (WA f y fs)))else .wall
  |_=>.wall
 |_=>.wall
def rG(ho:HE X W E o m1)(hv:HE X W E e m2)(hc:∀c∈cs,Cls X.K (W.cls c)/\j8 X.K (W.cls c) fn)(hs:swapsWith e (some (.Attribute o fn pos')) pos.line X.env=pure false:=by rfl):
  HS X W E (.Assign [.Attribute o fn pos'] e pos) (aM cs fn m1 m2):=λhK=>by
 obtain⟨to,o1,o2⟩:=ho hK;obtain⟨te,a1,a2⟩:=hv hK;refine⟨_,Av o1 a1 hs,λZ hZ A H σ ρ G R D q=>a2 Z hZ A H σ ρ G R _ (HPs.bind q λy A1 H1 G1 h1 g1 q1 u ry=>?_)⟩;have R1:=R.gro h1 g1;refine o2 Z hZ A1 H1 σ ρ G1 R1 _ (HPs.bind q1 λx A2 H2 G2 h2 g2 q2 v rx=>?_);subst hZ;split at q2
 .rename_i k;obtain⟨hk,rfl⟩:=rx;split at q2
  .rename_i c fs hG;split at q2
   .rename_i hcs;obtain⟨dx,vs,hp,r⟩:=h2.cell k _ hG;have hl:=yO.len r;have g3:=h2.frw (o:=.ins (Z.W.cls c) dx (J6 fn u vs)) hk hp id;refine⟨_,_,dx,vs,rfl,hp,(hc c hcs.1).1,(hc c hcs.1).2,by rw[hl];exact hcs.2,Hb (c:=.o c (WA fn y fs)) (R1.gro h2 g2) hk hp id ⟨dx,_,zd,?_⟩ q2⟩;exact yO.J6 ((ry.gro g2).gro g3) (r.imp λ_ _ z=>z.gro g3)
   .exact q2.elim
  .exact q2.elim
 .exact q2.elim
section
variable {X:Cx}{W:RC}{E:XK}{e:MR}{es:MK}{ms:HMA}{g:List HV->AH->HX HV}{k n:Nat}{f:Addr}{fd:Na}{ps:MD}{x:Str}{p pos:Pos}
end
def IJ(kvs:Nw)(ks:Nt):PV->Out PV
 |.i n=>.ok (.i ((zK kvs ks).getD n))
 |_=>.wall
def mJ(m:ME)(ms:MA)(md:ME):ME:=λρ=>(m ρ).bind λx=>match x with
 |.dt kvs=>(ms ρ).bind λxs=>match pk2 xs with
  |some ks=>(md ρ).bind (IJ kvs ks)
  |none=>.wall
 |_=>.wall
def rH(hu:X.A.units+1<cLine)(h1:EM X C S w1 o m1)(h2:AM X C S ws es ms)(h3:EM X C S w2 f m2)(m:M2 X o "get" jo (.Tuple es x1 p) f vz):EM X C S false (.Call (.Attribute o "get" jo) [.Tuple es x1 p,f] [] vz) (mJ m1 ms m2):=λhK=>by
 obtain⟨ta,a1,a2⟩:=h1 hK;obtain⟨tb,b1,b2⟩:=h2 hK;obtain⟨tc,c1,c2⟩:=h3 hK;refine⟨_,ui hu a1 (V1 b1) c1 m,λB P H σ ρ R Q q=>a2 B P H σ ρ R _ (zV q λx v H1 s1 r1 q1=>?_)⟩;cases x with
 |dt kvs=>
  obtain⟨a,rfl,_,hd⟩:=r1.weak;refine⟨a,rfl,.inr ⟨_,hd⟩,b2 B P H1 σ ρ (R.keep s1) _ (yM q1 λxs vs H2 s2 r2 q2=>?_)⟩;split at q2
  .rename_i ks hk;obtain⟨rfl,hl⟩:=r2.He hk;refine⟨hl,λz hz=>c2 B P _ σ ρ (((R.keep s1).keep s2).keep (zl.upd hz)) _ (zV (wt q2 (zl.upd hz)) λy u H3 s3 r3 q3=>?_)⟩;unfold IJ at q3;split at q3
   .rename_i n;cases(show u=.int n from r3.weak);refine⟨_,.inr ⟨_,_,z,Ww s3 (Ww (zl.upd hz) (Ww s2 hd)),rfl,s3 _ _ zd,rfl⟩,?_⟩;rw[aI];cases e:zK kvs ks with
    |none=>rw[e]at q3;exact q3 _ H3 (zl.refl _) (RV.of rfl)
    |some k=>rw[e]at q3;exact q3 _ H3 (zl.refl _) (RV.of rfl)
   .exact q3.elim
  .exact q2.elim
 |_=>exact q1.elim
section
open PySem.SeqAt
open PySem.AutoSeq1 (wpAny_loadPart')
open PySem.MeetsSeq PySem.MeetsSeq2 PySem.MeetsSeq3
end
section
variable {X:Cx}
end
section
variable {X:Cx}{C:LC}{S:MB}{o f:MR}{es:MK}{ws:MP}{w1 w2:Bool}{m1 m2:ME}{ms:MA}{vz jo p:Pos}{x1:Nat}
end
end L2
namespace L2
open PySem PySem.Spec PyProof.Rows PySem.W
section
variable {X:Cx}{W:RC}{E:XK}{o a e:MR}{m m1 m2:HME}{pos tpos:Pos}
end
def thw(k:Nat):HFw->HFw
 |.nx ρ G=>match G[k]? with|some (.z kvs)=>.nx ρ (G.set k (.d kvs))|_=>.wall
 |.bk ρ G=>match G[k]? with|some (.z kvs)=>.bk ρ (G.set k (.d kvs))|_=>.wall
 |.ct ρ G=>match G[k]? with|some (.z kvs)=>.ct ρ (G.set k (.d kvs))|_=>.wall
 |.rt x G=>match G[k]? with|some (.z kvs)=>.rt x (G.set k (.d kvs))|_=>.wall
 |.exc c fs G=>match G[k]? with|some (.z kvs)=>.exc c fs (G.set k (.d kvs))|_=>.wall
 |.wall=>.wall
def mK(i:Nat)(g:HMG)(b:HMS):HMS:=λρ G=>match ρ[i]? with
 |some (some (.g k))=>match G[k]? with
  |some (.d kvs)=>thw k (Xy g b ((kvs.map λkx=>kP kx.1).map .v) ρ (G.set k (.z kvs)))
  |_=>.wall
 |_=>.wall
section
variable {Z:HC}{E:XK}{A A':MN}{H H':Hp}{G G':AH}{σ σ':St}{ρ ρ':ZL}{es:MM}{k n:Nat}{D:Ends}{kvs:List (Key×HV)}{o:Obj}
def HH.CL(h:HH Z A H G)(hk:k<G.length)(hc:G[k]?=some (.z kvs))(ha:H (A k)=some (.frz o (.dK es))):HH Z A (upd H (A k) (.dK es)) (G.set k (.d kvs)):=by
 have h1:Rd H (A k) (.dK es):=.inr ⟨o,ha⟩;have h2:Rd (upd H (A k) (.dK es)) (A k) (.dK es):=.inl zd;have hne:∀b,b≠A k->upd H (A k) (.dK es) b=H b:=λb z=>zg z;have hl:(G.set k (.d kvs)).length=G.length:=P1 ..;refine⟨λa q e=>?_,λj d e=>?_,λi j hi hj=>h.inj i j (hl▸hi) (hl▸hj),λj hj=>h.own j (hl▸hj)⟩
 .have:a≠A k:=λz=>by rw[z,h.own k hk]at e;cases e
  rw[zg this];exact h.same a q e
 .rw[hl];by_cases hj:k=j
  .subst hj;rw[P5 hk]at e;cases e;obtain⟨o',es',he,r⟩:=h.cell k _ hc;rw[ha]at he;cases he;exact⟨es,zd,r.imp λ_ _=>jt.sw h1 h2 hne⟩
  .rw[P0 hj]at e;exact(h.cell j d e).sw (λz=>hj (h.inj j k (N7.mp e).1 hk z).symm) h1 h2 hne
def xt(hk:k<n)(ha:H (A k)=some (.dK es))(g:Gro Z A n (upd H (A k) (.frz o (.dK es))) A' n' H'):Gro Z A n H A' n' (upd H' (A k) (.dK es)):=by
 refine⟨g.le,g.agr,λj h1 h2=>?_,λb q e m=>?_,λb e=>?_⟩
 .have:=g.fresh j h1 h2;have ne:A' j≠A k:=λz=>by rw[z,zd]at this;cases this
  rwa [zg ne]at this
 .by_cases z:b=A k
  .subst z;rw[ha]at e;rw[zd];exact e
  .rw[zg z];exact g.fr b q (by rw[zg z];exact e) m
 .have z:b≠A k:=λz=>by rw[z,zd]at e;cases e
  rw[zg z]at e;have:=g.dom b e
  rwa [zg z]at this
def xu(hk:k<G.length)(ha:H (A k)=some (.dK es))(q:HPs Z E A G.length H D (thw k out)):HPs Z (Ef (A k) es E) A G.length (upd H (A k) (.frz o (.dK es))) (Df (A k) es D) out:=by
 have fz:∀{A' n' H'},Gro Z A G.length (upd H (A k) (.frz o (.dK es))) A' n' H'->H' (A k)=some (.frz o (.dK es)):=λg=>g.fr (A k) _ zd (.inr trivial);have hh:∀{A' H' G' kvs},G'[k]?=some (.z kvs)->HH Z A' H' G'->Gro Z A G.length (upd H (A k) (.frz o (.dK es))) A' G'.length H'->HH Z A' (upd H' (A k) (.dK es)) (G'.set k (.d kvs))/\Gro Z A G.length H A' (G'.set k (.d kvs)).length (upd H' (A k) (.dK es)):=λ{A' H' G' kvs} hc h g=>by have ek:=g.agr k hk;have f:=fz g;rw[<- ek]at f ⊢;refine⟨h.CL (N9 hk g.le) hc f,?_⟩;rw[P1,ek];exact xt hk ha g
 have sw:∀{A' H' n' x v},Gro Z A G.length (upd H (A k) (.frz o (.dK es))) A' n' H'->jt Z.W (HM Z A' n') A' n' H' x v->jt Z.W (HM Z A' n') A' n' (upd H' (A k) (.dK es)) x v:=λg r=>r.sw (.inr ⟨o,fz g⟩) (.inl zd) λb z=>zg z;cases out with
 |wall=>exact q
 |nx ρ' G'=>
  have q:HPs Z E A G.length H D (match G'[k]? with|some (.z kvs)=>.nx ρ' (G'.set k (.d kvs))|_=>.wall):=q;split at q
  .rename_i kvs hc;intro A' H' σ' R' g';obtain⟨h2,g2⟩:=hh hc R'.toHH g';exact⟨⟨o,fz g'⟩,q A' _ σ' ⟨h2,R'.len,λi x e=>by
    obtain⟨v,e1,e2⟩:=R'.var i x e;rw[P1];exact⟨v,e1,sw g' e2⟩⟩ g2⟩
  .exact q.elim
 |bk ρ' G'=>
  have q:HPs Z E A G.length H D (match G'[k]? with|some (.z kvs)=>.bk ρ' (G'.set k (.d kvs))|_=>.wall):=q;split at q
  .rename_i kvs hc;intro A' H' σ' R' g';obtain⟨h2,g2⟩:=hh hc R'.toHH g';exact⟨⟨o,fz g'⟩,q A' _ σ' ⟨h2,R'.len,λi x e=>by
    obtain⟨v,e1,e2⟩:=R'.var i x e;rw[P1];exact⟨v,e1,sw g' e2⟩⟩ g2⟩
  .exact q.elim
 |ct ρ' G'=>
  have q:HPs Z E A G.length H D (match G'[k]? with|some (.z kvs)=>.ct ρ' (G'.set k (.d kvs))|_=>.wall):=q;split at q
  .rename_i kvs hc;intro A' H' σ' R' g';obtain⟨h2,g2⟩:=hh hc R'.toHH g';exact⟨⟨o,fz g'⟩,q A' _ σ' ⟨h2,R'.len,λi x e=>by
    obtain⟨v,e1,e2⟩:=R'.var i x e;rw[P1];exact⟨v,e1,sw g' e2⟩⟩ g2⟩
  .exact q.elim
 |rt x G'=>
  have q:HPs Z E A G.length H D (match G'[k]? with|some (.z kvs)=>.rt x (G'.set k (.d kvs))|_=>.wall):=q;split at q
  .rename_i kvs hc;intro A' H' v h' g' rv;obtain⟨h2,g2⟩:=hh hc h' g';refine⟨⟨o,fz g'⟩,q A' _ v h2 g2 ?_⟩;rw[P1];exact sw g' rv
  .exact q.elim
 |exc c fs G'=>
  have q:HPs Z E A G.length H D (match G'[k]? with|some (.z kvs)=>.exc c fs (G'.set k (.d kvs))|_=>.wall):=q;split at q
  .rename_i kvs hc;intro A' H' e dx xs h' g' e1 e2 e3;obtain⟨h2,g2⟩:=hh hc h' g';have w1:Rd H' (A k) (.dK es):=.inr ⟨o,fz g'⟩;have ne1:e≠A k:=cM w1 e1 (λ_=>by nofun) λ_ _=>by nofun
   have ne2:dx≠A k:=cM w1 e2 (λ_=>by nofun) λ_ _=>by nofun
   refine⟨⟨o,fz g'⟩,q A' _ e dx xs h2 g2 ((zg ne1).trans e1) ((zg ne2).trans e2) ?_⟩;rw[P1];exact e3.sw w1 (.inl zd) λb z=>zg z
  .exact q.elim
end
def rJ(hc:X.calm=true)(own:Own X)(hv:∀E',PE (thr X E') qP (eC i))(hg:∀E',HG (thr X E') W tg mg)(hb:∀E',HSs (thr X E') W E' body mb)(hs:∀x,foldedSetIterable qP X.env x=pure x:=by intro _;rfl):
  HS (thr X E) W E (.For tg qP body [] pos) (mK i mg mb):=λhK=>by
 refine⟨tFz (λE' D σ H=>∃g tb,PG (thr X E') tg g/\PSs (thr X E') body tb/\Ek (A_ (eC i)) g tb D σ H) E,Im λE' pins s σ H D I ⟨g,tb,p1,p2,q⟩=>nN (X:=thr X E') (zB own) hc (uV (hv E')) p1 p2 hs pins s σ H D I q,λZ hZ A H σ ρ G R D q=>?_⟩;unfold mK at q;split at q
 .rename_i k hx;split at q
  .rename_i kvs hcell;obtain⟨v,hσ,hk,rfl⟩:=R.var i _ hx;obtain⟨es,ha,rk⟩:=R.toHH.cell k _ hcell;subst hZ;refine .inl ⟨A k,es,ha,λo=>?_⟩;obtain⟨g,p1,lg⟩:=hg (Ef (A k) es E) hK;obtain⟨tb,p2,lb⟩:=hb (Ef (A k) es E) hK;have g1:=R.toHH.frw (o:=.frz o (.dK es)) hk ha id;have h1:=R.toHH.write (c:=.z kvs) (o:=.frz o (.dK es)) hk ha id ⟨o,es,zd,rk.imp λ_ _ h=>h.gro g1⟩;have Rf:HR Z A (upd H (A k) (.frz o (.dK es))) σ ρ (G.set k (.z kvs)):=R.gro h1 (by rw[P1];exact g1);have q2:=xu (o:=o) hk ha q;refine⟨g,tb,p1,p2,ic (W:=Z.W) (Z:=Z) (xs:=kvs.map λkx=>kP kx.1) rfl (λRr qq=>?_) lg lb Rf (by rw[P1];exact q2)⟩;have hi:=CM (W:=Z.W) (M:=HM Z A (G.set k (.z kvs)).length) (N:=λa=>¬p0 A (G.set k (.z kvs)) a) (H2:=upd H (A k) (.frz o (.dK es))) (kvs:=kvs.map λkx=>(kx.1,PV.n)) zd (by rw[R7];exact rk.keys);rw[R7]at hi;exact⟨.ref (A k),hσ,A k,o,es,rfl,zd,qq _ _ (zl.refl _) hi⟩
  .exact q.elim
 .exact q.elim
section
variable {X:Cx}{pins:My}{σ:St}{H:Hp}{s:MH}{a b:Addr}{kvs more:MM}{A:Nb}{E:MC}
end
section
variable {X:Cx}{C:LC}{S Sb Sc:MB}{o e:MR}{m:ME}{w:Bool}{pos p:Pos}
end
section
variable {X:Cx}{o:MR}{to:TE}{p pos jo vz:Pos}
end
section
variable {X:Cx}{C:LC}{S:MB}{w:Bool}{o:MR}{m:ME}{p pos jo vz:Pos}
end
section
variable {X:Cx}{W:RC}{E:XK}{tg a0 b0:MR}{body:Nk}{mg:HMG}{mb:HMS}{pos ipos:Pos}{i:Nat}{n:Int}
end
section
variable {prog:MV}{w:M_}{A:Nb}{E:MC}{s:MH}
end
section
variable {X:Cx}{pins:My}{σ:St}{H:Hp}{s:MH}{W:RC}
end
section
variable {X:Cx}{C:LC}{S:MB}{e a b:MR}{m m1 m2:ME}{pos:Pos}
end
section
variable {X:Cx}{o:MR}{to:TE}{p pos jo vz:Pos}
end
section
variable {X:Cx}{C:LC}{S:MB}{w:Bool}{o:MR}{m:ME}{p pos jo vz:Pos}
end
section
variable {prog:MV}{w:M_}{A:Nb}{R:Result->Shared->Prop}{I S:Addr}{fp wr:Nf}{n:Nat}{P:Nat->Value->Prop}{St:Nat->Heap->Prop}{d:Value}
end
section
variable {X:Cx}{C:LC}{S:MB}{e:MR}{ws:MP}{ms:MA}{p pos kpos pk:Pos}{jk:Nat}{n:Int}{t:TA}
end
def LsR(W:RC)(H:Hp):List PV->List Addr->Prop
 |[],ps=>ps=[]
 |y::ys,ps=>∃p r kvs es,ps=p::r/\y=.l kvs/\cR kvs=true/\H p=some (.lst es)/\zI W (λ_=>False) H kvs es/\LsR W H ys r
def LsR.gen(f:Fr (λ_=>False) H H'):∀{ps:Nf},LsR W H ys ps->(∀p∈ps,∀o,H p=some o->H' p=some o)->LsR W H' ys ps:=by
 induction ys with
 |nil=>intro ps h _;exact h
 |cons y ys ih=>intro ps h hs;obtain⟨p,r,kvs,es,rfl,rfl,hi,hp,rk,hr⟩:=h;exact⟨p,r,kvs,es,rfl,rfl,hi,hs p M3 _ hp,rk.gen f λ_ m _=>m,ih hr λq hq=>hs q (M8 _ hq)⟩
def LsR.at:∀{ps:Nf},LsR W H ys ps->∀p∈ps,∃es,H p=some (.lst es):=by
 induction ys with
 |nil=>intro ps h;cases(show ps=[]from h);intro p hp;cases hp
 |cons y ys ih=>
  intro ps h;obtain⟨q,r,kvs',es',rfl,rfl,_,h1,_,hr⟩:=h;intro p hp;rcases O5.mp hp with rfl|hp
  .exact⟨_,h1⟩
  .exact ih hr p hp
section
variable {X:Cx}{C:LC}{S:MB}{mi:MI}{mg:MG}{mc:MT}{me:ME}
end
def wy:PV->Cell
 |.l kvs=>.l (kvs.map .v)
 |_=>.l []
def xw:∀{vs:ML},zI W M H xs vs->qp W M A n H (xs.map .v) vs:=by
 induction xs with
 |nil=>intro vs r;unfold zI at r;unfold qp;exact r
 |cons x xs ih=>intro vs r;unfold zI at r;obtain⟨v,q,rfl,r1,r2⟩:=r;rw[N5];unfold qp;exact⟨v,q,rfl,(by unfold jt;exact r1),ih r2⟩
def xx(hRi:∀a∈R,∀o,H' a=some o->¬Imm o):∀{ps:Nf}{A:MN}{G:AH},LsR Z.W H' ys ps->ps.Nodup->(∀p∈ps,p∉R)->HH Z A (hide H' (ps++R)) G->∃A',HH Z A' (hide H' R) (G++ys.map wy)/\Gro Z A G.length (hide H' (ps++R)) A' (G++ys.map wy).length (hide H' R)/\∀j p,ps[j]?=some p->A' (G.length+j)=p:=by
 induction ys with
 |nil=>
  intro ps A G h nd hR hh;cases(show ps=[]from h);refine⟨A,?_,?_,λj p e=>by rw[List.getElem?_nil]at e;cases e⟩
  .rw[a1C,P4];exact hh
  .rw[a1C,P4];exact Gro.refl
 |cons y ys ih=>
  intro ps A G h nd hR hh;obtain⟨p,r,kvs,es,rfl,rfl,hi,hp,rk,hr⟩:=h;have hnd:=a0b.mp nd;have hpo:p∉r++R:=λz=>(R9.mp z).elim hnd.1 (hR p M3);have hn:hide H' (p::(r++R)) p=none:=fq M3;have sm:zl (hide H' (p::(r++R))) (hide H' (r++R)):=cU;have hp':hide H' (r++R) p=some (.lst es):=(wR hpo).trans hp;have rk':zI Z.W (HM Z (exA A G.length p) (G.length+1)) (hide H' (r++R)) kvs es:=by
   refine Jd hi (zI.gen (M:=λ_=>False) (M':=λ_=>False) (H:=H') ?_ (λ_ m _=>m) rk);intro a o h m;have hm:a∉r++R:=λz=>by
    rcases m with m|m
    .exact m
    .rcases R9.mp z with z|z
     .obtain⟨es',he'⟩:=hr.at a z;rw[he']at h;cases h;exact m
     .exact hRi a z o h m
   rw[wR hm];exact h
  have hc:Uy Z.W (HM Z (exA A G.length p) (G.length+1)) (exA A G.length p) (G.length+1) (hide H' (r++R)) p (wy (.l kvs)):=⟨es,hp',xw rk'⟩;have h2:=hh.alloc sm hn hc;have hl:(G++[wy (.l kvs)]).length=G.length+1:=by simp
  obtain⟨A',h3,g3,a3⟩:=ih (A:=exA A G.length p) (G:=G++[wy (.l kvs)]) hr hnd.2 (λq hq=>hR q (M8 _ hq)) h2;have el:G++[wy (.l kvs)]++ys.map wy=G++(PV.l kvs::ys).map wy:=by simp
  rw[el]at h3 g3;have g2:Gro Z A G.length (hide H' (p::(r++R))) (exA A G.length p) (G++[wy (.l kvs)]).length (hide H' (r++R)):=by rw[hl];exact Gro.ext sm hn
  refine⟨A',h3,g2.trans g3,λj q e=>?_⟩;cases j with
  |zero=>rw[a1o]at e;cases e;rw[Nat.add_zero,g3.agr _ (by rw[hl];exact a0r _),Jb]
  |succ j=>rw[P6]at e;have:=a3 j q e;rw[hl]at this;rw[<- this];congr 1;omega
section
variable {X:Cx}{W:RC}{E:XK}
variable {fr':Bool}{S:MB}{qP tg elt:MR}{ifs:MK}{me:ME}{mc:MT}{mg:MG}{mi:MI}{pos nC py:Pos}{i j:Nat}{scope:Scope}{y:Str}
end
section
variable {X:Cx}
end
section
variable {X:Cx}{W:RC}{E:XK}{o e f:MR}{m1 m2:HME}{ma:HMA}{jo p pos:Pos}
end
section
variable {X:Cx}{C:LC}{S:MB}{w:Bool}{e:MR}{lo hi:NH}{m:ME}{ml mh:MO}{p2 pos:Pos}
end
section
variable {X:Cx}{pins:My}{σ:St}{H:Hp}{s:MH}{h':Heap}{ch:Nf}{T:Addr}{o:HO}{t':Nat}
end
section
variable {P:MV}{w:M_}{K:Nh}{elts:MK}{kk:Nat}{tp:Pos}
end
section
variable {X:Cx}{C:LC}{S:MB}{elts:MK}{kk:Nat}{tp p pos:Pos}{e a b:MR}{m:ME}{ms:MA}{cc:Bool}
end
section
variable {X:Cx}{C:LC}{S:MB}{o e f:MR}{w1 w2:Bool}{m1 m2 m3:ME}{vz jo:Pos}
end
section
variable {X:Cx}{C:LC}{S:MB}{elts:MK}{kk:Nat}{tp p pos:Pos}{a b:MR}{m1 m2:ME}
end
section
variable {X:Cx}{W:RC}{E:XK}{e:MR}{es:MK}{pos p:Pos}{ms:HMA}{x:Str}{k:Nat}{f:Addr}{fd:Na}{ps:MD}{g:MU}{ws:MP}
end
def xy(m1 m2:HME):HME:=λρ G=>(m1 ρ G).bind λx G1=>match x with
 |.v (.b c)=>if c=true then m2 ρ G1 else .ok (.v (.b false)) G1
 |_=>.wall
section
variable {X:Cx}{W:RC}{E:XK}{a b:MR}{rest:MK}{pos:Pos}{m1 m2:HME}
def FX{op}(h:HE X W E a m1):HE X W E (.BoolOp op [a] pos) m1:=λhK=>let⟨tt,a1,a2⟩:=h hK;⟨tt,Ao a1,a2⟩
def FY(h:HE X W E a m1)(h2:HE X W E (.BoolOp .And (b::rest) pos) m2):HE X W E (.BoolOp .And (a::b::rest) pos) (xy m1 m2):=λhK=>by
 obtain⟨tt,a1,a2⟩:=h hK;obtain⟨tu,b1,b2⟩:=h2 hK;refine⟨_,Ap a1 b1,λZ hZ A H σ ρ G R Q q=>a2 Z hZ A H σ ρ G R _ (HPx.bind q λx A1 H1 G1 h1 g1 q1 v rx=>?_)⟩;cases x with
 |v x=>
  cases x with
  |b c=>
   refine⟨c,(show v=.bl c from rx),?_⟩;cases c with
   |true=>exact AI (b2 Z hZ A1 H1 σ ρ G1 (R.gro h1 g1) _ q1)
   |false=>exact AG (q1 A1 H1 h1 Gro.refl _ rfl)
  |_=>exact q1.elim
 |_=>exact q1.elim
end
def LFr.le(h:LFr C S te m):LE C S false te m:=λB P H σ ρ R Q q=>h B P H σ ρ R Q (ZT q λx v H2 s hr=>RV.of (hr.rep R.new))
section
variable {X:Cx}{W:RC}{E:XK}{fr' fr:Bool}{S:MB}{qP tg elt:MR}{ifs:MK}{m me:ME}{mc:MT}{mg:MG}{mi:MI}{pos nC py:Pos}{i j:Nat}{scope:Scope}{y:Str}
def Mo(bs:MP)(a2:LE ⟨W,E,fr⟩ S false te m)(hS:S.all (·==0)=true:=by rfl):∀(Z:HC),Z.W=W->∀A H σ ρ G,HR Z A H σ ρ G->∀Q,HPx Z E A G.length H (KV' Z Q) (hP bs m ρ G)->te σ H Q:=λZ hZ A H σ ρ G R Q q=>by
 subst hZ;unfold hP at q;split at q
 .rename_i r hr;refine a2 _ _ H σ r (mF R hr hS) Q ?_;revert q;cases m r with
  |ok x=>exact λq v H2 s rx=>q A H2 (R.toHH.keep s) (Gro.same s) v (rx.rep.sub λa m _=>xa R.toHH a m)
  |exc c fs=>exact λq=>aF R.toHH q λH2 es h=>h.sub λa m _=>m.elim id λn=>R.toHH.new a n
  |wall=>exact id
 .split at q
  .rename_i r hr;refine a2 _ _ H σ r (u_ R hr hS) Q ?_;revert q;cases m r with
   |ok x=>
    intro q v H2 s rx;dsimp only at q;split at q
    .rename_i hi;exact q A H2 (R.toHH.keep s) (Gro.same s) v (Wq hi rx.rep)
    .exact q.elim
   |exc c fs=>
    intro q;dsimp only at q;split at q
    .rename_i hi;exact aF R.toHH q λH2 es h=>YT hi h
    .exact q.elim
   |wall=>exact id
  .exact q.elim
def FZ(bs:MP)(N:MD)(fr:MW)(Si:MB)(hN:X.N.Nodup)(hy:X.N[j]?=some y)(hl:X.env.scope.names.lookup y=some .local)(hc:X.calm=true)(hok:oy X scope N fr=true)(hi:IM X ⟨W,E,fr'⟩ S true tg qP mi)(hg:∀z:CI,GM (cxI X scope N z) ⟨W,E0,false⟩ Si Si tg mg)(ht:∀z:CI,TsM (cxI X scope N z) ⟨W,E0,false⟩ Si ifs mc)(he:∀z:CI,EM (cxI X scope N z) ⟨W,E0,false⟩ Si false elt me)(hS:Si=inS S fr:=by rfl)(h0:S.all (·==0)=true:=by rfl)
  (hsw:swapsWith (.ListComp elt [⟨tg,qP,ifs,0⟩] scope pos) (some (.Name y py)) nC.line X.env=pure true:=by rfl) (hs:∀x,foldedSetIterable qP X.env x=pure x:=by intro _;rfl):HS X W E (.Assign [.Name y py] (.ListComp elt [⟨tg,qP,ifs,0⟩] scope pos) nC) (KN j (hP bs (mLC mi fr mg mc me))):=λhK=>by
 obtain⟨wi,a1,a2⟩:=hi hK;obtain⟨g,b1,b2⟩:=ay hg λ_=>hK;obtain⟨tc,c1,c2⟩:=ax ht λ_=>hK;obtain⟨te,d1,d2⟩:=aw he λ_=>hK;exact⟨_,EW N fr hN hy hl hc hok a1 (λfp pn s H L=>b1 ⟨fp,pn,s,H,L⟩) (λfp pn s H L=>c1 ⟨fp,pn,s,H,L⟩) (λfp pn s H L=>d1 ⟨fp,pn,s,H,L⟩) hsw hs,Be (Mo bs (fr:=fr') (CF a2 rfl hS b2 c2 d2).le h0)⟩
end
section
variable {X:Cx}{C:LC}{S S' S1 S2 S3 Sb Sc:MB}{j:Nat}{pos:Pos}{m1 m2 m3:MS}
end
section
variable {X:Cx}{W:RC}{E:XK}{e:MR}{es:MK}{pos p pos':Pos}{ms:HMA}{m:HME}{x y:Str}{k n i j:Nat}{f:Addr}{fd:Na}{ps:MD}{g:List HV->AH->HX HV}{m1 m2 m3:HMS}
end
section
variable {X:Cx}{W:RC}{E:XK}{a b:MR}{pos:Pos}{m1 m2:HME}
end
section
variable {X:Cx}{W:RC}{E:XK}{e:MR}{es:MK}{pos p:Pos}{ms:MA}{x:Str}{k:Nat}{f:Addr}{fd:Na}{ps:MD}{g:MU}{ws:MP}{S:MB}{fr:Bool}
end
section
variable {X:Cx}{W:RC}{E:XK}{fr' fr:Bool}{S:MB}{qP tg elt:MR}{ifs:MK}{m me:ME}{mc:MT}{mg:MG}{mi:MI}{pos nC py:Pos}{i j:Nat}{scope:Scope}{y:Str}
end
section
variable {X:Cx}{W:RC}{e:MR}{es:MK}{ms:HMA}{g:List HV->AH->HX HV}{k n:Nat}{f:Addr}{fd:Na}{ps:MD}{x:Str}{p pos:Pos}
end
section
variable {X:Cx}
end
section
variable {X:Cx}{C:LC}{S:MB}{x:Str}{e:MR}{es:MK}{ws:MP}{ms:MA}{pos p:Pos}
end
section
variable {X:Cx}{W:RC}{E:XK}{e:MR}{ms:HMA}{p pos:Pos}
end
section
variable {X:Cx}{W:RC}{E:XK}{o:MR}{m:HME}{pos jo:Pos}{mn:Str}
end
section
variable {prog:MV}{w:M_}{A:Nb}{it t:Addr}{items:Nn}{i:Nat}{x:Value}
end
section
variable {prog:MV}{w:M_}{A:Nb}{z TI TO i1 i2 l1 l2:Addr}{x y a b:Value}{B1 N1 B2 N2:Heap->Prop}
end
section
variable {prog:MV}{w:M_}{A:Nb}{z TI TO i1 i2 l1 l2:Addr}{xs ys:Nn}{x y a b:Value}{i:Nat}{s:MH}{Q:Option Value->Shared->Prop}{E:MC}
end
section
variable {prog:MV}{w:M_}{A:Nb}{E:MC}{s:MH}{l1 l2:Addr}{xs ys:Nn}{Q:MC}
end
section
variable {P:MV}{w:M_}{K:Nh}{elts:MK}{kk:Nat}{tp:Pos}
end
section
variable {X:Cx}{C:LC}{S:MB}{elts:MK}{kk:Nat}{tp p pos:Pos}{a b:MR}{ms:MA}{cc:Bool}
end
section
variable {X:Cx}{C:LC}{S:MB}{qP tg elt:MR}{ifs:MK}{me:ME}{mc:MT}{mg:MG}{pos jo vz:Pos}{i:Nat}{scope:Scope}
end
section
variable {prog:MV}{w:M_}{A:Nb}{E:MC}{s:MH}{K:Type}[DecidableEq K] {knd:PySem.KeyKind prog w K}
end
section
variable {X:Cx}
end
section
variable {X:Cx}{C:LC}{S:MB}{e:MR}{ws:MP}{ms:MA}{pos p:Pos}
end
section
variable {Z:HC}{A:MN}{H:Hp}{G:AH}
def YW(h:HH Z A H G):∀(n:Nat)(x:HV)(v:V)(y:PV),jt Z.W (HM Z A G.length) A G.length H x v->jN G n x=some y->Rep Z.W (λa=>Z.M0 a\/Z.H0 a=none) H y v
 |0,_,_,_,_,e=>by cases e
 |n+1,.v x,v,y,r,e=>by cases e;exact Rep.sub r λ_ m _=>m.1
 |n+1,.t xs,v,y,r,e=>by unfold jN at e;obtain⟨ys,e1,rfl⟩:=t0.mp e;unfold jt at r;obtain⟨p,vs,rfl,s,q⟩:=r;exact⟨p,vs,rfl,s,Je (YW h n) q e1⟩
 |n+1,.g k,v,y,r,e=>by
  obtain⟨hk,rfl⟩:=r;have hn:=h.own k hk;unfold jN at e;split at e
  .rename_i xs hc;obtain⟨ys,e1,rfl⟩:=t0.mp e;obtain⟨vs,h1,q⟩:=h.cell k _ hc;exact⟨A k,vs,rfl,.inr hn,h1,Je (YW h n) q e1⟩
  .rename_i xs hc;obtain⟨ys,e1,rfl⟩:=t0.mp e;obtain⟨vs,h1,q⟩:=h.cell k _ hc;exact⟨A k,vs,rfl,.inr hn,.inl h1,Jf (YW h n) q e1⟩
  .rename_i xs hc;obtain⟨ys,e1,rfl⟩:=t0.mp e;obtain⟨o,vs,h1,q⟩:=h.cell k _ hc;exact⟨A k,vs,rfl,.inr hn,.inr ⟨o,h1⟩,Jf (YW h n) q e1⟩
  .rename_i c xs hc;obtain⟨ys,e1,rfl⟩:=t0.mp e;obtain⟨dx,vs,h1,q⟩:=h.cell k _ hc;exact⟨A k,dx,vs,rfl,.inr hn,h1,aE (YW h n) q e1⟩
  .cases e
end
def mkV(c:Nat)(g:List HV->AH->HX HV)(xs:MX):Out PV:=match g (.g 0::xs.map .v) [.o c []]with
 |.ok (.v .n) G=>(match jN G 8 (.g 0)with
  |some z=>.ok z
  |none=>.wall)
 |.exc c fs _=>.exc c fs
 |_=>.wall
def ir(M:Mk X.K (C.W.cls c) f)(F:y8 X.prog X.w X.K X.mg X.base (CXe X.prog X.w) k f fd ps (hsp C.W n g))(hr:qQ (k+1) X.A)(hg:Gl X x)(hm:X.mg x=some (.ref (C.W.cls c)))(hb:Binds X.K fd ps [])(hx:Passes (CXe X.prog X.w) X C.E)(ha:AM X C S ws (e::es) ms)(hw:ws.all (!·)=true)(hn:ws.length+1=n)
  (hdb:(x==("__debug__":Str))=false:=by decide) (he:starEach (e::es) X.env=(false,eval e X.env)::starEach es X.env:=by rfl) (hpl:(backTo pos (starEach es X.env)).any (·.1)=false:=by rfl):EM X C S false (.Call (.Name x p) (e::es) [] pos) (zj (mkV c g) ms):=λhK=>by
 obtain⟨ta,a1,a2⟩:=ha hK;refine⟨_,nY M F hr hg hm hb .nil hx a1 hdb he hpl,λB P H σ ρ R Q q=>a2 B P H σ ρ R _ (yM q λxs vs H1 s1 r1 q1=>?_)⟩;intro x dx hx hd hne;rw[P4];have R1:=R.keep s1;have sm:zl H1 (upd (upd H1 dx (.own x)) x (.ins (C.W.cls c) dx [])):=λb o hb=>by rw[zg (yd hb hx),zg (yd hb hd)];exact hb
 have sM:∀a,(Mof B S P a\/H1 a=none)->Mof B S P a:=λa m=>m.elim id λn=>R1.new a n;have hM:∀a,Mof B S P a->H1 a≠none->HM ⟨C.W,H1,Mof B S P⟩ (λ_=>x) 1 a:=λa m n=>⟨.inl m,λ_ _ z=>n (z▸hx)⟩;have hh:HH ⟨C.W,H1,Mof B S P⟩ (λ_=>x) (upd (upd H1 dx (.own x)) x (.ins (C.W.cls c) dx [])) [.o c []]:=by
  refine⟨sm,λk d e=>?_,λj k hj hk _=>?_,λk _=>hx⟩
  .cases k with
   |zero=>cases e;exact⟨dx,[],zd,rfl⟩
   |succ k=>simp at e
  .have hj:j<1:=hj;have hk:k<1:=hk;omega
 have ar:∀{ws:MP}{xs:MX}{vs:ML},ws.all (!·)=true->qS C.W (Mof B S P) H1 ws xs vs->qp C.W (HM ⟨C.W,H1,Mof B S P⟩ (λ_=>x) 1) (λ_=>x) 1 (upd (upd H1 dx (.own x)) x (.ins (C.W.cls c) dx [])) (xs.map .v) vs:=λ{ws}=>by
  induction ws with
  |nil=>intro xs vs _ ⟨e1,e2⟩;subst e1;exact e2
  |cons w ws ih=>
   intro xs vs hw ⟨x',v,xr,vr,e1,e2,h1,h2⟩;subst e1;rw[a1R,a1b]at hw;cases w with
   |true=>cases hw.1
   |false=>exact⟨v,vr,e2,Rep.gen (M:=Mof B S P) (sm.fr) (λa m n=>hM a m n) (yG.iff.mp h1),ih hw.2 h2⟩
 have hl:xs.length+1=n:=by rw[r1.args.len.2,hn]
 refine⟨⟨C.W,H1,Mof B S P⟩,λ_=>x,[.o c []],.g 0::xs.map .v,rfl,by rw[v4,u8,hl],hh,⟨.ref x,vs,rfl,⟨Nat.one_pos,rfl⟩,ar hw r1.args⟩,?_⟩;unfold mkV at q1;revert q1;cases g (.g 0::xs.map .v) [.o c []]with
 |wall=>exact id
 |exc c' fs G2=>intro q1 A2 H2 e dx' es h2 g2 he hd' rf;exact q1 e dx' es H2 (R1.same.trans h2.same) he hd' (rf.sub λa m _=>(sM a m.1).1.1)
 |ok y G2=>
  intro q1;cases y with
  |v z=>
   cases z with
   |n=>
    intro A2 H2 h3 g3 v rv;dsimp only at q1;split at q1
    .rename_i z hz;refine⟨rv,q1 (.ref x) H2 h3.same (RV.of ?_)⟩;have:=YW h3 8 (.g 0) (.ref x) z ⟨N9 Nat.one_pos g3.le,by rw[g3.agr 0 Nat.one_pos]⟩ hz;exact this.sub λa m _=>sM a m
    .exact q1.elim
   |_=>exact q1.elim
  |_=>exact q1.elim
section
variable {CX:CXT}{P:MV}{w:M_}{K:MQ}{mg:Mz}{base:Heap}{k:Nat}{f:Addr}{name qual x:Str}{params:Arguments}{body:MR}{scope:Scope}{pm ctv:Value}{c':Addr}{oc:Obj}{ws:Nn}{tq:Tok}{N:MD}{sp:Sp}
def C8(S:zk N [x] scope)(hd:oc.data=.fields ws)(hq:ws[1]?=some (.str qual tq))(hbind:∀(s:MH)(u:Value),BindsTo s (kla_fn name qual params body scope [] pm (.ref c') ctv) ⟨[u],[]⟩ [(x,u)])
  (J3:∀(A:Nb)(outer:List Env)(s:MH)(H:Hp)(vs:ML)(Q:VK)(E:XK),qQ k (A.deeper (envOfC qual scope s.heap.objs.size f (.ref c')))->sp vs H Q E->∃te,PE (U3 CX P w K mg base N qual scope f (.ref c') A outer s H E) body te/\te (start N vs) H Q) (hr:qQ (k+1) A) (e0:nW P w K mg base A outer s H) (hof:s.heap.get? f=some (kla_obj name qual params body scope [] pm c' ctv)) (hoc:s.heap.get? c'=some oc) (r:RelV v u) (hsp:sp [v] H Q E):
  codeAny (model P w) A (.call (.ref f) ⟨[u],[]⟩) (CR CX outer P w H s Q E) s:=by
 have lim:s.heap.NoLimit:=e0.mod.nolimit.keeps λb o e=>(e0.bs b o e).1;have hkind:∀y∈[(x,u)],scope.names.lookup y.1=some .local\/(scope.names.lookup y.1=some .cell/\((cellsFrom (s.heap.objs.size+1) scope.names []).lookup y.1).isSome=true):=λy hy=>by
  rw[O7.mp hy];rcases S.par x M3 with q|q
  .exact .inl q
  .exact .inr ⟨q,a1t _ _ _ (.inl q)⟩
 refine kla_callFunE hr.depth hof rfl S.co S.gen rfl ⟨c',oc,ws,tq,rfl,hoc,hd,hq⟩ (hbind s u _ _ _ _ ?_);refine a1Q S.kind hkind λenv he s1 y=>?_;subst he;refine⟨lim.keeps y.toInCall.keep,kla_codeExpr ?_⟩;obtain⟨te,ht,q⟩:=J3 A outer s H [v] Q E (hr.deeper _) hsp;have I:Inv (U3 CX P w K mg base N qual scope f (.ref c') A outer s H E) [] (start N [v]) H s1:=bZ S hr.hd e0 rfl (.cons r .nil) y;refine T2 (ht [] s1 (start N [v]) H _ I q) (λz s' hs=>?_) λe s' hs=>hs;obtain⟨z',H',J,rz,q'⟩:=hs;exact⟨z',H',J.os,J.bare,J.base,J.hok,rz,q'⟩
def F3(S:zk N [x] scope)(hd:oc.data=.fields ws)(hq:ws[1]?=some (.str qual tq))(hbind:∀(s:MH)(u:Value),BindsTo s (kla_fn name qual params body scope [] pm (.ref c') ctv) ⟨[u],[]⟩ [(x,u)])
  (J3:∀(A:Nb)(outer:List Env)(s:MH)(H:Hp)(vs:ML)(Q:VK)(E:XK),qQ k (A.deeper (envOfC qual scope s.heap.objs.size f (.ref c')))->sp vs H Q E->∃te,PE (U3 (CXe X.prog X.w) X.prog X.w X.K X.mg X.base N qual scope f (.ref c') A outer s H E) body te/\te (start N vs) H Q):
  KC X (k+1) [(f,kla_obj name qual params body scope [] pm c' ctv),(c',oc)] f sp:=λhlp hr hA I r h=>by
 have p1:=I.pin _ (O3 _ (hlp _ M3));have p2:=I.pin _ (O3 _ (hlp _ (M8 _ M3)));refine a0G (a0J (C8 (outer:=X.stack) S hd hq hbind J3 hr hA p1.1 p2.1 r h) λr s' hq=>?_);cases r with
 |error e=>exact(Wm hq).elim
 |ok fl=>
  cases fl with
  |ret u=>exact I.after hq
  |next=>exact False.elim hq
  |brk=>exact False.elim hq
  |cont=>exact False.elim hq
end
def Inv.grow(I:Inv X pins σ H s)(hP:H P=some (.tbl ps))(k:∀b u,b≠P->s.heap.get? b=some u->h'.get? b=some u)(hT:h'.get? P=some { cls:=.none,data:=.fields (ps++more) }):Inv X pins σ (upd H P (.tbl (ps++more))) { s with heap:=h',toks:=t' }:=by
 have ne:∀b,H b=none->b≠P:=λb n q=>by rw[q,hP]at n;cases n
 have ne2:∀b u,H b=some u->(∀qs,u≠.tbl qs)->b≠P:=λb u e n q=>by rw[q,hP]at e;cases e;exact n _ rfl
 refine I.un ⟨λb o e n _ _=>k b o (ne b n) e,λb o e n _ _=>⟨o.slots,k b o (ne b n) e⟩,λb o e n _=>by rw[zg (ne b n)];exact n,λb o e _=>?_,λb xs e=>by rw[zg (ne2 b _ e λqs z=>by cases z)];exact e,λb o u e=>by rw[zg (ne2 b _ e λqs z=>by cases z)];exact e,λb qs e=>?_⟩ λb u e=>?_
 .by_cases c:b=P
  .rw[c];exact⟨_,hT⟩
  .exact⟨o,k b o c e⟩
 .by_cases c:b=P
  .rw[c,hP]at e;cases e;exact⟨more,by rw[c];exact zd⟩
  .exact⟨#[],by rw[zg c,e];simp⟩
 .by_cases c:b=P
  .rw[c,zd]at e;cases e;rw[c];exact hT
  .rw[zg c]at e;refine(I.hok b u e).nj (λd v hd q=>k d v ?_ q) (λd q=>by rw[zg (ne2 d _ q λqs z=>by cases z)];exact q) λd xs q=>by rw[zg (ne2 d _ q λqs z=>by cases z)];exact q
   rcases hd with z|z
   .rw[z];exact c
   .exact ne2 d _ z λqs y=>by cases y
def C9{K:Nh}{H:Hp}{P l:Addr}{ps:Nn}{o:HO}{ys:ML}(h:SqL K H l ys)(hP:H P=some (.tbl ps)):SqL K (upd H P o) l ys:=by
 have ne:∀u,H l=some u->(∀qs,u≠.tbl qs)->l≠P:=λu e n q=>by rw[q,hP]at e;cases e;exact n _ rfl
 rcases h with h|h
 .rcases h with h|⟨o',h⟩
  .exact .inl (.inl (by rw[zg (ne _ h λqs z=>by cases z)];exact h))
  .exact .inl (.inr ⟨o',by rw[zg (ne _ h λqs z=>by cases z)];exact h⟩)
 .exact .inr h
def xA(hcd:X.env.code=.ref c)(hC:CodeHd X.base c P)(hB:X.base.BuiltinsAt X.mg P)(hgP:mainGlobals≠P)(hcl:closureFor scope X.env=pure [])(hdf:defaultsOf params X.env=([],[]))(S:zk N [x] scope)
  (hbind:∀(pm:Value)(c':Addr)(ctv:Value)(s:MH)(u:Value),BindsTo s (kla_fn "<lambda>" (X.env.qual++"<lambda>") params body scope [] pm (.ref c') ctv) ⟨[u],[]⟩ [(x,u)])
  (J3:∀(f c':Addr)(A:Nb)(outer:List Env)(s:MH)(H:Hp)(vs:ML)(Q:VK) (E:XK),qQ k (A.deeper (envOfC (X.env.qual++"<lambda>") scope s.heap.objs.size f (.ref c')))->sp vs H Q E->∃te,PE (U3 (CXe X.prog X.w) X.prog X.w X.K X.mg X.base N (X.env.qual++"<lambda>") scope f (.ref c') A outer s H E) body te/\te (start N vs) H Q)
  (hr:qQ (k+1+2) X.A) (hg:Gl X "sorted") (hm:X.mg "sorted"=none) (ha:PA X [e] t)
  (he1:backTo pos (starEach [e] X.env)=(false,eval e X.env)::backTo pos (starEach [] X.env):=by rfl) (hpl:(backTo pos (starEach [e] X.env)).any (·.1)=false:=by rfl):
  PE X (.Call (.Name "sorted" p) [e] [⟨some "key",.Lambda params body scope lpos,kpos⟩] pos) (λσ H Q=>t σ H λvs H1=>∃l ys ps,vs=[.ref l]/\SqL X.K H1 l ys/\H1 P=some (.tbl ps)/\TriplesOk ps.toList/\codeAmong lpos ps.toList=none/\∀c',rC sp X.K ys (upd H1 P (.tbl (ps++#[rawInt lpos.line,rawInt lpos.col,.ref c']))) Q):=by
 intro pins s σ H Q I h;refine a0h (Kz I hg hm boot_sorted ?_ (by decide) (by decide));refine callWith_kw (thn (ha pos pins s σ H _ I h) λus s1 ⟨vs,H1,I1,r1,l,ys,ps,hv,hl,hP,ht,hnf,hq⟩=>?_) he1 hpl;subst hv;obtain⟨u,rfl,ru⟩:=vals1 r1;cases ru;show wpAny _ _ (evalAll ((do let v<-eval (.Lambda params body scope lpos) X.env;standAt pos;pure v)::(backToKw pos (keywordEach [] X.env)).map (·.2))) _ _ s1;have kp:=I1.bk;refine a2U (f8 (kla_eval hdf (kla_makeFunction (mg:=X.mg) hcl I1.ok.glob (I1.mod.glob.keeps kp) hcd (hC.keeps kp) (I1.hok P _ hP) ht hnf hgP ?_ λc' ctv h' tk hx hge hlt hrec hT=>?_)))
 .obtain⟨bm,o,b1,b2,b3,b4,b5,b6⟩:=hB;exact⟨bm,o,b1,b2,b3,b4,kp _ _ b5,b6⟩
 refine f8 (a0Y (M9 (M9 ?_)));obtain⟨c2,oc,ws,tq,e2,hoc,hd,hqn⟩:=hrec;cases e2;have hTn:∀b u,b≠P->s1.heap.get? b=some u->(h'.push (kla_obj "<lambda>" (X.env.qual++"<lambda>") params body scope [] ((X.mg "__name__").getD .none) c' ctv)).get? b=some u:=λb u n q=>M6 _ (hx b u n q);have I2:=I1.grow (h':=h'.push (kla_obj "<lambda>" (X.env.qual++"<lambda>") params body scope [] ((X.mg "__name__").getD .none) c' ctv)) (t':=tk) hP hTn (M6 _ hT);have hPlt:P<s1.heap.objs.size:=N4 (show s1.heap.get? P=some _ from I1.hok P _ hP);have new:∀a,s1.heap.objs.size<=a->(upd H1 P (.tbl (ps++#[rawInt lpos.line,rawInt lpos.col,.ref c']))) a=none/\a≠X.env.locals/\a∉X.fs:=λa ha=>⟨by rw[zg (a0l (N9 hPlt ha))];exact I1.hok.fresh ha,a0l (N9 I1.lt ha),I1.IZ ha⟩;have I3:Inv X (pins++[(h'.objs.size,kla_obj "<lambda>" (X.env.qual++"<lambda>") params body scope [] ((X.mg "__name__").getD .none) c' ctv),(c',oc)]) σ _ _:=I2.VW λq hq=>by
  rcases R9.mp hq with hq|hq
  .exact I2.pin q (O3 _ hq)
  .rcases O5.mp hq with rfl|hq
   .obtain⟨n1,n2,n3⟩:=new h'.objs.size (a1j (a0L hge hlt));exact⟨O8 _ rfl,n1,n2,n3,λv z=>by cases z⟩
   .rw[O7.mp hq];obtain⟨n1,n2,n3⟩:=new c' hge;exact⟨M6 _ hoc,n1,n2,n3,λv z=>by rw[hd]at z;cases z⟩
 refine T2 (UA (F3 S hd hqn (hbind _ c' ctv) λA outer s H vs Q E=>J3 h'.objs.size c' A outer s H vs Q E) (λq hq=>O3 _ hq) hr I3 (C9 hl hP) (hq c')) (λz s3 ⟨y,H3,I4,ry,q4⟩=>⟨y,H3,I4.kf,ry,q4⟩) λ_ _ z=>z
def C_(P:Addr)(H:Hp):Prop:=H P=some (.tbl #[])/\∀b,b=P\/H b=none\/∃o xs,H b=some (.frz o (.lst xs))
structure Dc(base:Heap)(mg:Mz)(c P:Addr):Prop where
 hd:CodeHd base c P
 bl:base.BuiltinsAt mg P
 ne:mainGlobals≠P
def rK{P:MV}{w:M_}{K:Nh}{mg mb:Mz}{CX:CXT}{k:Nat}{fa a c P₀:Addr}{fd:Na}{x:Str}{sp:Sp}{s₁:MH}{vs:MJ}{ns:Nc}
  (KX:K.In s₁.heap) (hns:s₁.heap.Ns mainGlobals mg) (hb:s₁.heap.Ns builtinsNs mb) (hbb:∀x:Str,x≠"__name__"->mb x=bootBuiltins x) (hlim:s₁.heap.NoLimit) (hg:s₁.gens = #[])
  (ha:s₁.heap.get? a=some { cls:=.type "list",data:=.seq vs.toArray }) (hi:IntsAre vs ns) (hl:ns.length<=sizeLine) (hr:qQ k callerA)
  (hC:CodeHd s₁.heap c P₀) (hT:s₁.heap.get? P₀=some (tabObj #[])) (hnt:noTabs K=true) (hbm:∃bm ob,mg "__builtins__"=some (.ref bm)/\bm≠builtinsNs/\s₁.heap.get? bm=some ob/\ob.cls=.type "module"/\ob.dict=some builtinsNs/\ob.data=.plain)
  (F:∀base:Heap,K.In base->base.Ns mainGlobals mg->Dc base mg c P₀->y8 P w K mg base CX k fa fd [x] sp) (hbind:∀(s:MH)(u:Value),BindsTo s fd ⟨[u],[]⟩ [(x,u)])
  (hsp:∀H:Hp,C_ P₀ H->SqL K H a (ns.map V.int)->sp [.ref a] H (λv _=>v=.bl true) λ_ _ _=>False)
  (hCX:∀H e s',CX [] H s₁ (λ_ _ _=>False) e s'->False):
  codeAny (model P w) callerA (.call (.ref fa) ⟨[.ref a],[]⟩) (λr s'=>r=.ok (.ret (.bool true))/\OldK s₁.heap s'.heap/\s'.os=s₁.os/\AllBare s'.gens) s₁:=by
 have rv:=cn hi;have D4:=hi.length;have aP:a≠P₀:=λq=>by rw[q,hT]at ha;cases ha
 have gP:mainGlobals≠P₀:=λq=>by obtain⟨o,es,ep,e,hd,_⟩:=hns;rw[q,hT]at e;cases e;cases hd
 have core:∀H:Hp,C_ P₀ H->SqL K H a (ns.map V.int)->HOk P w H s₁.heap->(∀b,H b≠none->b=a\/b=P₀)->(H a≠none->K.lookup a=none)->
   codeAny (model P w) callerA (.call (.ref fa) ⟨[.ref a],[]⟩) (λr s'=>r=.ok (.ret (.bool true))/\OldK s₁.heap s'.heap/\s'.os=s₁.os/\AllBare s'.gens) s₁:=by
  intro H hO hS hok hA hK;have base_of:∀{b:Addr}{o:Obj},s₁.heap.get? b=some o->H b=none->(tK s₁.heap H).get? b=some o:=λe n=>tV e n;have noC:∀{b:Addr}{o:Obj},s₁.heap.get? b=some o->o.cls≠.type "list"->o.cls≠.none->H b=none:=λ{b o} e d1 d2=>by
   cases q:H b with
   |none=>rfl
   |some u=>
    rcases hA b (by rw[q];simp)with e'|e'
    .subst e';rw[ha]at e;cases e;exact absurd rfl d1
    .subst e';rw[hT]at e;cases e;exact absurd rfl d2
  have noA:∀{b:Addr}{o:Obj}{es:Array DictEntry}{ep:Nat},s₁.heap.get? b=some o->o.data=.dict es ep->H b=none:=λ{b o es ep} e d=>by
   cases q:H b with
   |none=>rfl
   |some u=>
    rcases hA b (by rw[q];simp)with e'|e'
    .subst e';rw[ha]at e;cases e;have d':Data.seq vs.toArray _=Data.dict es ep:=d;cases d'
    .subst e';rw[hT]at e;cases e;have d':Data.fields #[]=Data.dict es ep:=d;cases d'
  have nsK:∀{b:Addr}{m:Mz},s₁.heap.Ns b m->(tK s₁.heap H).Ns b m:=λ{b m} ⟨o,es,ep,e,d,r⟩=>⟨o,es,ep,base_of e (noA e d),d,r⟩;have hKb:K.In (tK s₁.heap H):=λb o e=>base_of (KX b o e) (by
   cases q:H b with
   |none=>rfl
   |some u=>
    rcases hA b (by rw[q];simp)with e'|e'
    .subst e';rw[hK (by rw[q];simp)]at e;cases e
    .subst e';have h1:=KX _ _ e;rw[hT]at h1;cases h1;have h2:=a0D.mp hnt _ (mem_of_lookupK e);exact absurd (show false=true from h2) O2)
  have hM:Mod K mg (tK s₁.heap H):=⟨hKb,nsK hns,⟨mb,nsK hb,hbb⟩,let⟨mc,h1,h2⟩:=hlim;⟨mc,nsK h1,h2⟩⟩;have tb:Dc (tK s₁.heap H) mg c P₀:=by
   refine⟨?_,?_,gP⟩
   .obtain⟨o,vs,file,tf,flags,tg,inF,text,tt,e,e2,r⟩:=hC;exact⟨o,vs,file,tf,flags,tg,inF,text,tt,base_of e (noC e (by rw[e2];decide) (by rw[e2];exact λz=>by cases z)),e2,r⟩
   .obtain⟨bm,ob,b1,b2,b3,b4,b5,b6⟩:=hbm;refine⟨bm,ob,b1,b2,λq=>?_,λq=>?_,base_of b3 (noC b3 (by rw[b4];decide) (by rw[b4];exact λz=>by cases z)),b4,b5,b6⟩
    .obtain⟨o,es,ep,e,hd,_⟩:=hns;rw[q,e]at b3;cases b3;rw[hd]at b6;cases b6
    .rw[q,hT]at b3;cases b3;cases b4
  have e0:nW P w K mg (tK s₁.heap H) callerA [] s₁ H:=⟨rfl,hM,λb o e=>BJ e,a1A (nF _ _),trivial,λb hb=>absurd (show b∈([]:List Addr)from hb) (by simp),hok,.of_eq hg⟩;refine a0J ((F _ hKb (nsK hns) tb).run callerA [] s₁ H ⟨[.ref a],[]⟩ [.ref a] [.ref a] _ _ hr e0 (hbind s₁ (.ref a)) (.cons rfl .nil) (hsp H hO hS)) λr s' h=>?_;cases r with
  |error e=>exact(hCX H e s' h).elim
  |ok fl=>
   cases fl with
   |next=>exact False.elim h
   |brk=>exact False.elim h
   |cont=>exact False.elim h
   |ret u=>
    obtain⟨v,H',os,bare,un,hok',r',q⟩:=h;have q':v=.bl true:=q;subst q';obtain rfl:u=Value.bool true:=r';have keep:∀b o,b≠P₀->s₁.heap.get? b=some o->s'.heap.get? b=some o:=λb o hne e=>by
     cases q:H b with
     |none=>exact un.keep b o e q (by intro z;exact absurd (show b∈([]:List Addr)from z) (by simp)) (by simp)
     |some u=>
      rcases hO.2 b with z|z|⟨ob,xs,z⟩
      .exact absurd z hne
      .rw[q]at z;cases z
      .have z2:=un.nB b ob _ z;obtain⟨e1,_⟩:=hok b _ z;obtain⟨e2,_⟩:=hok' b _ z2;rw[e]at e1;cases e1;exact e2
    obtain⟨more,hm⟩:=un.sQ P₀ _ hO.1;have hP':s'.heap.get? P₀=some { cls:=.none,data:=.fields (#[]++more) }:=hok' P₀ _ hm;refine⟨rfl,⟨λb o e=>?_,λb o e=>?_⟩,os,bare⟩
    .by_cases hbP:b=P₀
     .subst hbP;rw[hT]at e;cases e;exact .inr (.inl ⟨(hC.tab hT).isCodeTable,rfl,#[],more,rfl,hP'⟩)
     .exact .inl (keep b o hbP e)
    .by_cases hbP:b=P₀
     .subst hbP;exact⟨_,hP'⟩
     .exact⟨o,keep b o hbP e⟩
 have hTo:yF P w (λb=>if b=P₀ then some (.tbl #[])else none) s₁.heap P₀ (.tbl #[]):=hT;cases hk:K.lookup a with
 |some o=>
  have e:=KX a o hk;rw[ha]at e;cases e;refine core (λb=>if b=P₀ then some (.tbl #[])else none) ⟨if_pos rfl,λb=>?_⟩ (.inr ⟨_,vs.toArray,_,hk,rfl,rfl,rfl,by rw[O4,D4];exact hl,by simpa using rv⟩) (λb u z=>?_) (λb z=>?_) λz=>absurd (if_neg aP) z
  .by_cases hbP:b=P₀
   .exact .inl hbP
   .exact .inr (.inl (if_neg hbP))
  .by_cases hbP:b=P₀
   .have z':=(if_pos hbP).symm.trans z;cases z';subst hbP;exact hT
   .have z':=(if_neg hbP).symm.trans z;cases z'
  .by_cases hbP:b=P₀
   .exact .inr hbP
   .exact absurd (if_neg hbP) z
 |none=>
  refine core (λb=>if b=a then some (.frz { cls:=.type "list",data:=.seq vs.toArray } (.lst (ns.map V.int)))else if b=P₀ then some (.tbl #[])else none) ⟨(if_neg (Ne.symm aP)).trans (if_pos rfl),λb=>?_⟩ (.inl (.inr ⟨{ cls:=.type "list",data:=.seq vs.toArray },if_pos rfl⟩)) (λb u z=>?_) (λb z=>?_) λ_=>hk
  .by_cases hb:b=a
   .exact .inr (.inr ⟨_,_,if_pos hb⟩)
   .by_cases hbP:b=P₀
    .exact .inl hbP
    .exact .inr (.inl ((if_neg hb).trans (if_neg hbP)))
  .by_cases hb:b=a
   .have z':=(if_pos hb).symm.trans z;cases z';subst hb;exact⟨ha,by rw[u8];exact hl,vs,_,rv,ha⟩
   .have z':=(if_neg hb).symm.trans z;by_cases hbP:b=P₀
    .have z'':=(if_pos hbP).symm.trans z';cases z'';subst hbP;exact hT
    .have z'':=(if_neg hbP).symm.trans z';cases z''
  .by_cases hb:b=a
   .exact .inl hb
   .by_cases hbP:b=P₀
    .exact .inr hbP
    .exact absurd ((if_neg hb).trans (if_neg hbP)) z
def xB{l:OpenLaw}{n k:Nat}{q:MV}{loose:MD}{XP:(Str->Option Value)->Heap->Prop}{YP:World->Heap->Prop}{d d':DefRec}{K:Params->Frag}{CX:World->CXT}{sp:World->Addr->Sp}{x y:Str}
  (hn:l.most=some n) (hn2:n<=sizeLine) (hdf:d.params.defaults=[]) (hr:qQ k callerA)
  (hY:∀(w:M_)(h:Heap),YP w h->(K w.params).In h) (hy:(recsOf q).find? (λe=>e.name==y)=some d')
  (F:∀(w:M_)(mg:Mz)(fa:Addr)(h:Heap),(K w.params).In h->h.Ns mainGlobals mg->mg d.name=some (.ref fa)->
   ∃(fd:Na)(c P:Addr),tabIn (K w.params) y=some (c,P)/\noTabs (K w.params)=true/\(∀(s:MH)(u:Value),BindsTo s fd ⟨[u],[]⟩ [(x,u)])/\
    ∀base:Heap,(K w.params).In base->base.Ns mainGlobals mg->Dc base mg c P->y8 l.prog w (K w.params) mg base (CX w) k fa fd [x] (sp w P))
  (hsp:∀(w:M_)(P:Addr)(H:Hp)(a:Addr)(ns:Nc),ns.length<=n->C_ P H->SqL (K w.params) H a (ns.map V.int)->sp w P [.ref a] H (λv _=>v=.bl true) λ_ _ _=>False)
  (hCX:∀(w:M_)(H:Hp)(s:MH)(e:Value)(s':MH),CX w [] H s (λ_ _ _=>False) e s'->False):
  WalkO q loose XP YP l.row.toRowW d [] (λf vs=>PySem.call f vs):=by
 refine Att.eM hn hdf λw s₀ s₁ mg mb fa o pm cd doc a vs ns G Y ho hd hcd hmg hobj hints hlen hg=>?_;have KX:=hY w _ Y;obtain⟨fd,c,P,ht,hnt,hb,hF⟩:=F w mg fa _ KX G.T.g hmg;obtain⟨hC,hT⟩:=tab_of G.T KX hy ht;exact rK KX G.T.g G.T.b G.T.builtins G.T.nolimit hg hobj hints (P7 hlen hn2) hr hC hT hnt G.T.bmain hF hb (λH hO hS=>hsp w P H a ns hlen hO hS) λH e s'=>hCX w H s₁ e s'
def F4{K:Nh}{x:Str}{f c P:Addr}{fd:Na}{oc oc':Value}{od od':Np}{sl sl':Ng}{vs:Nn}(h1:nsIn K mainGlobals x=some (some (.ref f)))(h2:K.lookup f=some ⟨oc,od,.func fd,sl⟩)(h3:fd.code=.ref c)(h4:K.lookup c=some ⟨oc',od',.fields vs,sl'⟩)(h5:vs[11]?=some (.ref P)):tabIn K x=some (c,P):=by unfold tabIn;rw[h1];dsimp only;rw[h2];dsimp only;rw[h3];dsimp only;rw[h4];dsimp only;rw[h5]
def rL(n:Nat)(m:ME)(xs:MX):Out PV:=match m (xs.map some++List.replicate (n-xs.length) none)with
 |.ok y=>.ok y
 |_=>.wall
def xC(hK:X.K=W.K)(hN:N.length=n)(hn:ws.length<=n)(h:EM X ⟨W,E,false⟩ (QP ws n) false body m)(q:lsp W false ws (rL n m) vs H Q E):∃te,PE X body te/\te (start N vs) H Q:=by
 subst hN;obtain⟨M,xs,ha,q⟩:=q;obtain⟨te,t1,t2⟩:=h hK;refine⟨te,t1,t2 (pB H M) _ H _ _ (cJ ha hn) _ ?_⟩;unfold rL at q;revert q;cases m (xs.map some++List.replicate (N.length-xs.length) none)with
 |exc c fs=>exact λq=>q.elim
 |wall=>exact id
 |ok y=>intro q v H' s r;refine q v H' s ?_;unfold RtV;rw[if_neg O2];exact r.rep.sub λa m _=>m.1.1
def iu(g:MU)(ms:HMA):HME:=λρ G=>(ms ρ G).bind λxs G1=>match xs with
 |[.v (.l xs)]=>(match G1[(0:Nat)]? with
  |some (.y true)=>(match XE g xs with
   |.ok z=>.ok (.v z) (G1.set 0 (.y false))
   |_=>.wall)
  |_=>.wall)
 |_=>.wall
def xD(hcd:X.env.code=.ref c)(T:Dc X.base X.mg c P)(hP:W.cls 1000=P)(hcl:closureFor scope X.env=pure [])(hdf:defaultsOf params X.env=([],[]))(S:zk N [x] scope)
  (hbind:∀(pm:Value)(c':Addr)(ctv:Value)(s:MH)(u:Value),BindsTo s (kla_fn "<lambda>" (X.env.qual++"<lambda>") params body scope [] pm (.ref c') ctv) ⟨[u],[]⟩ [(x,u)])
  (J3:∀(f c':Addr)(A:Nb)(outer:List Env)(s:MH)(H:Hp)(vs:ML)(Q:VK) (E:XK),qQ k (A.deeper (envOfC (X.env.qual++"<lambda>") scope s.heap.objs.size f (.ref c')))->lsp W false [wk] g vs H Q E->∃te,PE (U3 (CXe X.prog X.w) X.prog X.w X.K X.mg X.base N (X.env.qual++"<lambda>") scope f (.ref c') A outer s H E) body te/\te (start N vs) H Q)
  (hr:qQ (k+1+2) X.A) (hg:Gl X "sorted") (hm:X.mg "sorted"=none) (ha:HA X W E [e] ms)
  (he1:backTo pos (starEach [e] X.env)=(false,eval e X.env)::backTo pos (starEach [] X.env):=by rfl) (hpl:(backTo pos (starEach [e] X.env)).any (·.1)=false:=by rfl):
  HE X W E (.Call (.Name "sorted" p) [e] [⟨some "key",.Lambda params body scope lpos,kpos⟩] pos) (iu g ms):=λhK=>by
 obtain⟨ta,a1,a2⟩:=ha hK;refine⟨_,xA (k:=k) (sp:=lsp W false [wk] g) hcd T.hd T.bl T.ne hcl hdf S hbind J3 hr hg hm a1 he1 hpl,λZ hZ A H σ ρ G R Q q=>a2 Z hZ A H σ ρ G R _ (HPx.bind q λxs A1 H1 G1 h1 g1 q1 vs rs=>?_)⟩;subst hZ;split at q1
 .rename_i ys;split at q1
  rotate_left
  .exact q1.elim
  rename_i hy;obtain⟨v,r,rfl,hv,hr'⟩:=rs;cases(show _=_ from hr');obtain⟨l,us,rfl,_,hl,rr⟩:=(show Rep Z.W _ H1 (.l ys) v from hv);obtain⟨e1,ps,e2,e3⟩:=h1.cell 0 _ hy;have e3:=e3 rfl;subst e3;have hk0:0<G1.length:=(N7.mp hy).1;rw[hP]at e1;refine⟨l,us,#[],rfl,SqL.of hl,by rw[<- e1];exact e2,trivial,rfl,λc'=>?_⟩;rw[<- e1];have g2:=h1.frw (o:=.tbl (#[]++#[rawInt lpos.line,rawInt lpos.col,.ref c'])) hk0 e2 id;have h2:=h1.write (c:=.y false) (o:=.tbl (#[]++#[rawInt lpos.line,rawInt lpos.col,.ref c'])) hk0 e2 id ⟨e1.trans hP.symm,_,zd,λz=>by cases z⟩;have hgl:(G1.set 0 (.y false)).length=G1.length:=P1 ..;have rr2:=zI.gen g2.fr g2.sM rr;have q1:HPx Z E A1 G1.length H1 (KV' Z Q) (match XE g ys with | .ok z=>.ok (.v z) (G1.set 0 (.y false))|_=>.wall):=q1;unfold XE at q1;by_cases h64:ys.length<64
  .rw[if_pos h64]at q1;cases hkz:Ki g ys with
   |none=>rw[hkz]at q1;exact q1.elim
   |some kz=>
    rw[hkz]at q1;dsimp only at q1;by_cases nd:kz.Nodup
    .rw[if_pos nd]at q1;have hlen:us.length=ys.length:=(zI.len rr).symm▸rfl;rw[hK];refine⟨by omega,fB rr2 hkz λH' zs s hz=>⟨kz,by rw[Wz hkz,hlen],by rw[a0A];exact hz,λq' a srt ha=>?_⟩⟩;rw[rE nd srt (YV kz)];have sa:=zl.upd (o:=.lst ((xo kz).map λi=>us.getD i .non)) ha;have h3:=(h2.keep s).keep sa;refine q1 A1 _ h3 (by rw[hgl];exact g2.trans (Gro.same (s.trans sa))) (.ref a) ?_;rw[hgl];have nw:=(h2.keep s).new a ha;rw[hgl]at nw;exact⟨a,_,rfl,nw,zd,zI.same ((rr2.same s).rF _) sa⟩
    .rw[if_neg nd]at q1;exact q1.elim
  .rw[if_neg h64]at q1;exact q1.elim
 .exact q1.elim
section
variable {P:MV}{w:M_}{K:Nh}{mg:Mz}{base:Heap}
def Dd{x qual:Str}{st:Nq}{f c:Addr}{fd:Na}{N ps:MD}{k n l:Nat}{W:RC}{ms:HMS}(F:Fun K x qual st f fd)(hcode:fd.code=.ref c)(S:zk N ps (zi st))(hW:K=W.K)(hl:ps.length=l)(hN:N.length=n)
  (h:∀(A:Nb)(outer:List Env)(s:MH)(H:Hp)(E:XK),qQ k (A.deeper (envOfC qual (zi st) s.heap.objs.size f (.ref c)))->HSs (thr (U3 (CXe P w) P w K mg base N qual (zi st) f (.ref c) A outer s H E) E) W E (vA st) ms):
  y8 P w K mg base (CXe P w) (k+1) f fd ps (hsp W l (tU n ms)):=by
 subst hN hl;obtain⟨oc,od,kV,doc,pm,an,cdv,ct,osl,rfl,lk,hcd⟩:=F.ex;have e:cdv=.ref c:=hcode;subst e;refine Ew lk hcd S pW λA outer s H vs Q E hr ⟨Z,A',G,xs,hZ,hl,hh,r,q⟩=>?_;obtain⟨ts,t1,t2⟩:=h A outer s H E hr hW;refine⟨ts,t1.EL λv s h=>AK h,t2 Z hZ A' H _ _ G (ie hh r) _ ?_⟩;unfold tU at q;revert q;cases ms (xs.map some++List.replicate (N.length-xs.length) none) G with
 |exc c fs G'=>exact id
 |wall=>exact id
 |nx ρ' G'=>exact λq A2 H2 σ2 R2 g2=>q A2 H2 R2.toHH g2 .non rfl
 |rt y G'=>exact λq A2 H2 v h2 g2 rv=>q A2 H2 h2 g2 v rv
 |bk ρ' G'=>exact λq=>q.elim
 |ct ρ' G'=>exact λq=>q.elim
end
def xE(hT:H (W.cls 1000)=some (.tbl #[]))(hS:SqL W.K H p (ns.map V.int))(h:∃G,g [.v (.sc ns)] [.y true]=.ok (.v (.b true)) G)(k:∀H',Q (.bl true) H'):hsp W 1 g [.ref p] H Q E:=by
 obtain⟨G,h⟩:=h;have np:∀{u:HO},H p=some u->(∀ps,u≠.tbl ps)->W.cls 1000≠p:=λe n z=>by rw[<- z,hT]at e;cases e;exact n _ rfl
 refine⟨⟨W,λb=>if b=W.cls 1000 then none else H b,λ_=>True⟩,λ_=>W.cls 1000,[.y true],[.v (.sc ns)],rfl,rfl,⟨λa o e=>?_,λk c e=>?_,λj k hj hk _=>?_,λk _=>if_pos rfl⟩,⟨.ref p,[],rfl,⟨p,rfl,?_⟩,rfl⟩,?_⟩
 .by_cases z:a=W.cls 1000
  .have e':=(if_pos z).symm.trans e;cases e'
  .exact(if_neg z).symm.trans e
 .cases k with
  |zero=>cases e;exact⟨rfl,#[],hT,λ_=>rfl⟩
  |succ k=>simp at e
 .have hj:j<1:=hj;have hk:k<1:=hk;omega
 .rcases hS with z|z
  .refine .inl ⟨⟨.inl trivial,λ_ _=>?_⟩,z⟩;rcases z with z|⟨o,z⟩
   .exact np z λ_=>by nofun
   .exact np z λ_=>by nofun
  .exact .inr z
 .rw[h];intro A2 H2 h2 g2 v rv;cases(show v=_ from rv);exact k H2
section
variable {X:Cx}{W:RC}{E:XK}{k:Nat}{c P:Addr}{params:Arguments}{body e:MR}{scope:Scope}{lpos p pos kpos:Pos}{x:Str}{N:MD}{ms:HMA}{g:MU}{wk:Bool}
end
def kI:PV->PV->Out PV
 |.s k,.l kvs=>if cR kvs=true then .ok (.t [.s k,.l kvs])else .wall
 |_,_=>.wall
def mPI(m1 m2:ME):ME:=λρ=>(m1 ρ).bind λx=>(m2 ρ).bind λy=>kI x y
def IK(h:kI a b=.ok y):∃k kvs,a=.s k/\b=.l kvs/\y=.t [.s k,.l kvs]/\cR kvs=true:=by
 unfold kI at h;split at h
 .split at h
  .rename_i hi;cases h;exact⟨_,_,rfl,rfl,rfl,hi⟩
  .cases h
 .cases h
def RPr(W:RC)(H H2:Hp)(x:PV)(v:V):Prop:=∃t p k kvs es,v=.ref t/\x=.t [.s k,.l kvs]/\cR kvs=true/\H p=none/\H2 t=some (.tup [.str k,.ref p])/\H2 p=some (.lst es)/\zI W (λ_=>False) H2 kvs es
def LPr(C:LC)(S:MB)(te:TE)(m:ME):Prop:=∀B P H σ ρ,Rel C.W B S P H σ ρ->∀Q,zJ C B H (RPr C.W H) Q (m ρ)->te σ H Q
def De(hk:LE C S w tk m1)(hv:LFr C S tv m2):LPr C S (Es (bU tk (bU tv DV))) (mPI m1 m2):=λB P H σ ρ R Q q=>by
 refine hk B P H σ ρ R _ (zV q λx v H1 s1 r1 q1=>hv B P H1 σ ρ (R.keep s1) _ (zV q1 λy u H2 s2 r2 q2=>?_));cases e:kI x y with
 |exc c fs=>
  rw[e]at q2;exfalso;unfold kI at e;split at e
  .split at e<;>cases e
  .cases e
 |wall=>rw[e]at q2;exact q2.elim
 |ok z=>rw[e]at q2;obtain⟨k,kvs,rfl,rfl,rfl,hi⟩:=IK e;obtain⟨p,rfl,hp,es,hp2,rr⟩:=r2;cases(show v=.str k from r1);refine⟨(show 2<=sizeLine by decide),λt ht=>q2 _ _ (zl.upd ht) ⟨t,p,k,kvs,es,rfl,rfl,hi,zl.none s1 hp,zd,zl.upd ht _ _ hp2,Jd hi (rr.same (zl.upd ht))⟩⟩
def PsR(W:RC)(H:Hp):List PV->List Addr->List Addr->Prop
 |[],ts,ps=>ts=[]/\ps=[]
 |y::ys,ts,ps=>∃t r p r' k kvs es,ts=t::r/\ps=p::r'/\y=.t [.s k,.l kvs]/\cR kvs=true/\H t=some (.tup [.str k,.ref p])/\H p=some (.lst es)/\zI W (λ_=>False) H kvs es/\PsR W H ys r r'
def PsR.gen(f:Fr (λ_=>False) H H'):∀{ts ps:Nf},PsR W H ys ts ps->(∀p∈ps,∀o,H p=some o->H' p=some o)->PsR W H' ys ts ps:=by
 induction ys with
 |nil=>intro ts ps h _;exact h
 |cons y ys ih=>intro ts ps h hs;obtain⟨t,r,p,r',k,kvs,es,rfl,rfl,rfl,hi,ht,hp,rk,hr⟩:=h;exact⟨t,r,p,r',k,kvs,es,rfl,rfl,rfl,hi,f _ _ ht (.inr trivial),hs p M3 _ hp,rk.gen f λ_ m _=>m,ih hr λq hq=>hs q (M8 _ hq)⟩
def PsR.snoc(hi:cR kvs=true)(ht:H t=some (.tup [.str k,.ref p]))(hp:H p=some (.lst es))(rk:zI W (λ_=>False) H kvs es):∀{ts ps:Nf},PsR W H ys ts ps->PsR W H (ys++[.t [.s k,.l kvs]]) (ts++[t]) (ps++[p]):=by
 induction ys with
 |nil=>intro ts ps h;obtain⟨h1,h2⟩:=(show ts=[]/\ps=[]from h);subst h1 h2;exact⟨t,[],p,[],k,kvs,es,rfl,rfl,rfl,hi,ht,hp,rk,rfl,rfl⟩
 |cons y ys ih=>intro ts ps h;obtain⟨t',r,p',r',k',kvs',es',rfl,rfl,rfl,hi',ht',hp',rk',hr⟩:=h;exact⟨t',r++[t],p',r'++[p],k',kvs',es',rfl,rfl,rfl,hi',ht',hp',rk',ih hr⟩
def PsR.len:∀{ts ps:Nf},PsR W H ys ts ps->ts.length=ys.length/\ps.length=ys.length:=by
 induction ys with
 |nil=>intro ts ps h;obtain⟨h1,h2⟩:=(show ts=[]/\ps=[]from h);subst h1 h2;exact⟨rfl,rfl⟩
 |cons y ys ih=>intro ts ps h;obtain⟨t',r,p',r',k',kvs',es',rfl,rfl,rfl,_,_,_,_,hr⟩:=h;rw[v4,v4,v4,(ih hr).1,(ih hr).2];exact⟨rfl,rfl⟩
def pkK:PV->Str
 |.t (.s k::_)=>k
 |_=>""
def pkV:PV->PV
 |.t [_,x]=>x
 |_=>.n
def PsR.ls:∀{ts ps:Nf},PsR W H ys ts ps->LsR W H (ys.map pkV) ps:=by
 induction ys with
 |nil=>intro ts ps h;exact(show ts=[]/\ps=[]from h).2
 |cons y ys ih=>intro ts ps h;obtain⟨t',r,p',r',k',kvs',es',rfl,rfl,rfl,hi,_,hp,rk,hr⟩:=h;exact⟨p',r',kvs',es',rfl,rfl,hi,hp,rk,ih hr⟩
def peK:List PV->List Addr->List (Key×V)
 |y::ys,p::ps=>(.inr (pkK y),.ref p)::peK ys ps
 |_,_=>[]
def PsR.pairs:∀{ts ps:Nf},PsR W H ys ts ps->Wo W.K H (ts.map .ref) (peK ys ps):=by
 induction ys with
 |nil=>intro ts ps h;obtain⟨h1,h2⟩:=(show ts=[]/\ps=[]from h);subst h1 h2;rfl
 |cons y ys ih=>intro ts ps h;obtain⟨t',r,p',r',k',kvs',es',rfl,rfl,rfl,_,ht,_,_,hr⟩:=h;exact⟨t',.inr k',.ref p',peK ys r',rfl,rfl,SqT.of ht,ih hr⟩
def PsR.at:∀{ts ps:Nf},PsR W H ys ts ps->∀p∈ps,∃es,H p=some (.lst es):=λh=>h.ls.at
def Bl(W:RC)(H:Hp)(H2:Hp)(x:PV)(v:V):Prop:=∃ys ts ps l,x=.l ys/\v=.ref l/\H2 l=some (.lst (ts.map .ref))/\PsR W H2 ys ts ps/\(∀p∈ps,H p=none)/\ps.Nodup
def F5{wi:TI}{g:TG}{tc:TT}{te:TE}{fr:MW}{Si:MB}{W:RC}{B:Bs}{P:MN}{H:Hp}{σ:St}{ρ:Sto}(hi:∀R:It->Hp->Prop,ph C B S P true H R (mi ρ)->wi σ H R)(hW:W=C.W)(hS:Si=inS S fr)(hg:LG ⟨W,E0,false⟩ Si Si g mg)(ht:LT ⟨W,E0,false⟩ Si tc mc)(he:LPr ⟨W,E0,false⟩ Si te me)(R:Rel C.W B S P H σ ρ)(Q:VK)(q:zJ C B H (Bl C.W H) Q (mLC mi fr mg mc me ρ)):tLC wi g tc te fr σ H Q:=by
 subst hW hS;refine hi _ ?_;unfold mLC at q;revert q;cases mi ρ with
 |exc c fs=>exact id
 |wall=>exact id
 |ok xs=>
  intro q J H1 s1 io acc ha;have R1:=R.keep s1;have q:zJ C B H (Bl C.W H) Q (lcP mg mc me xs (au ρ fr) []):=q;refine⟨λi n σ' H'=>n=xs.length-i/\i<=xs.length/\∃ρ' ys ts ps,Rel C.W (lcB B S P H1 acc) (inS S fr) (λ_=>0) H' σ' ρ'/\H' acc=some (.lst (ts.map .ref))/\PsR C.W H' ys ts ps/\(∀p∈ps,p≠acc/\H1 p=none)/\ps.Nodup/\zJ C B H (Bl C.W H) Q (lcP mg mc me (xs.drop i) ρ' ys),
   ⟨_,rfl,S7 _,au ρ fr,[],[],[],R1.comp ha (zl.upd ha) zd,zd,⟨rfl,rfl⟩,(λp hp=>by cases hp),a2t,q⟩,?_⟩
  rintro i n σ' H' ⟨rfl,hle,ρ',ys,ts,ps,R',hacc,rys,hps,nd,q'⟩
  have io':=io H' (zl.fr R'.same);by_cases hlt:i<xs.length
  .have hx:xs[i]?=some xs[i]:=N6 hlt;obtain⟨go,yl⟩:=io'.1 i _ hx;refine .inr ⟨go,λσ2 H2'=>i+1<=xs.length/\∃ρ' ys ts ps,Rel C.W (lcB B S P H1 acc) (inS S fr) (λ_=>0) H2' σ2 ρ'/\H2' acc=some (.lst (ts.map .ref))/\PsR C.W H2' ys ts ps/\(∀p∈ps,p≠acc/\H1 p=none)/\ps.Nodup/\zJ C B H (Bl C.W H) Q (lcP mg mc me (xs.drop (i+1)) ρ' ys),λσ2 H2' h=>⟨xs.length-(i+1),by omega,rfl,h.1,h.2⟩,λv H'' hy=>?_⟩;obtain⟨sy,ry⟩:=yl v H'' hy;have Ry:=R'.keep sy;have rx:=ry (Mof (lcB B S P H1 acc) (inS S fr) (λ_=>0)) λa m hn=>⟨⟨.inl m,λz=>hn ((show a=acc from z)▸ha)⟩,λj hj=>(fe hj rfl).elim⟩;rw[a0S hlt]at q';unfold lcP at q';cases hgx:mg xs[i] ρ' with
   |none=>rw[hgx]at q';exact q'.elim
   |some ρ1=>
    rw[hgx]at q';refine hg _ _ H'' σ' ρ' _ v Ry rx _ ⟨ρ1,hgx,λσ1 R1'=>ht _ _ H'' σ1 ρ1 R1' _ ?_⟩;have q':zJ C B H (Bl C.W H) Q ((noX (mc ρ1)).bind λt=>if t=true then(noX (me ρ1)).bind λy=>if ys.length<sizeLine then lcP mg mc me (xs.drop (i+1)) ρ1 (ys++[y])else .wall else lcP mg mc me (xs.drop (i+1)) ρ1 ys):=q';revert q';cases mc ρ1 with
    |exc c fs=>exact λq'=>q'.elim
    |wall=>exact id
    |ok t=>
     intro q' H5 s5;have R5:=R1'.keep s5;have hacc5:=s5 _ _ (sy _ _ hacc);have rys5:PsR C.W H5 ys ts ps:=rys.gen (zl.fr (sy.trans s5)) λp _ o h=>(sy.trans s5) _ _ h;cases t with
     |false=>exact AG ⟨hlt,ρ1,ys,ts,ps,R5,hacc5,rys5,hps,nd,q'⟩
     |true=>
      refine AI (he _ _ H5 σ1 ρ1 R5 _ ?_);have q':zJ C B H (Bl C.W H) Q ((noX (me ρ1)).bind λy=>if ys.length<sizeLine then lcP mg mc me (xs.drop (i+1)) ρ1 (ys++[y])else .wall):=q';revert q';cases me ρ1 with
      |exc c fs=>exact λq'=>q'.elim
      |wall=>exact id
      |ok y=>
       intro q' v6 H6 s6 r6;obtain⟨t,p,k,kvs,es,rfl,rfl,hik,hp5,ht6,hp6,rk⟩:=r6;have q':zJ C B H (Bl C.W H) Q (if ys.length<sizeLine then lcP mg mc me (xs.drop (i+1)) ρ1 (ys++[.t [.s k,.l kvs]])else .wall):=q';split at q'
       .rename_i hz;have R6:=R5.keep s6;have hacc6:=s6 _ _ hacc5;have pa:p≠acc:=λz=>by rw[z,hacc5]at hp5;cases hp5
        have fr6:Fr (λ_=>False) H6 (upd H6 acc (.lst (ts.map .ref++[.ref t]))):=λa o h m=>by
         have:a≠acc:=λz=>by
          rcases m with m|m
          .exact m
          .rw[z,hacc6]at h;cases h;exact m
         rw[zg this];exact h
        have hpn:H1 p=none:=by
         cases e:H1 p with
         |none=>rfl
         |some o=>have:zl H1 H5:=R5.same;rw[this _ _ e]at hp5;cases hp5
        have hnp:p∉ps:=λhm=>by obtain⟨es',he'⟩:=rys5.at p hm;rw[he']at hp5;cases hp5
        refine⟨ts.map .ref,hacc6,by rw[u8,rys5.len.1];exact hz,hlt,ρ1,ys++[.t [.s k,.l kvs]],ts++[t],ps++[p],R6.wrx (show(lcB B S P H1 acc).xc acc from rfl) (by exact id),?_,?_,?_,?_,q'⟩
        .rw[R4];exact zd
        .refine PsR.gen fr6 (PsR.snoc hik ht6 hp6 rk (rys5.gen (zl.fr s6) λq _ o h=>s6 _ _ h)) λq hq o h=>?_;have:q≠acc:=by
          rcases R9.mp hq with h|h
          .exact(hps q h).1
          .rw[O7.mp h];exact pa
         rw[zg this];exact h
        .intro q hq;rcases R9.mp hq with h|h
         .exact hps q h
         .rw[O7.mp h];exact⟨pa,hpn⟩
        .rw[a0p];exact⟨nd,a0b.mpr ⟨by simp,List.nodup_nil⟩,λa ha b hb e=>hnp (by rw[<- List.mem_singleton.mp hb,<- e];exact ha)⟩
       .exact q'.elim
  .have e:i=xs.length:=by omega
   subst e;rw[a1x]at q';exact .inl ⟨io'.2,q' _ H' (s1.trans R'.same) ⟨ys,ts,ps,acc,rfl,rfl,hacc,rys,λp hp=>zl.none s1 (hps p hp).2,nd⟩⟩
def rM(h:(es.map (·.1)).Nodup):g_ es=es:=by
 have go:∀(es acc:MM),((acc++es).map (·.1)).Nodup->es.foldl (λa kv=>putK a kv.1 kv.2) acc=acc++es:=by
  intro es
  induction es with
  |nil=>intro acc _;rw[List.foldl_nil,P4]
  |cons kx es ih=>
   intro acc h;rw[a0z];have hn:KA acc kx.1=none:=by
    cases e:KA acc kx.1 with
    |none=>rfl
    |some v=>exfalso;rw[R4,a0p]at h;refine h.2.2 kx.1 ?_ kx.1 (by rw[N5];exact M3) rfl;unfold KA at e;obtain⟨x,hx,_⟩:=t0.mp e;have h1:=List.mem_of_find?_eq_some hx;have h2:=List.find?_some hx;rw[<- S6 h2];exact S9 h1
   rw[ub kx.2 hn,ih (acc++[kx]) (by rw[T9];exact h),T9];rfl
 exact go es [] h
def dlK(n:Nat):List PV->List (Key×HV)
 |[]=>[]
 |y::ys=>(.inr (pkK y),.g n)::dlK (n+1) ys
def iw:∀{ys:MX}{ps:Nf},ps.length=ys.length->(peK ys ps).map (·.1)=ys.map λy=>Sum.inr (pkK y)
 |[],[],_=>rfl
 |y::ys,p::ps,h=>by have h:=Nat.succ.inj h;rw[peK,N5,N5,iw h]
 |[],_::_,h=>by cases h
 |_::_,[],h=>by cases h
def rN{W:RC}{M:MF}{A:MN}{n:Nat}{H:Hp}:∀{ys:MX}{ps:Nf}(m:Nat),ps.length=ys.length->(∀j p,ps[j]?=some p->m+j<n/\A (m+j)=p)->yO (jt W M A n H) (dlK m ys) (peK ys ps)
 |[],[],_,_,_=>rfl
 |y::ys,p::ps,m,h,k=>by
  have h:=Nat.succ.inj h;obtain⟨k1,k2⟩:=k 0 p rfl;refine⟨.ref p,peK ys ps,rfl,?_,rN (m+1) h λj q e=>?_⟩
  .unfold jt;exact⟨k1,by rw[show A m=p from k2]⟩
  .have:=k (j+1) q e;rw[show m+1+j=m+(j+1) by omega];exact this
 |[],_::_,_,h,_=>by cases h
 |_::_,[],_,h,_=>by cases h
def xF(G:AH):PV->HX HV
 |.l ys=>if(ys.map pkK).Nodup then .ok (.g (G.length+ys.length)) ((G++(ys.map pkV).map wy)++[.d (dlK G.length ys)])else .wall
 |_=>.wall
def hDL(bs:MP)(m:ME):HME:=λρ G=>match Kf bs ρ with
 |some r=>match m r with
  |.ok x=>xF G x
  |_=>.wall
 |none=>.wall
section
variable {X:Cx}{W:RC}{E:XK}
def F6(h:HH Z A H G)(s:zl H H2)(q:HPx Z E A G.length H (KV' Z Q) (xF G x))(r:Bl Z.W H H2 x v):cP Z.W.K [v] H2 Q:=by
 obtain⟨ys,ts,ps,l,rfl,rfl,hl2,rys,hps,nd⟩:=r;unfold xF at q;dsimp only at q;split at q
 rotate_left
 .exact q.elim
 rename_i hkn;refine⟨l,ts.map .ref,peK ys ps,rfl,SqL.of hl2,rys.pairs,λd hd=>?_⟩;have hkn2:(ys.map λy=>(Sum.inr (pkK y):Key)).Nodup:=by
  have e:(ys.map λy=>(Sum.inr (pkK y):Key))=(ys.map pkK).map Sum.inr:=by rw[R7];rfl
  rw[e];exact List.Pairwise.map _ (λa b h z=>h (a0w z)) hkn
 rw[rM (by rw[iw rys.len.2];exact hkn2)];have hdH:H d=none:=zl.none s hd;have sd:zl H2 (upd H2 d (.dK (peK ys ps))):=zl.upd hd;have pd:∀p∈ps,p≠d:=λp hp z=>by obtain⟨es,he⟩:=rys.at p hp;rw[z,hd]at he;cases he
 have ls:LsR Z.W (upd H2 d (.dK (peK ys ps))) (ys.map pkV) ps:=rys.ls.gen (zl.fr sd) λp _ o h=>sd _ _ h;have s0:zl H (hide (upd H2 d (.dK (peK ys ps))) (ps++[d])):=λa o e=>by
  have:a∉ps++[d]:=λz=>by
   rcases R9.mp z with z|z
   .rw[hps a z]at e;cases e
   .rw[O7.mp z,hdH]at e;cases e
  rw[wR this];exact sd _ _ (s a o e)
 obtain⟨A',h1,g1,a1⟩:=xx (R:=[d]) (λa ha o e=>by rw[O7.mp ha,zd]at e;cases e;exact id) ls nd (λp hp z=>pd p hp (O7.mp z)) (h.keep s0);have hn:hide (upd H2 d (.dK (peK ys ps))) [d] d=none:=fq (O7.mpr rfl);have sm:zl (hide (upd H2 d (.dK (peK ys ps))) [d]) (hide (upd H2 d (.dK (peK ys ps))) []):=cU;have len1:(G++(ys.map pkV).map wy).length=G.length+ys.length:=by rw[O6,u8,u8]
 have hc:Uy Z.W (HM Z (exA A' (G++(ys.map pkV).map wy).length d) ((G++(ys.map pkV).map wy).length+1)) (exA A' (G++(ys.map pkV).map wy).length d) ((G++(ys.map pkV).map wy).length+1) (hide (upd H2 d (.dK (peK ys ps))) []) d (.d (dlK G.length ys)):=by
  refine⟨peK ys ps,(wR (by simp)).trans zd,rN G.length rys.len.2 λj p e=>?_⟩;have hj:j<ys.length:=by rw[<- rys.len.2];exact(N7.mp e).1
  rw[len1];exact⟨by omega,by rw[Jc (by omega)];exact a1 j p e⟩
 have h2:=h1.alloc sm hn hc;have len2:((G++(ys.map pkV).map wy)++[Cell.d (dlK G.length ys)]).length=(G++(ys.map pkV).map wy).length+1:=by rw[O6];rfl
 have g2:Gro Z A' (G++(ys.map pkV).map wy).length (hide (upd H2 d (.dK (peK ys ps))) [d]) (exA A' (G++(ys.map pkV).map wy).length d) ((G++(ys.map pkV).map wy)++[Cell.d (dlK G.length ys)]).length (hide (upd H2 d (.dK (peK ys ps))) []):=by rw[len2];exact Gro.ext sm hn
 have g:=((Gro.same (Z:=Z) (A:=A) (n:=G.length) s0).trans g1).trans g2;rw[xi]at h2 g;refine q _ _ h2 g _ ?_;unfold jt;rw[len2,<- len1];exact⟨a0r _,by rw[Jb]⟩
variable {fr' w:Bool}{S:MB}{qP tg ek ev:MR}{ifs:MK}{mk me:ME}{mc:MT}{mg:MG}{mi:MI}{pos pos2 p p1:Pos}{scope:Scope}
def F7{x1}(bs:MP)(N:MD)(fr:MW)(Si:MB)(hc:X.calm=true)(hg':Gl X "dict")(hm:X.mg "dict"=none)(hok:oy X scope N fr=true)(hi:IM X ⟨W,E,fr'⟩ S true tg qP mi)(hg:∀z:CI,GM (cxI X scope N z) ⟨W,E0,false⟩ Si Si tg mg)(ht:∀z:CI,TsM (cxI X scope N z) ⟨W,E0,false⟩ Si ifs mc)(hk:∀z:CI,EM (cxI X scope N z) ⟨W,E0,false⟩ Si w ek mk)(he:∀z:CI,FM (cxI X scope N z) ⟨W,E0,false⟩ Si ev me)(hS:Si=inS S fr:=by rfl)(h0:S.all (·==0)=true:=by rfl)
  (hs:∀x,foldedSetIterable qP X.env x=pure x:=by intro _;rfl)
  (hst:∀z:CI,starEach [ek,ev] (cxI X scope N z).env=(false,eval ek (cxI X scope N z).env)::starEach [ev] (cxI X scope N z).env:=by intro _;rfl) (hst2:∀z:CI,starEach [ev] (cxI X scope N z).env=(false,eval ev (cxI X scope N z).env)::starEach [] (cxI X scope N z).env:=by intro _;rfl):
  HE X W E (.Call (.Name "dict" p) [.ListComp (.Tuple [ek,ev] x1 p1) [⟨tg,qP,ifs,0⟩] scope pos] [] pos2) (hDL bs (mLC mi fr mg mc (mPI mk me))):=λhK=>by
 obtain⟨wi,a1,a2⟩:=hi hK;obtain⟨g,b1,b2⟩:=ay hg λ_=>hK;obtain⟨tc,c1,c2⟩:=ax ht λ_=>hK;obtain⟨tk,k1,k2⟩:=aw hk λ_=>hK;obtain⟨te,d1,d2⟩:=C3 he λ_=>hK;have el:∀z:CI,PE (cxI X scope N z) (.Tuple [ek,ev] x1 p1) (Es (bU tk (bU te DV))):=λz=>V1 (wK (k1 z) (wK (d1 z) V0 (hst2 z)) (hst z));refine⟨_,V2 (r:=cP W.K) (hK▸Uw hc) hg' hm a2s (wK (EV N fr hc hok a1 (λfp pn s H L=>b1 ⟨fp,pn,s,H,L⟩) (λfp pn s H L=>c1 ⟨fp,pn,s,H,L⟩) (λfp pn s H L=>el ⟨fp,pn,s,H,L⟩) hs) V0),λZ hZ A H σ ρ G R Q q=>?_⟩;subst hZ;unfold hDL at q;split at q
 .rename_i r hr;show tLC wi g tc (Es (bU tk (bU te DV))) fr σ H (λv H2=>cP Z.W.K [v] H2 Q);refine F5 (C:=⟨Z.W,E,fr'⟩) (a2 _ _ H σ r (mF R hr h0)) rfl hS b2 c2 (De k2 d2) (mF R hr h0) _ ?_;revert q;cases mLC mi fr mg mc (mPI mk me) r with
  |ok x=>exact λq v H2 s rx=>F6 R.toHH s q rx
  |exc c fs=>exact λq=>q.elim
  |wall=>exact id
 .exact q.elim
end
end L2
namespace L2
section
variable {κ α:Type}[DecidableEq κ]
def xG{k:κ}:zK ([]:List (κ×α)) k=none:=rfl
def zT{k j:κ}{v:α}{r:List (κ×α)}:zK ((j,v)::r) k=if j=k then some v else zK r k:=by
 unfold zK;rw[a03];by_cases h:j=k
 .simp[h]
 .simp[h]
def kh:∀{kvs:List (κ×α)}{k:κ},kvs.any (λkv=>decide (kv.1=k))=(zK kvs k).isSome
 |[],_=>rfl
 | (j,v)::r,k=>by
  rw[a0i,zT,kh];by_cases h:j=k
  .simp[h]
  .simp[h]
def iy:∀{a:List (κ×α)}{k j:κ}{v:α},zK (a++[(k,v)]) j=(zK a j).or (if k=j then some v else none)
 |[],k,j,v=>by rw[a0A,zT,xG];rfl
 | (i,u)::a,k,j,v=>by
  rw[List.cons_append,zT,zT,iy];by_cases h:i=j
  .rw[if_pos h,if_pos h];rfl
  .rw[if_neg h,if_neg h]
def aN:∀{a:List (κ×α)}{k j:κ}{v:α},zK (a.map λkv=>if kv.1=k then(kv.1,v)else kv) j=if k=j then(zK a j).map (λ_=>v)else zK a j
 |[],k,j,v=>by split<;>rfl
 | (i,u)::a,k,j,v=>by
  rw[N5];by_cases h:i=k
  .subst h;rw[if_pos rfl,zT,zT,aN];by_cases h:i=j
   .rw[if_pos h,if_pos h,if_pos h];rfl
   .rw[if_neg h,if_neg h,if_neg h,if_neg h]
  .rw[if_neg (show ¬((i,u):κ×α).1=k from h),zT,zT,aN];by_cases hj:i=j
   .rw[if_pos hj,if_pos hj,if_neg (λz=>h (hj.trans z.symm))]
   .rw[if_neg hj,if_neg hj]
def vf{a:List (κ×α)}{k j:κ}{v:α}:zK (dput a k v) j=if k=j then some v else zK a j:=by
 unfold dput;rw[kh];split
 .rename_i h;rw[aN];split
  .rename_i e;subst e;obtain⟨x,hx⟩:=a0m.mp h;rw[hx];rfl
  .rfl
 .rename_i h;rw[iy];by_cases e:k=j
  .subst e;have:zK a k=none:=by cases q:zK a k with|none=>rfl|some x=>rw[q]at h;exact absurd rfl h
   rw[this,if_pos rfl];rfl
  .rw[if_neg e,if_neg e];cases zK a j<;>rfl
def Jk{a:List (κ×α)}{k:κ}{v:α}:(dput a k v).map (·.1)=if(zK a k).isSome=true then a.map (·.1)else a.map (·.1)++[k]:=by
 unfold dput;rw[kh];split
 .rw[R7];refine a0C λkv _=>?_;show(if kv.1=k then(kv.1,v)else kv).1=kv.1;split<;>rfl
 .rw[R4];rfl
def wU:∀{a:List (κ×α)}{k:κ}{v:α},zK a k=some v->(k,v)∈a
 |[],_,_,e=>by cases e
 | (j,u)::a,k,v,e=>by
  rw[zT]at e;split at e
  .rename_i h;subst h;cases e;exact M3
  .exact M8 _ (wU e)
def xH{a:List (κ×α)}{k:κ}:(zK a k).isSome=true↔k∈a.map (·.1):=by
 rw[<- kh,List.any_eq_true];constructor
 .rintro ⟨kv,h,e⟩;exact a0a.mpr ⟨kv,h,S6 e⟩
 .intro h;obtain⟨kv,h,e⟩:=a0a.mp h;exact⟨kv,h,O0 e⟩
def UB{a:List (κ×α)}{k:κ}{v:α}(h:(a.map (·.1)).Nodup):((dput a k v).map (·.1)).Nodup:=by
 rw[Jk];split
 .exact h
 .rename_i n;refine a0p.mpr ⟨h,by simp,λx hx y hy z=>?_⟩;obtain rfl:y=k:=by simpa using hy
  subst z;exact n (xH.mpr hx)
end
end L2
namespace K24
open PySem L2
noncomputable section NCS
def top(i:Nat):Stmt:=PySem.Challenge.pw_fleetpath_k24_links.main.body.getD i (.Pass ⟨0,0,0,0⟩)
abbrev wV:Stmt:=top 45
abbrev WB:Stmt:=top 46
abbrev QR:Stmt:=top 47
abbrev Kj:Stmt:=top 48
abbrev wW:Stmt:=top 49
abbrev Kk:Stmt:=top 50
abbrev QS:Stmt:=top 51
abbrev vE:Stmt:=inClass (top 6) 0
abbrev Z0:Stmt:=top 17
abbrev vF:Stmt:=inClass (top 4) 0
abbrev vG:Stmt:=top 14
abbrev Z1:Stmt:=inClass (top 7) 0
abbrev qT:Stmt:=top 16
abbrev vH:Stmt:=inClass (top 8) 0
abbrev wX:Stmt:=top 39
abbrev vI:Stmt:=inClass (top 43) 2
abbrev jU:Stmt:=inClass (top 5) 0
abbrev jV:Stmt:=top 15
abbrev kE:Stmt:=inClass (top 26) 0
abbrev Z2:Stmt:=inClass (top 9) 0
abbrev vJ:Stmt:=inClass (top 27) 0
abbrev Z3:Stmt:=top 28
abbrev jW:Stmt:=top 29
abbrev Z4:Stmt:=inClass (top 30) 0
abbrev kG:Stmt:=top 55
abbrev vL:Stmt:=top 40
abbrev Z5:Stmt:=top 41
abbrev vM:Stmt:=top 42
abbrev Z6:Stmt:=inClass (top 43) 0
abbrev wY:Stmt:=inClass (top 10) 0
abbrev Z7:Stmt:=inClass (top 30) 2
abbrev Dg:Stmt:=top 32
abbrev aO:Stmt:=top 33
abbrev Z8:Stmt:=top 54
abbrev wZ:Stmt:=inClass (top 30) 1
abbrev w4:Stmt:=inClass (top 43) 1
abbrev kH:Stmt:=top 35
abbrev fC:Stmt:=top 34
abbrev Kl:Stmt:=top 53
abbrev Z9:Stmt:=top 52
abbrev Dh:Stmt:=top 56
def scB(N P:MD)(sc:Scope):Bool:=(match sc.kind with | .function=>true|_=>false)&&(!sc.isCoroutine&&(!sc.isGenerator&&(decide N.Nodup&&(decide (N.take P.length=P)&&(P.all (λx=>match sc.names.lookup x with|some .local=>true|some .cell=>true|_=>false)&&sc.names.all λy=>match y.2 with | .free=>false|_=>true)))))
def wo(h:scB N P sc=true):zk N P sc:=by
 unfold scB at h;simp only[Bool.and_eq_true,decide_eq_true_eq,List.all_eq_true]at h;obtain⟨h1,h2,h3,h4,h5,h6,h7⟩:=h;refine⟨?_,by simpa using h2,by simpa using h3,h4,h5,λx hx=>?_,λy hy e=>?_⟩
 .revert h1;cases sc.kind<;>simp
 .have:=h6 x hx;split at this<;>simp_all
 .have:=h7 y hy;rw[e]at this;cases this
def XF:zk ["_law_script","_law_k"] ["_law_script","_law_k"] (zi wV):=wo (by decide +kernel)
def mL:zk ["_law_script","_law_k","_law_prime"] ["_law_script","_law_k","_law_prime"] (zi WB):=wo (by decide +kernel)
def zZ:zk ["_law_script","_law_at","_law_many","_law_some","_law_cell","_law_signs","_law_way","_law_names_here","_law_k","_law_row","_law_spot"] ["_law_script","_law_at","_law_many"] (zi QR):=wo (by decide +kernel)
def qI:zk ["_law_script","_law_at","_law_names_here","_law_many","_law_far","_law_ways_here","_law_k","_law_cell"] ["_law_script","_law_at","_law_names_here"] (zi Kj):=wo (by decide +kernel)
def zQ:zk ["_law_names_here","_law_ways_here","_law_found","_law_name","_law_one","_law_other","_law_minutes","_law_mid","_law_by"] ["_law_names_here","_law_ways_here"] (zi wW):=wo (by decide +kernel)
def z5:zk ["_law_script","_law_at","_law_name","_law_places","_law_lengths_here","_law_ahead","_law_first","_law_second","_law_third","_law_origin","_law_goal","_law_more","_law_took","_law_start"] ["_law_script","_law_at","_law_name","_law_places","_law_lengths_here","_law_ahead"] (zi Kk):=wo (by decide +kernel)
def jO:zk ["_law_script","_law_at","_law_names_here","_law_places","_law_lengths_here","_law_trips_here","_law_k","_law_ahead"] ["_law_script","_law_at","_law_names_here","_law_places","_law_lengths_here"] (zi QS):=wo (by decide +kernel)
def WC:zk ["self","most"] ["self","most"] (zi vE):=wo (by decide +kernel)
def aQ:zk ["things","most"] ["things","most"] (zi Z0):=wo (by decide +kernel)
def WD:zk ["self","name"] ["self","name"] (zi vF):=wo (by decide +kernel)
def Z_:zk ["name","sign"] ["name"] (zi vG):=wo (by decide +kernel)
def aR:zk ["self","name"] ["self","name"] (zi Z1):=wo (by decide +kernel)
def QT:zk ["name","had"] ["name","had"] (zi qT):=wo (by decide +kernel)
def WE:zk ["self","name"] ["self","name"] (zi vH):=wo (by decide +kernel)
def XG:zk ["name","places"] ["name","places"] (zi wX):=wo (by decide +kernel)
def WG:zk ["self","origin","goal"] ["self","origin","goal"] (zi vI):=wo (by decide +kernel)
def Km:zk ["self","value"] ["self","value"] (zi jU):=wo (by decide +kernel)
def Kn:zk ["value","least"] ["value","least"] (zi jV):=wo (by decide +kernel)
def Vp:zk ["self","name"] ["self","name"] (zi kE):=wo (by decide +kernel)
def aS:zk ["self","origin","goal"] ["self","origin","goal"] (zi Z2):=wo (by decide +kernel)
def WH:zk ["self","name"] ["self","name"] (zi vJ):=wo (by decide +kernel)
def Jl:zk ["roads","trip","had","length"] ["roads","trip","had"] (zi Z3):=wo (by decide +kernel)
def Ko:zk ["trip"] ["trip"] (zi jW):=wo (by decide +kernel)
def Jm:zk ["self","roads","trips","trip"] ["self","roads","trips"] (zi Z4):=wo (by decide +kernel)
def jX:zk ["_law_names_here","_law_found","_law_k"] ["_law_names_here"] (zi kG):=wo (by decide +kernel)
def kJ:zk ["places","had","name"] ["places"] (zi vL):=wo (by decide +kernel)
def ki:zk ["places","ways","origin","goal","minutes"] ["places","ways"] (zi Z5):=wo (by decide +kernel)
def zU:zk ["origin","ways","heights","changed","start","goal","minutes","height"] ["origin","ways"] (zi vM):=wo (by decide +kernel)
def aT:zk ["self","places","ways"] ["self","places","ways"] (zi Z6):=wo (by decide +kernel)
def XH:zk ["self","name"] ["self","name"] (zi wY):=wo (by decide +kernel)
def aU:zk ["self","name"] ["self","name"] (zi Z7):=wo (by decide +kernel)
def iz:zk ["table","one","other","ahead","behind","length"] ["table","one","other"] (zi Dg):=wo (by decide +kernel)
def c4:zk ["table","one","other","minutes"] ["table","one","other"] (zi aO):=wo (by decide +kernel)
def Jn:zk ["_law_table","_law_one","_law_other","_law_due","e"] ["_law_table","_law_one","_law_other","_law_due"] (zi Z8):=wo (by decide +kernel)
def XI:zk ["self"] ["self"] (zi wZ):=wo (by decide +kernel)
def XJ:zk ["self"] ["self"] (zi w4):=wo (by decide +kernel)
def Vq:zk ["table","one","names"] ["table","one","names"] (zi kH):=wo (by decide +kernel)
def iA:zk ["table","names"] ["table"] (zi fC):=wo (by decide +kernel)
def w6:zk ["_law_table","_law_due","_law_found","_law_name"] ["_law_table","_law_due"] (zi Kl):=wo (by decide +kernel)
def aV:zk ["_law_one","_law_other","_law_lengths_here"] ["_law_one","_law_other","_law_lengths_here"] (zi Z9):=wo (by decide +kernel)
def ju:zk ["_law_script","_law_places","_law_ways_here","_law_lengths_here","_law_many","_law_trips_here","_law_handed","_law_table","_law_halves","_law_shorter","_law_beside","_law_due","_law_one","_law_other","_law_found","_law_who"] ["_law_script"] (zi Dh):=wo (by decide +kernel)
abbrev NsN(K:Nj)(x:Str):Prop:=W.nsIn K mainGlobals x=some none
abbrev NsR(K:Nj)(x:Str)(c:Addr):Prop:=W.nsIn K mainGlobals x=some (some (.ref c))
abbrev Lq(K:Nj)(x y:Addr):Prop:=W.kitOne K (.ref x) (.ref y)=some true
abbrev d_(K:Nj)(x y:Addr):Prop:=W.kitOne K (.ref x) (.ref y)=some false
def ev(i:Nat)(hN:X.N[i]?=some x:=by rfl)(hv:Vis X.env.scope x:=by first|exact Or.inl rfl|exact Or.inr (Or.inl rfl)|exact Or.inr (Or.inr rfl))(hd:(x==("__debug__":Str))=false:=by decide)(hcd:(x==("__classdict__":Str))=false:=by decide):EM X C S true (.Name x pos) (zc i):=E3 (pv i hN hv hd hcd)
def ei{j}:EM X C S false (.Constant (.int i) j pos) (mC (.i i)):=ym Ec
def rm(hr:qQ k A)(h:j<=k:=by decide):qQ j A:=hr.mono h
def F8(h1:W.findIn K (.ref C) "__init__"=some (some (.ref f)))(h2:K.lookup C=some (excClassObj nm q C N bs bm true sn sub ab col dd k0 k1 k2 k3 k5 "ValueError.__new__"))(h3:cw K bm=true)(h4:W.typeIn K (.ref f)=some (.type "function"))(h5:W.keepIn K (.ref C)=true):XMk K C f:=⟨⟨_,_,_,_,_,_,_,_,_,_,_,_,_,_,_,h2,h3⟩,h1,h4,h5⟩
abbrev fnT(st:Nq)(sh q:Str)(kV dc pm:Value)(an:Np)(cd ct:Value):FuncData:=W.fnOf sh q (V7 st) (vA st) (zi st) .none kV dc pm an cd ct
abbrev DfN(K:Nj)(x:Str)(st:Nq)(f:Addr)(fd:Na):Prop:=W.nsIn K mainGlobals x=some (some (.ref f))/\Fun K x x st f fd
structure Def(K:Nj)(mg:Mz)(x:Str)(st:Nq)(ps:MD)(f:Addr)(fd:Na):Prop where
 g:mg x=some (.ref f)
 F:Fun K x x st f fd
 b:Binds K fd ps []
def Def.k(D:Def K mg x st ps f fd):W.keepIn K (.ref f)=true:=D.F.kp
abbrev BN(x q:Str)(st:Nq)(ps:MD):Prop:=∀(kV dc pm:Value)(an:Np)(cd ct:Value)(us:MJ),us.length=ps.length->bindArgs (fnT st x q kV dc pm an cd ct) ⟨us,[]⟩=pure (ps.zip us)
def yI(X:K.In h)(G:h.Ns mainGlobals mg)(D:DfN K x st f fd)(b:BN x x st ps):Def K mg x st ps f fd:=⟨a0g X G D.1,D.2,D.2.binds b⟩
def fz{P:NG}:∀c∈([]:List Nat),P c:=λ_ h=>nomatch h
def fa{P:NG}{a:Nat}{l:MB}(h:P a)(t:∀c∈l,P c):∀c∈a::l,P c:=λc hc=>(O5.mp hc).elim (λe=>e▸h) (t c)
def al{X:Cx}{W:RC}{fr:Bool}{ws:MP}{mn:Str}{c:Nat}{f:MU}(h:DW X.prog X.w X.K X.mg X.base X.A mn (W.cls c) (lsp W fr (true::ws) f)):∀K sp,G8 W fr ws [(c,f)] K sp->DW X.prog X.w X.K X.mg X.base X.A mn K sp:=λK sp ⟨q,hq,e1,e2⟩=>by cases O7.mp hq;subst e1 e2;exact h
def ec{X:Cx}{C:LC}{S:MB}{k j:Nat}{f:Addr}{fd:Na}{ps:MD}{fr:Bool}{ws:MP}{g:MU}{x:Str}{st:Nq}{e:MR}{es:MK}{ms:MA}{p pos:Pos}(F:y8 X.prog X.w X.K X.mg X.base (CXe X.prog X.w) k f fd ps (lsp C.W fr ws g))(hr:qQ j X.A)(D:Def X.K X.mg x st ps f fd)(hx:Passes (CXe X.prog X.w) X C.E)(ha:AM X C S ws (e::es) ms)(hj:k<=j:=by decide)(hg:Gl X x:=by rfl)
  (hdb:(x==("__debug__":Str))=false:=by decide) (he:starEach (e::es) X.env=(false,eval e X.env)::starEach es X.env:=by rfl) (hpl:(backTo pos (starEach es X.env)).any (·.1)=false:=by rfl):EM X C S false (.Call (.Name x p) (e::es) [] pos) (zj g ms):=Cp F (hr.mono hj) hg D.g D.k D.b hx ha hdb he hpl
def gn(i:Nat)(hN:X.N.Nodup)(hi:X.N[i]?=some x:=by rfl)(hx:Loc X.env.scope x:=by exact .inl rfl)(hf:X.fn x=true\/X.env.scope.names.lookup x=some .local:=by first|exact .inl rfl|exact .inr rfl|assumption):GM X C S (S.set i 0) (.Name x pos) (gNm i):=wO hN hi hx hf
def se(i:Nat)(hN:X.N.Nodup)(h:EM X C S false e m)(hi:X.N[i]?=some x:=by rfl)(hx:Loc X.env.scope x:=by exact .inl rfl)(hs:swapsWith e (some (.Name x pos')) pos.line X.env=pure false:=by rfl)(hf:X.fn x=true\/X.env.scope.names.lookup x=some .local:=by first|exact .inl rfl|exact .inr rfl|assumption):SM X C S (S.set i 0) Sb Sc (.Assign [.Name x pos'] e pos) (y_ i m):=o8 hN hi hx h hs hf
def ix(hr:qQ k X.A)(h1:EM X C S w1 a m1)(h2:EM X C S w2 b m2)(hs:V3 b:=by intro _ _;rfl):EM X C S false (.Subscript a b pos) (mOp pIx m1 m2):=H_ (qO hr) h1 h2 hs
def hse(i:Nat)(hN:X.N.Nodup)(h:HE X W E e m)(hi:X.N[i]?=some x:=by rfl)(hx:Loc X.env.scope x:=by exact .inl rfl)(hs:swapsWith e (some (.Name x pos')) pos.line X.env=pure false:=by rfl)(hf:X.fn x=true\/X.env.scope.names.lookup x=some .local:=by first|exact .inl rfl|exact .inr rfl|assumption):HS X W E (.Assign [.Name x pos'] e pos) (KN i m):=pY hN hi hx h hs hf
def hp(h:EM X ⟨W,E,false⟩ (List.replicate 30 0) false e m):HE X W E e (hP bs m):=Mj bs h (a0D.mpr λ_ h=>by rw[a2e h];rfl)
def hf(h:FM X ⟨W,E,false⟩ (List.replicate 30 0) e m):HE X W E e (hF bs m):=Mm bs h (a0D.mpr λ_ h=>by rw[a2e h];rfl)
def bn1(h:∀kV dc pm an cd ct u0,bindArgs (fnT st x q kV dc pm an cd ct) ⟨[u0],[]⟩=pure (ps.zip [u0]):=by intros;rfl)(hp:ps.length=1:=by rfl):BN x q st ps:=λkV dc pm an cd ct us hl=>Io (P:=λus=>bindArgs (fnT st x q kV dc pm an cd ct) ⟨us,[]⟩=pure (ps.zip us)) (hl.trans hp) λu0=>h kV dc pm an cd ct u0
def bn2(h:∀kV dc pm an cd ct u0 u1,bindArgs (fnT st x q kV dc pm an cd ct) ⟨[u0,u1],[]⟩=pure (ps.zip [u0,u1]):=by intros;rfl)(hp:ps.length=2:=by rfl):BN x q st ps:=λkV dc pm an cd ct us hl=>Ip (P:=λus=>bindArgs (fnT st x q kV dc pm an cd ct) ⟨us,[]⟩=pure (ps.zip us)) (hl.trans hp) λu0 u1=>h kV dc pm an cd ct u0 u1
def bn3(h:∀kV dc pm an cd ct u0 u1 u2,bindArgs (fnT st x q kV dc pm an cd ct) ⟨[u0,u1,u2],[]⟩=pure (ps.zip [u0,u1,u2]):=by intros;rfl)(hp:ps.length=3:=by rfl):BN x q st ps:=λkV dc pm an cd ct us hl=>Iq (P:=λus=>bindArgs (fnT st x q kV dc pm an cd ct) ⟨us,[]⟩=pure (ps.zip us)) (hl.trans hp) λu0 u1 u2=>h kV dc pm an cd ct u0 u1 u2
def bn4(h:∀kV dc pm an cd ct u0 u1 u2 u3,bindArgs (fnT st x q kV dc pm an cd ct) ⟨[u0,u1,u2,u3],[]⟩=pure (ps.zip [u0,u1,u2,u3]):=by intros;rfl)(hp:ps.length=4:=by rfl):BN x q st ps:=λkV dc pm an cd ct us hl=>Ir (P:=λus=>bindArgs (fnT st x q kV dc pm an cd ct) ⟨us,[]⟩=pure (ps.zip us)) (hl.trans hp) λu0 u1 u2 u3=>h kV dc pm an cd ct u0 u1 u2 u3
def bn5(h:∀kV dc pm an cd ct u0 u1 u2 u3 u4,bindArgs (fnT st x q kV dc pm an cd ct) ⟨[u0,u1,u2,u3,u4],[]⟩=pure (ps.zip [u0,u1,u2,u3,u4]):=by intros;rfl)(hp:ps.length=5:=by rfl):BN x q st ps:=λkV dc pm an cd ct us hl=>Iu (P:=λus=>bindArgs (fnT st x q kV dc pm an cd ct) ⟨us,[]⟩=pure (ps.zip us)) (hl.trans hp) λu0 u1 u2 u3 u4=>h kV dc pm an cd ct u0 u1 u2 u3 u4
def bn6(h:∀kV dc pm an cd ct u0 u1 u2 u3 u4 u5,bindArgs (fnT st x q kV dc pm an cd ct) ⟨[u0,u1,u2,u3,u4,u5],[]⟩=pure (ps.zip [u0,u1,u2,u3,u4,u5]):=by intros;rfl)(hp:ps.length=6:=by rfl):BN x q st ps:=λkV dc pm an cd ct us hl=>IE (P:=λus=>bindArgs (fnT st x q kV dc pm an cd ct) ⟨us,[]⟩=pure (ps.zip us)) (hl.trans hp) λu0 u1 u2 u3 u4 u5=>h kV dc pm an cd ct u0 u1 u2 u3 u4 u5
structure Adr where
 (z0 yY yg qf jY yZ jC zX yk y0 Zg Zh zD zz qJ ko yR jA jB v7 yr v8 y4 Ys zF v9 z9 zG jZ zA kZ Yt v_ qd zt Yu ye y6 qN ya yJ Zi zN X3 qk yK zW yq yf sR UO qc GO GP GQ:Addr)
 (JR dP Xl UP JS UQ Xm wa K8 wb Qj Yv vq wc JT wd j0 Zv k7 Yw we K9 Zw Yx Yy Qk K_ Ql Yz Zj YA GR lH Va Zk Zl YB sS UR Vb DO:Na)
 (DP dQ X_ dR GS Ah GU DQ Ai DR bE f9:Tok)
abbrev Lr(K:Nj)(mg:Mz)(a:Adr):Prop:=
 (mg "LIMIT"=some (.int 1000000000 a.DP))/\
 (mg "NAME_SIGNS"=some (.str "abcdefghijklmnopqrstuvwxyz0123456789" a.dQ))/\
 (mg "LONGEST_NAME"=some (.int 12 a.X_))/\
 (mg "MOST_TRIPS"=some (.int 40 a.dR))/\
 (mg "NAME"=some (.int 0 a.GS))/\
 (mg "ORIGIN"=some (.int 1 a.Ah))/\
 (mg "GOAL"=some (.int 2 a.GU))/\
 (mg "START"=some (.int 3 a.DQ))
abbrev Ls(K:Nj)(mg:Mz)(a:Adr):Prop:=
 (mg "FINISH"=some (.int 4 a.Ai))/\
 (mg "SEATS"=some (.int 5 a.DR))/\
 (mg "MOST_PLACES"=some (.int 12 a.bE))/\
 (mg "MOST_WAYS"=some (.int 60 a.f9))/\
 (mg "FleetError"=some (.ref a.z0))/\
 (mg "BadName"=some (.ref a.yY))/\
 (mg "BadNumber"=some (.ref a.yg))/\
 (mg "TooMany"=some (.ref a.qf))
abbrev Txt2(K:Nj)(mg:Mz)(a:Adr):Prop:=
 (mg "Twice"=some (.ref a.jY))/\
 (mg "NoPlace"=some (.ref a.yZ))/\
 (mg "NoWay"=some (.ref a.jC))/\
 (mg "NoTrip"=some (.ref a.zX))/\
 (mg "Backward"=some (.ref a.yk))/\
 (mg "TooFast"=some (.ref a.y0))/\
 (mg "Table"=some (.ref a.Zg))/\
 (mg "Roads"=some (.ref a.Zh))
abbrev Lu(K:Nj)(mg:Mz)(a:Adr):Prop:=
 (mg "ValueError"=none)/\
 (mg "bool"=none)/\
 (mg "dict"=none)/\
 (mg "isinstance"=none)/\
 (mg "len"=none)/\
 (mg "list"=none)/\
 (mg "max"=none)/\
 (mg "min"=none)
abbrev Lv(K:Nj)(mg:Mz)(a:Adr):Prop:=
 (mg "range"=none)/\
 (mg "reversed"=none)/\
 (mg "sorted"=none)/\
 (mg "str"=none)/\
 (Def K mg "_law_cell_at" wV ["_law_script","_law_k"] a.zD a.JR)/\
 (Def K mg "_law_mix" WB ["_law_script","_law_k","_law_prime"] a.zz a.dP)/\
 (Def K mg "_law_names" QR ["_law_script","_law_at","_law_many"] a.qJ a.Xl)/\
 (Def K mg "_law_ways" Kj ["_law_script","_law_at","_law_names_here"] a.ko a.UP)
abbrev Lw(K:Nj)(mg:Mz)(a:Adr):Prop:=
 (Def K mg "_law_lengths" wW ["_law_names_here","_law_ways_here"] a.yR a.JS)/\
 (Def K mg "_law_trip" Kk ["_law_script","_law_at","_law_name","_law_places","_law_lengths_here","_law_ahead"] a.jA a.UQ)/\
 (Def K mg "_law_trips" QS ["_law_script","_law_at","_law_names_here","_law_places","_law_lengths_here"] a.jB a.Xm)/\
 (Fun K "__init__" "TooMany.__init__" vE a.v7 a.wa)/\
 (Binds K a.wa ["self","most"] [])/\
 (Def K mg "check_most" Z0 ["things","most"] a.yr a.K8)/\
 (Fun K "__init__" "BadName.__init__" vF a.v8 a.wb)/\
 (Binds K a.wb ["self","name"] [])
abbrev Lx(K:Nj)(mg:Mz)(a:Adr):Prop:=
 (Def K mg "checked_name" vG ["name"] a.y4 a.Qj)/\
 (Fun K "__init__" "Twice.__init__" Z1 a.Ys a.Yv)/\
 (Binds K a.Yv ["self","name"] [])/\
 (Def K mg "checked_new_name" qT ["name","had"] a.zF a.vq)/\
 (Fun K "__init__" "NoPlace.__init__" vH a.v9 a.wc)/\
 (Binds K a.wc ["self","name"] [])/\
 (Def K mg "check_place" wX ["name","places"] a.z9 a.JT)/\
 (Fun K "length" "Roads.length" vI a.zG a.wd)
abbrev Ly(K:Nj)(mg:Mz)(a:Adr):Prop:=
 (Binds K a.wd ["self","origin","goal"] [])/\
 (Fun K "__init__" "BadNumber.__init__" jU a.jZ a.j0)/\
 (Binds K a.j0 ["self","value"] [])/\
 (Def K mg "checked_number" jV ["value","least"] a.zA a.Zv)/\
 (Fun K "__init__" "Backward.__init__" kE a.kZ a.k7)/\
 (Binds K a.k7 ["self","name"] [])/\
 (Fun K "__init__" "NoWay.__init__" Z2 a.Yt a.Yw)/\
 (Binds K a.Yw ["self","origin","goal"] [])
abbrev Lz(K:Nj)(mg:Mz)(a:Adr):Prop:=
 (Fun K "__init__" "TooFast.__init__" vJ a.v_ a.we)/\
 (Binds K a.we ["self","name"] [])/\
 (Def K mg "check_trip" Z3 ["roads","trip","had"] a.qd a.K9)/\
 (Def K mg "place_in_order" jW ["trip"] a.zt a.Zw)/\
 (Fun K "__init__" "Table.__init__" Z4 a.Yu a.Yx)/\
 (Binds K a.Yx ["self","roads","trips"] [])/\
 (Def K mg "_law_strangers" kG ["_law_names_here"] a.ye a.Yy)/\
 (Def K mg "check_places" vL ["places"] a.y6 a.Qk)
abbrev LB(K:Nj)(mg:Mz)(a:Adr):Prop:=
 (Def K mg "check_ways" Z5 ["places","ways"] a.qN a.K_)/\
 (Def K mg "heights_from" vM ["origin","ways"] a.ya a.Ql)/\
 (Fun K "__init__" "Roads.__init__" Z6 a.yJ a.Yz)/\
 (Binds K a.Yz ["self","places","ways"] [])/\
 (Fun K "__init__" "NoTrip.__init__" wY a.Zi a.Zj)/\
 (Binds K a.Zj ["self","name"] [])/\
 (Fun K "trip" "Table.trip" Z7 a.zN a.YA)/\
 (Binds K a.YA ["self","name"] [])
abbrev F9(K:Nj)(mg:Mz)(a:Adr):Prop:=
 (Def K mg "gap" Dg ["table","one","other"] a.X3 a.GR)/\
 (Def K mg "linked" aO ["table","one","other"] a.qk a.lH)/\
 (Def K mg "_law_nobody" Z8 ["_law_table","_law_one","_law_other","_law_due"] a.yK a.Va)/\
 (Fun K "names" "Table.names" wZ a.zW a.Zk)/\
 (Binds K a.Zk ["self"] [])/\
 (Fun K "names" "Roads.names" w4 a.yq a.Zl)/\
 (Binds K a.Zl ["self"] [])/\
 (Def K mg "linked_behind" kH ["table","one","names"] a.yf a.YB)
abbrev F_(K:Nj)(mg:Mz)(a:Adr):Prop:=
 (Def K mg "links" fC ["table"] a.sR a.sS)/\
 (Def K mg "_law_told" Kl ["_law_table","_law_due"] a.UO a.UR)/\
 (Def K mg "_law_behind" Z9 ["_law_one","_law_other","_law_lengths_here"] a.qc a.Vb)/\
 (Def K mg "law" Dh ["_law_script"] a.GO a.DO)/\
 (ZQ K a.yY)/\
 (XIs K a.yY)/\
 (XMk K a.yY a.v8)/\
 (Catch K a.yY a.z0 true)
abbrev Ga(K:Nj)(mg:Mz)(a:Adr):Prop:=
 (W.takerIn K a.yY "name"=some none)/\
 (W.findIn K (.ref a.yY) "name"=some none)/\
 (ZQ K a.yg)/\
 (XIs K a.yg)/\
 (XMk K a.yg a.jZ)/\
 (Catch K a.yg a.z0 true)/\
 (W.takerIn K a.yg "value"=some none)/\
 (ZQ K a.qf)
abbrev Gb(K:Nj)(mg:Mz)(a:Adr):Prop:=
 (XIs K a.qf)/\
 (XMk K a.qf a.v7)/\
 (Catch K a.qf a.z0 true)/\
 (W.takerIn K a.qf "most"=some none)/\
 (ZQ K a.jY)/\
 (XIs K a.jY)/\
 (XMk K a.jY a.Ys)/\
 (Catch K a.jY a.z0 true)
abbrev Gd(K:Nj)(mg:Mz)(a:Adr):Prop:=
 (W.takerIn K a.jY "name"=some none)/\
 (W.findIn K (.ref a.jY) "name"=some none)/\
 (ZQ K a.yZ)/\
 (XIs K a.yZ)/\
 (XMk K a.yZ a.v9)/\
 (Catch K a.yZ a.z0 true)/\
 (W.takerIn K a.yZ "name"=some none)/\
 (W.findIn K (.ref a.yZ) "name"=some none)
abbrev Ge(K:Nj)(mg:Mz)(a:Adr):Prop:=
 (ZQ K a.jC)/\
 (XIs K a.jC)/\
 (XMk K a.jC a.Yt)/\
 (Catch K a.jC a.z0 true)/\
 (W.takerIn K a.jC "origin"=some none)/\
 (W.takerIn K a.jC "goal"=some none)/\
 (ZQ K a.zX)/\
 (XIs K a.zX)
abbrev Gf(K:Nj)(mg:Mz)(a:Adr):Prop:=
 (XMk K a.zX a.Zi)/\
 (Catch K a.zX a.z0 true)/\
 (W.takerIn K a.zX "name"=some none)/\
 (W.findIn K (.ref a.zX) "name"=some none)/\
 (ZQ K a.yk)/\
 (XIs K a.yk)/\
 (XMk K a.yk a.kZ)/\
 (Catch K a.yk a.z0 true)
abbrev Gg(K:Nj)(mg:Mz)(a:Adr):Prop:=
 (W.takerIn K a.yk "name"=some none)/\
 (W.findIn K (.ref a.yk) "name"=some none)/\
 (ZQ K a.y0)/\
 (XIs K a.y0)/\
 (XMk K a.y0 a.v_)/\
 (Catch K a.y0 a.z0 true)/\
 (W.takerIn K a.y0 "name"=some none)/\
 (W.findIn K (.ref a.y0) "name"=some none)
abbrev Gh(K:Nj)(mg:Mz)(a:Adr):Prop:=
 (Cls K a.Zg)/\
 (j8 K a.Zg "by_name")/\
 (j8 K a.Zg "order")/\
 (j8 K a.Zg "roads")/\
 (Meth K a.Zg "names" a.zW)/\
 (Meth K a.Zg "trip" a.zN)/\
 (Mk K a.Zg a.Yu)/\
 (Cls K a.Zh)
abbrev Gi(K:Nj)(mg:Mz)(a:Adr):Prop:=
 (j8 K a.Zh "lengths")/\
 (j8 K a.Zh "places")/\
 (j8 K a.Zh "ways")/\
 (Meth K a.Zh "length" a.zG)/\
 (Meth K a.Zh "names" a.yq)/\
 (Mk K a.Zh a.yJ)/\
 (W.kitOne K (.ref a.yY) (.type "ValueError")=some true)/\
 (W.kitOne K (.ref a.yg) (.type "ValueError")=some true)
abbrev Gj(K:Nj)(mg:Mz)(a:Adr):Prop:=
 (W.kitOne K (.ref a.qf) (.type "ValueError")=some true)/\
 (W.kitOne K (.ref a.jY) (.type "ValueError")=some true)/\
 (W.kitOne K (.ref a.yZ) (.type "ValueError")=some true)/\
 (W.kitOne K (.ref a.jC) (.type "ValueError")=some true)/\
 (W.kitOne K (.ref a.zX) (.type "ValueError")=some true)/\
 (W.kitOne K (.ref a.yk) (.type "ValueError")=some true)/\
 (W.kitOne K (.ref a.y0) (.type "ValueError")=some true)/\
 (d_ K a.yY a.zX)
abbrev Gk(K:Nj)(mg:Mz)(a:Adr):Prop:=
 (d_ K a.yg a.zX)/\
 (d_ K a.qf a.zX)/\
 (d_ K a.jY a.zX)/\
 (d_ K a.yZ a.zX)/\
 (d_ K a.jC a.zX)/\
 (Lq K a.zX a.zX)/\
 (d_ K a.yk a.zX)/\
 (d_ K a.y0 a.zX)
abbrev Gm(K:Nj)(mg:Mz)(a:Adr):Prop:=
 (W.kitOne K (.type "dict") (.type "dict")=some true)/\
 (W.kitOne K (.type "list") (.type "list")=some true)/\
 (W.kitOne K (.type "bool") (.type "bool")=some true)/\
 (W.kitOne K (.type "int") (.type "bool")=some false)/\
 (a.DO.code=.ref a.GP)
abbrev Txt(K:Nj)(mg:Mz)(a:Adr):Prop:=Lr K mg a/\Ls K mg a/\Txt2 K mg a/\Lu K mg a/\Lv K mg a/\Lw K mg a/\Lx K mg a/\Ly K mg a/\Lz K mg a/\LB K mg a/\F9 K mg a/\F_ K mg a/\Ga K mg a/\Gb K mg a/\Gd K mg a/\Ge K mg a/\Gf K mg a/\Gg K mg a/\Gh K mg a/\Gi K mg a/\Gj K mg a/\Gk K mg a/\Gm K mg a
section
variable {K:Nj}{mg:Mz}{a:Adr}(T:Txt K mg a)
include T
def Txt.cc0:Lr K mg a:=T.1
def Txt.fD:=T.cc0.1
def Txt.Ya:=T.cc0.2.1
def Txt.vN:=T.cc0.2.2.1
def Txt.Yb:=T.cc0.2.2.2.1
def Txt.KO:=T.cc0.2.2.2.2.1
def Txt.Jo:=T.cc0.2.2.2.2.2.1
def Txt.c5:=T.cc0.2.2.2.2.2.2.1
def Txt.QU:=T.cc0.2.2.2.2.2.2.2
def Txt.cc1:Ls K mg a:=T.2.1
def Txt.w8:=T.cc1.1
def Txt.fE:=T.cc1.2.1
def Txt.w_:=T.cc1.2.2.1
def Txt.QV:=T.cc1.2.2.2.1
def Txt.Yc:=T.cc1.2.2.2.2.1
def Txt.Jp:=T.cc1.2.2.2.2.2.1
def Txt.QW:=T.cc1.2.2.2.2.2.2.1
def Txt.WI:=T.cc1.2.2.2.2.2.2.2
def Txt.cc2:Txt2 K mg a:=T.2.2.1
def Txt.fF:=T.cc2.1
def Txt.WJ:=T.cc2.2.1
def Txt.fG:=T.cc2.2.2.1
def Txt.VP:=T.cc2.2.2.2.1
def Txt.Kp:=T.cc2.2.2.2.2.1
def Txt.WK:=T.cc2.2.2.2.2.2.1
def Txt.aW:=T.cc2.2.2.2.2.2.2.1
def Txt.aX:=T.cc2.2.2.2.2.2.2.2
def Txt.cc3:Lu K mg a:=T.2.2.2.1
def Txt.Yd:=T.cc3.1
def Txt.rO:=T.cc3.2.1
def Txt.c6:=T.cc3.2.2.1
def Txt.qb:=T.cc3.2.2.2.1
def Txt.Kq:=T.cc3.2.2.2.2.1
def Txt.jP:=T.cc3.2.2.2.2.2.1
def Txt.xI:=T.cc3.2.2.2.2.2.2.1
def Txt.mM:=T.cc3.2.2.2.2.2.2.2
def Txt.cc4:Lv K mg a:=T.2.2.2.2.1
def Txt.Ye:=T.cc4.1
def Txt.Kr:=T.cc4.2.1
def Txt.VQ:=T.cc4.2.2.1
def Txt.xJ:=T.cc4.2.2.2.1
def Txt.z7:=T.cc4.2.2.2.2.1
def Txt.yV:=T.cc4.2.2.2.2.2.1
def Txt.yP:=T.cc4.2.2.2.2.2.2.1
def Txt.kn:=T.cc4.2.2.2.2.2.2.2
def Txt.cc5:Lw K mg a:=T.2.2.2.2.2.1
def Txt.z8:=T.cc5.1
def Txt.YX:=T.cc5.2.1
def Txt.jx:=T.cc5.2.2.1
def Txt.XN:=T.cc5.2.2.2.1
def Txt.XQ:=T.cc5.2.2.2.2.1
def Txt.qM:=T.cc5.2.2.2.2.2.1
def Txt.XR:=T.cc5.2.2.2.2.2.2.1
def Txt.Y6:=T.cc5.2.2.2.2.2.2.2
def Txt.cc6:Lx K mg a:=T.2.2.2.2.2.2.1
def Txt.jG:=T.cc6.1
def Txt.c7:=T.cc6.2.1
def Txt.c8:=T.cc6.2.2.1
def Txt.yp:=T.cc6.2.2.2.1
def Txt.XS:=T.cc6.2.2.2.2.1
def Txt.XT:=T.cc6.2.2.2.2.2.1
def Txt.yQ:=T.cc6.2.2.2.2.2.2.1
def Txt.XU:=T.cc6.2.2.2.2.2.2.2
def Txt.cc7:Ly K mg a:=T.2.2.2.2.2.2.2.1
def Txt.Y7:=T.cc7.1
def Txt.Vr:=T.cc7.2.1
def Txt.Vs:=T.cc7.2.2.1
def Txt.z6:=T.cc7.2.2.2.1
def Txt.WL:=T.cc7.2.2.2.2.1
def Txt.WM:=T.cc7.2.2.2.2.2.1
def Txt.c9:=T.cc7.2.2.2.2.2.2.1
def Txt.c_:=T.cc7.2.2.2.2.2.2.2
def Txt.cc8:Lz K mg a:=T.2.2.2.2.2.2.2.2.1
def Txt.XW:=T.cc8.1
def Txt.XX:=T.cc8.2.1
def Txt.vg:=T.cc8.2.2.1
def Txt.yW:=T.cc8.2.2.2.1
def Txt.de:=T.cc8.2.2.2.2.1
def Txt.KP:=T.cc8.2.2.2.2.2.1
def Txt.qU:=T.cc8.2.2.2.2.2.2.1
def Txt.jH:=T.cc8.2.2.2.2.2.2.2
def Txt.cc9:LB K mg a:=T.2.2.2.2.2.2.2.2.2.1
def Txt.vh:=T.cc9.1
def Txt.y3:=T.cc9.2.1
def Txt.dg:=T.cc9.2.2.1
def Txt.KQ:=T.cc9.2.2.2.1
def Txt.aY:=T.cc9.2.2.2.2.1
def Txt.aZ:=T.cc9.2.2.2.2.2.1
def Txt.dh:=T.cc9.2.2.2.2.2.2.1
def Txt.KR:=T.cc9.2.2.2.2.2.2.2
def Txt.Bm:F9 K mg a:=T.2.2.2.2.2.2.2.2.2.2.1
def Txt.xK:=T.Bm.1
def Txt.kj:=T.Bm.2.1
def Txt.jQ:=T.Bm.2.2.1
def Txt.a8:=T.Bm.2.2.2.1
def Txt.a9:=T.Bm.2.2.2.2.1
def Txt.a_:=T.Bm.2.2.2.2.2.1
def Txt.ba:=T.Bm.2.2.2.2.2.2.1
def Txt.yC:=T.Bm.2.2.2.2.2.2.2
def Txt.Bn:F_ K mg a:=T.2.2.2.2.2.2.2.2.2.2.2.1
def Txt.Ks:=T.Bn.1
def Txt.qj:=T.Bn.2.1
def Txt.jR:=T.Bn.2.2.1
def Txt.fH:=T.Bn.2.2.2.1
def Txt.wz:=T.Bn.2.2.2.2.1
def Txt.UC:=T.Bn.2.2.2.2.2.1
def Txt.di:=T.Bn.2.2.2.2.2.2.1
def Txt.mO:=T.Bn.2.2.2.2.2.2.2
def Txt.Bo:Ga K mg a:=T.2.2.2.2.2.2.2.2.2.2.2.2.1
def Txt.WN:=T.Bo.1
def Txt.WO:=T.Bo.2.1
def Txt.Za:=T.Bo.2.2.1
def Txt.KS:=T.Bo.2.2.2.1
def Txt.fI:=T.Bo.2.2.2.2.1
def Txt.dj:=T.Bo.2.2.2.2.2.1
def Txt.Jq:=T.Bo.2.2.2.2.2.2.1
def Txt.Jr:=T.Bo.2.2.2.2.2.2.2
def Txt.Bp:Gb K mg a:=T.2.2.2.2.2.2.2.2.2.2.2.2.2.1
def Txt.UD:=T.Bp.1
def Txt.rP:=T.Bp.2.1
def Txt.mP:=T.Bp.2.2.1
def Txt.WQ:=T.Bp.2.2.2.1
def Txt.WR:=T.Bp.2.2.2.2.1
def Txt.iB:=T.Bp.2.2.2.2.2.1
def Txt.Di:=T.Bp.2.2.2.2.2.2.1
def Txt.xM:=T.Bp.2.2.2.2.2.2.2
def Txt.Bq:Gd K mg a:=T.2.2.2.2.2.2.2.2.2.2.2.2.2.2.1
def Txt.bb:=T.Bq.1
def Txt.bc:=T.Bq.2.1
def Txt.Yf:=T.Bq.2.2.1
def Txt.UE:=T.Bq.2.2.2.1
def Txt.rQ:=T.Bq.2.2.2.2.1
def Txt.mQ:=T.Bq.2.2.2.2.2.1
def Txt.WT:=T.Bq.2.2.2.2.2.2.1
def Txt.WU:=T.Bq.2.2.2.2.2.2.2
def Txt.Br:Ge K mg a:=T.2.2.2.2.2.2.2.2.2.2.2.2.2.2.2.1
def Txt.WV:=T.Br.1
def Txt.iC:=T.Br.2.1
def Txt.Dj:=T.Br.2.2.1
def Txt.xN:=T.Br.2.2.2.1
def Txt.WX:=T.Br.2.2.2.2.1
def Txt.bf:=T.Br.2.2.2.2.2.1
def Txt.Js:=T.Br.2.2.2.2.2.2.1
def Txt.dk:=T.Br.2.2.2.2.2.2.2
def Txt.Bt:Gf K mg a:=T.2.2.2.2.2.2.2.2.2.2.2.2.2.2.2.2.1
def Txt.xO:=T.Bt.1
def Txt.rR:=T.Bt.2.1
def Txt.XY:=T.Bt.2.2.1
def Txt.XZ:=T.Bt.2.2.2.1
def Txt.wA:=T.Bt.2.2.2.2.1
def Txt.WY:=T.Bt.2.2.2.2.2.1
def Txt.mR:=T.Bt.2.2.2.2.2.2.1
def Txt.fJ:=T.Bt.2.2.2.2.2.2.2
def Txt.Bu:Gg K mg a:=T.2.2.2.2.2.2.2.2.2.2.2.2.2.2.2.2.2.1
def Txt.Vt:=T.Bu.1
def Txt.Vu:=T.Bu.2.1
def Txt.Yg:=T.Bu.2.2.1
def Txt.UG:=T.Bu.2.2.2.1
def Txt.rS:=T.Bu.2.2.2.2.1
def Txt.mS:=T.Bu.2.2.2.2.2.1
def Txt.WZ:=T.Bu.2.2.2.2.2.2.1
def Txt.W0:=T.Bu.2.2.2.2.2.2.2
def Txt.Bv:Gh K mg a:=T.2.2.2.2.2.2.2.2.2.2.2.2.2.2.2.2.2.2.1
def Txt.qz:=T.Bv.1
def Txt.yX:=T.Bv.2.1
def Txt.Y8:=T.Bv.2.2.1
def Txt.Y9:=T.Bv.2.2.2.1
def Txt.X0:=T.Bv.2.2.2.2.1
def Txt.Jt:=T.Bv.2.2.2.2.2.1
def Txt.iD:=T.Bv.2.2.2.2.2.2.1
def Txt.jI:=T.Bv.2.2.2.2.2.2.2
def Txt.Bw:Gi K mg a:=T.2.2.2.2.2.2.2.2.2.2.2.2.2.2.2.2.2.2.2.1
def Txt.Zp:=T.Bw.1
def Txt.qV:=T.Bw.2.1
def Txt.bg:=T.Bw.2.2.1
def Txt.Yh:=T.Bw.2.2.2.1
def Txt.X2:=T.Bw.2.2.2.2.1
def Txt.iE:=T.Bw.2.2.2.2.2.1
def Txt.qW:=T.Bw.2.2.2.2.2.2.1
def Txt.qX:=T.Bw.2.2.2.2.2.2.2
def Txt.Bx:Gj K mg a:=T.2.2.2.2.2.2.2.2.2.2.2.2.2.2.2.2.2.2.2.2.1
def Txt.qY:=T.Bx.1
def Txt.qZ:=T.Bx.2.1
def Txt.q_:=T.Bx.2.2.1
def Txt.ja:=T.Bx.2.2.2.1
def Txt.jb:=T.Bx.2.2.2.2.1
def Txt.jc:=T.Bx.2.2.2.2.2.1
def Txt.jd:=T.Bx.2.2.2.2.2.2.1
def Txt.vO:=T.Bx.2.2.2.2.2.2.2
def Txt.By:Gk K mg a:=T.2.2.2.2.2.2.2.2.2.2.2.2.2.2.2.2.2.2.2.2.2.1
def Txt.vP:=T.By.1
def Txt.vQ:=T.By.2.1
def Txt.vR:=T.By.2.2.1
def Txt.vS:=T.By.2.2.2.1
def Txt.vT:=T.By.2.2.2.2.1
def Txt.vU:=T.By.2.2.2.2.2.1
def Txt.vV:=T.By.2.2.2.2.2.2.1
def Txt.vW:=T.By.2.2.2.2.2.2.2
def Txt.Gn:Gm K mg a:=T.2.2.2.2.2.2.2.2.2.2.2.2.2.2.2.2.2.2.2.2.2.2
def Txt.Yi:=T.Gn.1
def Txt.Yj:=T.Gn.2.1
def Txt.Yk:=T.Gn.2.2.1
def Txt.QX:=T.Gn.2.2.2.1
def Txt.iF:=T.Gn.2.2.2.2
end
def cls(a:Adr):Nat->Addr
 |0=>a.z0
 |1=>a.yY
 |2=>a.yg
 |3=>a.qf
 |4=>a.jY
 |5=>a.yZ
 |6=>a.jC
 |7=>a.zX
 |8=>a.yk
 |9=>a.y0
 |10=>a.Zg
 |11=>a.Zh
 |1000=>a.GQ
 |_=>0
abbrev WW(K:Nj)(a:Adr):RC:=⟨K,cls a⟩
abbrev Zb:MS:=
  (yh (sIf (yH (mOp pLt (zc 1) (zj Us (zb (zc 0) zq)))) (ZM (mOp pIx (zc 0) (zc 1))) yN)
  (ZM (mC (.i 0))))
def zD:List PV->Out PV:=ZZ false 2 Zb
abbrev kK:MG:=
  (gNm 3)
abbrev kL:MS:=
  (cX 2 (zb (zc 3) (zb (zc 3) zq)) (mC (.i 0)))
abbrev kM:MG:=
  (gTp 3 (Y3 (gNm 4) (Y3 (gNm 5) (Y3 (gNm 6) uO))))
abbrev kN:MS:=
  (cX 2 (zb (zc 4) (zb (zc 5) zq)) (zj aj (zb (zc 6) (zb (mJ (zc 2) (zb (zc 4) (zb (zc 5) zq)) (zc 6)) zq))))
abbrev kO:MG:=
  (gNm 5)
abbrev je:MS:=
  (sIf (d9 (yH (nv false (zb (zc 4) (zb (zc 7) zq)) (zc 2))) (yH (nv false (zb (zc 7) (zb (zc 5) zq)) (zc 2)))) (yh (y_ 8 (mOp z1 (rg (zc 2) (zb (zc 4) (zb (zc 7) zq))) (rg (zc 2) (zb (zc 7) (zb (zc 5) zq)))))
  (cX 2 (zb (zc 4) (zb (zc 5) zq)) (zj aj (zb (zc 8) (zb (mJ (zc 2) (zb (zc 4) (zb (zc 5) zq)) (zc 8)) zq))))) yN)
abbrev kQ:MG:=
  (gNm 4)
abbrev kR:MS:=
  (Xx (yn (zc 0)) kO je)
abbrev kT:MG:=
  (gNm 7)
abbrev kU:MS:=
  (Xx (yn (zc 0)) kQ kR)
abbrev Ju:MS:=
  (yh (y_ 2 Bg)
  (yh (Xx (yn (zc 0)) kK kL)
  (yh (Xx (yn (zc 1)) kM kN)
  (yh (Xx (yn (zc 0)) kT kU)
  (ZM (zc 2))))))
def yR:List PV->Out PV:=ZZ true 9 Ju
abbrev Zq:MS:=
  (ZM (tO (zb (mOp pIx (zc 0) (mC (.i 3))) (zb (mOp pIx (zc 0) (mC (.i 4))) (zb (mOp pIx (zc 0) (mC (.i 0))) zq)))))
def zt:List PV->Out PV:=ZZ false 1 Zq
abbrev wB:MG:=
  (gNm 2)
abbrev wC:MS:=
  (sIf (yH (mOp (pIn true) (mOp z1 (mC (.s "t")) (zj D0 (zb (zc 2) zq))) (zc 0))) (o9 1 (mOp z1 (mC (.s "t")) (zj D0 (zb (zc 2) zq)))) yN)
abbrev Yl:MS:=
  (yh (y_ 1 (tN zq))
  (yh (Xx (Q9 (zb (mOp z1 (zj Us (zb (zc 0) zq)) (mC (.i 2))) zq)) wB wC)
  (ZM (mSl pSl (zc 1) ao (vC (mC (.i 2)))))))
def ye:List PV->Out PV:=ZZ false 3 Yl
abbrev Zr:MG:=
  (gTp 3 (Y3 (gNm 4) (Y3 (gNm 5) (Y3 (gNm 6) uO))))
abbrev qA:MS:=
  (sIf (yH (mOp (pIn false) (zc 4) (zc 2))) (yh (y_ 7 (mOp z1 (mOp pIx (zc 2) (zc 4)) (zc 6)))
  (sIf (mOr (yH (mOp (pIn true) (zc 5) (zc 2))) (yH (mOp pLt (zc 7) (mOp pIx (zc 2) (zc 5))))) (yh (Cv 2 (zc 5) (zc 7))
  (y_ 3 (mC (.b true)))) yN)) yN)
abbrev qB:MT:=
  (yH (zc 3))
abbrev yj:MS:=
  (yh (y_ 3 (mC (.b false)))
  (Xx (yn (zc 1)) Zr qA))
abbrev Y_:MS:=
  (yh (y_ 2 (mD1 (zc 0) (mC (.i 0))))
  (yh (y_ 3 (mC (.b true)))
  (yh (Ut qB yj)
  (ZM (zc 2)))))
def ya:List PV->Out PV:=ZZ true 8 Y_
abbrev Jv:MS:=
  (ZM (zj qv (zb (Wf [10] "order" (zc 0)) zq)))
def zW:List PV->Out PV:=ZZ true 1 Jv
abbrev Jw:MS:=
  (ZM (zj qv (zb (Wf [11] "places" (zc 0)) zq)))
def yq:List PV->Out PV:=ZZ true 1 Jw
abbrev KU:MS:=
  (yh (sIf (yH (nv true (zb (mOp pIx (zc 0) (mC (.i 2))) (zb (mOp pIx (zc 1) (mC (.i 1))) zq)) (zc 2))) (ZM (mC (.b false))) yN)
  (ZM (mOp pLe (mOp z1 (mOp pIx (zc 0) (mC (.i 4))) (rg (zc 2) (zb (mOp pIx (zc 0) (mC (.i 2))) (zb (mOp pIx (zc 1) (mC (.i 1))) zq)))) (mOp pIx (zc 1) (mC (.i 3))))))
def qc:List PV->Out PV:=ZZ false 3 KU
abbrev dm:MS:=
  (ZM (mOp zS (mOp Y2 (mOp zS (zj zD (zb (zc 0) (zb (zc 1) zq))) (mC (.i 1000000007))) (mC (.i 48271))) (zc 2)))
def zz:List PV->Out PV:=ZZ false 3 dm
abbrev UH:MS:=
  (yh (y_ 6 (zj zD (zb (zc 0) (zb (zc 1) zq))))
  (yh (y_ 7 (zj zD (zb (zc 0) (zb (mOp z1 (zc 1) (mC (.i 1))) zq))))
  (yh (y_ 8 (zj zD (zb (zc 0) (zb (mOp z1 (zc 1) (mC (.i 2))) zq))))
  (yh (y_ 9 (mOp pIx (zc 3) (mOp zS (zc 6) (zj Us (zb (zc 3) zq)))))
  (yh (y_ 10 (mOp pIx (zc 3) (mOp zS (mOp kg (zc 6) (mC (.i 5))) (zj Us (zb (zc 3) zq)))))
  (yh (sIf (yH (nv true (zb (zc 9) (zb (zc 10) zq)) (zc 4))) (y_ 10 (zc 9)) yN)
  (yh (y_ 11 (mOp pIx (tN (zb (mC (.i 0)) (zb (mOp zS (zc 8) (mC (.i 60))) (zb (mOp zS (zc 7) (mC (.i 7))) (zb (mOp zS (zc 8) (mOp eX (mC (.i 10)) (mC (.i 8)))) zq))))) (mOp zS (mOp kg (zc 6) (mC (.i 25))) (mC (.i 4)))))
  (yh (y_ 12 (zj DZ (zb (mC (.i 1)) (zb (mOp z1 (rg (zc 4) (zb (zc 9) (zb (zc 10) zq))) (zc 11)) zq))))
  (yh (y_ 13 (mOp pIx (tN (zb (mOp zS (zc 7) (mC (.i 1440))) (zb (mOp zS (zc 7) (mC (.i 200))) (zb (mOp zS (zc 7) (mOp eX (mC (.i 10)) (mC (.i 9)))) zq)))) (mOp zS (mOp kg (zc 6) (mC (.i 100))) (mC (.i 3)))))
  (yh (sIf (d9 (yH (mOp (Vo false) (mOp zS (mOp kg (zc 6) (mC (.i 300))) (mC (.i 2))) (mC (.i 1)))) (d9 (yH (mOp (uD true) (zc 5) (mC .n))) (yH (nv false (zb (mOp pIx (zc 5) (mC (.i 2))) (zb (zc 9) zq)) (zc 4))))) (y_ 13 (mOp oE (mOp z1 (mOp z1 (mOp pIx (zc 5) (mC (.i 4))) (rg (zc 4) (zb (mOp pIx (zc 5) (mC (.i 2))) (zb (zc 9) zq)))) (mOp zS (zc 7) (mC (.i 3)))) (mC (.i 1)))) yN)
  (yh (y_ 13 (zj aj (zb (zc 13) (zb (mOp oE (mOp eX (mC (.i 10)) (mC (.i 9))) (zc 12)) zq))))
  (ZM (tO (zb (zc 2) (zb (zc 9) (zb (zc 10) (zb (zc 13) (zb (mOp z1 (zc 13) (zc 12)) (zb (mOp zS (mOp kg (zc 8) (mC (.i 7))) (mOp z1 (mOp eX (mC (.i 10)) (mC (.i 9))) (mC (.i 1)))) zq)))))))))))))))))))
def jA:List PV->Out PV:=ZZ false 14 UH
abbrev Qa:MG:=
  (gNm 0)
abbrev Qb:MT:=
  uT
abbrev Qc:ME:=
  (mOp zS (mOp zS (mOp z1 (mOp Y2 (zc 1) (mC (.i 16807))) (mOp Y2 (mOp Y2 (mC (.i 7919)) (zc 0)) (zc 0))) (mC (.i 65521))) (mC (.i 36)))
abbrev vX:MG:=
  (gNm 0)
abbrev vY:MT:=
  uT
abbrev vZ:ME:=
  (mOp pIx (zc 1) (zc 0))
abbrev Jx:MG:=
  (gNm 8)
abbrev Zc:MS:=
  (yh (y_ 9 (mOp mz (zj qv (zb (mSl pSl (zc 5) ao (vC (mOp z1 (mC (.i 1)) (mOp zS (zc 4) (mC (.i 11)))))) zq)) (mOp Y2 (mSl pSl (zc 5) (vC (mC (.i 11))) ao) (mOp zS (zc 8) (mC (.i 2))))))
  (yh (y_ 10 (mOp zS (mOp kg (zc 6) (mC (.i 4))) (zj Us (zb (zc 9) zq))))
  (yh (o_ 9 (zc 10) (mOp zS (mOp z1 (mOp pIx (zc 9) (zc 10)) (zc 8)) (mC (.i 36))))
  (yh (sIf (d9 (yH (mOp (Vo false) (mOp zS (zc 6) (mC (.i 4))) (mC (.i 1)))) (yH (mOp pLe (zc 2) (mC (.i 12))))) (y_ 9 (mSl Cs (zc 5) ao (vC (mOp z1 (mC (.i 1)) (zc 8))))) yN)
  (yh (sIf (d9 (yH (mOp (Vo false) (mOp zS (zc 6) (mC (.i 4))) (mC (.i 2)))) (yH (mOp pLe (zc 2) (mC (.i 12))))) (y_ 9 (mSl Cs (zc 5) ao (vC (mOp oE (zc 2) (zc 8))))) yN)
  (o9 7 (IC cT (mC (.s "")) (mLC (yn (zc 9)) [none,some 3] vX vY vZ))))))))
abbrev W2:MS:=
  (yh (y_ 3 (mC (.s "abcdefghijklmnopqrstuvwxyz0123456789")))
  (yh (y_ 4 (mOp zS (zj zD (zb (zc 0) (zb (zc 1) zq))) (mC (.i 1000000007))))
  (yh (y_ 5 (mLC (Q9 (zb (mC (.i 12)) zq)) [none,some 4] Qa Qb Qc))
  (yh (y_ 6 (zj zz (zb (zc 0) (zb (mOp z1 (zc 1) (mC (.i 1))) (zb (mC (.i 65537)) zq)))))
  (yh (y_ 7 (tN zq))
  (yh (Xx (Q9 (zb (zc 2) zq)) Jx Zc)
  (ZM (zc 7))))))))
def qJ:List PV->Out PV:=ZZ true 11 W2
abbrev vi:MG:=
  (gNm 6)
abbrev vj:MS:=
  (o9 5 (tO (zb (mOp pIx (zc 2) (zc 6)) (zb (mOp pIx (zc 2) (mOp zS (mOp z1 (zc 6) (mC (.i 1))) (zc 3))) (zb (mOp z1 (mC (.i 1)) (mOp zS (zj zz (zb (zc 0) (zb (mOp z1 (zc 1) (zc 6)) (zb (mC (.i 65497)) zq)))) (zc 4))) zq)))))
abbrev KW:MG:=
  (gNm 6)
abbrev KY:MS:=
  (yh (y_ 7 (zj zD (zb (zc 0) (zb (mOp z1 (zc 1) (zc 6)) zq))))
  (o9 5 (tO (zb (mOp pIx (zc 2) (mOp zS (zc 7) (zc 3))) (zb (mOp pIx (zc 2) (mOp zS (mOp kg (zc 7) (zc 3)) (zc 3))) (zb (mOp z1 (mC (.i 1)) (mOp zS (mOp kg (zc 7) (mC (.i 25))) (zc 4))) zq))))))
abbrev UI:MS:=
  (yh (y_ 3 (zj Us (zb (zc 2) zq)))
  (yh (y_ 4 (mOp pIx (tN (zb (mC (.i 60)) (zb (mC (.i 60)) (zb (mC (.i 3)) (zb (mOp Y2 (mC (.i 2)) (mOp eX (mC (.i 10)) (mC (.i 8)))) zq))))) (mOp zS (zj zz (zb (zc 0) (zb (zc 1) (zb (mC (.i 65521)) zq)))) (mC (.i 4)))))
  (yh (y_ 5 (tN zq))
  (yh (sIf (yH (mOp pGt (mOp zS (zj zz (zb (zc 0) (zb (mOp z1 (zc 1) (mC (.i 1))) (zb (mC (.i 65519)) zq)))) (mC (.i 3))) (mC (.i 0)))) (Xx (Q9 (zb (zc 3) zq)) vi vj) yN)
  (yh (Xx (Q9 (zb (mOp zS (zj zz (zb (zc 0) (zb (mOp z1 (zc 1) (mC (.i 2))) (zb (mC (.i 65479)) zq)))) (mC (.i 9))) zq)) KW KY)
  (ZM (zc 5)))))))
def ko:List PV->Out PV:=ZZ true 8 UI
abbrev Jy:MG:=
  (gNm 6)
abbrev Jz:MS:=
  (yh (y_ 7 (mC .n))
  (yh (sIf (yH (mOp pGt (zc 6) (mC (.i 0)))) (y_ 7 (mOp pIx (zc 5) (mOp zS (zj zz (zb (zc 0) (zb (mOp z1 (mOp z1 (zc 1) (mOp Y2 (mC (.i 3)) (zc 6))) (mC (.i 1))) (zb (mC (.i 65479)) zq)))) (zc 6)))) yN)
  (o9 5 (zj jA (zb (zc 0) (zb (mOp z1 (zc 1) (mOp Y2 (mC (.i 3)) (zc 6))) (zb (mOp pIx (zc 2) (zc 6)) (zb (zc 3) (zb (zc 4) (zb (zc 7) zq))))))))))
abbrev W3:MS:=
  (yh (y_ 5 (tN zq))
  (yh (Xx (Q9 (zb (zj Us (zb (zc 2) zq)) zq)) Jy Jz)
  (ZM (zc 5))))
def jB:List PV->Out PV:=ZZ true 8 W3
abbrev KZ:MS:=
  (sIf (yH (mOp pGt (zj Us (zb (zc 0) zq)) (zc 1))) (Zo 3 ["most"] (zb (zc 1) zq)) yN)
def yr:List PV->Out PV:=ZZ false 2 KZ
abbrev Zs:MG:=
  (gNm 1)
abbrev qC:MS:=
  (sIf (yH (mOp (pIn true) (zc 1) (mC (.s "abcdefghijklmnopqrstuvwxyz0123456789")))) (Zo 1 ["name"] (zb (zc 0) zq)) yN)
abbrev Qd:MS:=
  (yh (sIf (mOr (yH (mOp pLt (zj Us (zb (zc 0) zq)) (mC (.i 1)))) (yH (mOp pGt (zj Us (zb (zc 0) zq)) (mC (.i 12))))) (Zo 1 ["name"] (zb (zc 0) zq)) yN)
  (yh (Xx (cS (zc 0)) Zs qC)
  (ZM (zc 0))))
def y4:List PV->Out PV:=ZZ false 2 Qd
abbrev JA:MS:=
  (sIf (yH (mOp (pIn true) (zc 0) (zc 1))) (Zo 5 ["name"] (zb (zc 0) zq)) yN)
def z9:List PV->Out PV:=ZZ false 2 JA
abbrev Zt:MS:=
  (yh (sIf (mOr (yH (mOp pLt (zc 0) (zc 1))) (yH (mOp pGt (zc 0) (mC (.i 1000000000))))) (Zo 2 ["value"] (zb (zc 0) zq)) yN)
  (ZM (zc 0)))
def zA:List PV->Out PV:=ZZ false 2 Zt
abbrev K0:MS:=
  (yh (sIf (yH (mOp (pIn true) (zc 1) (Wf [10] "by_name" (zc 0)))) (Zo 7 ["name"] (zb (zc 1) zq)) yN)
  (ZM (mOp pIx (Wf [10] "by_name" (zc 0)) (zc 1))))
def zN:List PV->Out PV:=ZZ false 2 K0
abbrev vk:MS:=
  (yh (wN (zj y4 (zb (zc 0) zq)))
  (yh (sIf (yH (mOp (pIn false) (zc 0) (zc 1))) (Zo 4 ["name"] (zb (zc 0) zq)) yN)
  (ZM (zc 0))))
def zF:List PV->Out PV:=ZZ false 2 vk
abbrev Qe:MS:=
  (yh (wN (zj z9 (zb (zc 1) (zb (Wf [11] "places" (zc 0)) zq))))
  (yh (wN (zj z9 (zb (zc 2) (zb (Wf [11] "places" (zc 0)) zq))))
  (ZM (Hd (mOp pIx (Wf [11] "lengths" (zc 0)) (zc 1)) (zc 2)))))
def zG:List PV->Out PV:=ZZ false 3 Qe
abbrev Qf:MG:=
  (gTp 3 (Y3 (gNm 2) (Y3 (gNm 3) (Y3 (gNm 4) uO))))
abbrev jJ:MS:=
  (yh (wN (zj z9 (zb (zc 2) (zb (zc 0) zq))))
  (yh (wN (zj z9 (zb (zc 3) (zb (zc 0) zq))))
  (wN (zj zA (zb (zc 4) (zb (mC (.i 1)) zq))))))
abbrev K1:MS:=
  (Xx (yn (zc 1)) Qf jJ)
def qN:List PV->Out PV:=ZZ false 5 K1
abbrev K2:MS:=
  (yh (wN (zj zF (zb (mOp pIx (zc 1) (mC (.i 0))) (zb (zc 2) zq))))
  (yh (y_ 3 (QL [(11,zG)] "length" (zc 0) (zb (mOp pIx (zc 1) (mC (.i 1))) (zb (mOp pIx (zc 1) (mC (.i 2))) zq))))
  (yh (wN (zj zA (zb (mOp pIx (zc 1) (mC (.i 3))) (zb (mC (.i 0)) zq))))
  (yh (wN (zj zA (zb (mOp pIx (zc 1) (mC (.i 4))) (zb (mC (.i 0)) zq))))
  (yh (wN (zj zA (zb (mOp pIx (zc 1) (mC (.i 5))) (zb (mC (.i 0)) zq))))
  (yh (sIf (yH (mOp pLe (mOp pIx (zc 1) (mC (.i 4))) (mOp pIx (zc 1) (mC (.i 3))))) (Zo 8 ["name"] (zb (mOp pIx (zc 1) (mC (.i 0))) zq)) yN)
  (yh (sIf (yH (mOp (uD false) (zc 3) (mC .n))) (Zo 6 ["origin","goal"] (zb (mOp pIx (zc 1) (mC (.i 1))) (zb (mOp pIx (zc 1) (mC (.i 2))) zq))) yN)
  (sIf (yH (mOp pLt (mOp oE (mOp pIx (zc 1) (mC (.i 4))) (mOp pIx (zc 1) (mC (.i 3)))) (zc 3))) (Zo 9 ["name"] (zb (mOp pIx (zc 1) (mC (.i 0))) zq)) yN))))))))
def qd:List PV->Out PV:=ZZ false 4 K2
abbrev Zu:MG:=
  (gNm 2)
abbrev qD:MS:=
  (yh (wN (zj zF (zb (zc 2) (zb (zc 1) zq))))
  (Cv 1 (zc 2) (mC (.b true))))
abbrev Qg:MS:=
  (yh (y_ 1 pD)
  (Xx (yn (zc 0)) Zu qD))
def y6:List PV->Out PV:=ZZ false 3 Qg
abbrev Gp:MS:=
  (yh (y_ 3 (QL [(10,zN)] "trip" (zc 0) (zb (zc 1) zq)))
  (yh (y_ 4 (QL [(10,zN)] "trip" (zc 0) (zb (zc 2) zq)))
  (yh (y_ 5 (QL [(11,zG)] "length" (Wf [10] "roads" (zc 0)) (zb (mOp pIx (zc 3) (mC (.i 2))) (zb (mOp pIx (zc 4) (mC (.i 1))) zq))))
  (yh (sIf (yH (mOp (uD false) (zc 5) (mC .n))) (ZM (mC .n)) yN)
  (ZM (mOp oE (mOp oE (mOp pIx (zc 4) (mC (.i 3))) (mOp pIx (zc 3) (mC (.i 4)))) (zc 5)))))))
def X3:List PV->Out PV:=ZZ false 6 Gp
abbrev jf:HMG:=
  (hgN 3)
abbrev yD:HMS:=
  (ZN (mG (hP [true,true,false,true] (zj qd (zb (zc 1) (zb (zc 3) (zb (Wf [10] "by_name" (zc 0)) zq))))))
  (CW (FO [10] "by_name" (Y5 0)) (hP [false,false,false,true] (mOp pIx (zc 3) (mC (.i 0)))) (Y5 3)))
abbrev kW:MG:=
  (gNm 0)
abbrev kX:MT:=
  uT
abbrev kY:ME:=
  (mOp pIx (zc 0) (mC (.i 0)))
abbrev kl:HMS:=
  (ZN (mG (hP [false,false,true] (zj yr (zb (zc 2) (zb (mC (.i 40)) zq)))))
  (ZN (aM [10] "roads" (Y5 0) (Y5 1))
  (ZN (aM [10] "by_name" (Y5 0) (hF [] pD))
  (ZN (fm [false,false,true] (yn (zc 2)) jf yD)
  (aM [10] "order" (Y5 0) (hP [false,false,true] (mLC (yn (iq zt (zb (zc 2) zq))) [none] kW kX kY)))))))
def yS:List HV->AH->HX HV:=tU 4 kl
abbrev Ym:MG:=
  (gNm 0)
abbrev Yn:MT:=
  uT
abbrev Yo:ME:=
  (tO (zb (zc 0) (zb (zj ya (zb (zc 0) (zb (zc 1) zq))) zq)))
abbrev vm:MS:=
  (yh (wN (zj yr (zb (zc 1) (zb (mC (.i 12)) zq))))
  (yh (wN (zj yr (zb (zc 2) (zb (mC (.i 60)) zq))))
  (yh (wN (zj y6 (zb (zc 1) zq)))
  (yh (wN (zj qN (zb (zc 1) (zb (zc 2) zq))))
  (yh (fc 0 [11] "places" (zj qv (zb (zc 1) zq)))
  (yh (fc 0 [11] "ways" (zj qv (zb (zc 2) zq)))
  (fc 0 [11] "lengths" (zj cQ (zb (mLC (yn (zc 1)) [none,some 2] Ym Yn Yo) zq)))))))))
def yJ:List PV->Out PV:=Ih 11 2 vm
abbrev iG:MS:=
  (yh (y_ 3 (zj X3 (zb (zc 0) (zb (zc 1) (zb (zc 2) zq)))))
  (ZM (mw (mOp (uD true) (zc 3) (mC .n)) (mOp pGe (zc 3) (mC (.i 0))))))
def qk:List PV->Out PV:=ZZ false 4 iG
abbrev K3:MS:=
  (yh (FC [1,2,3,4,5,6,7,8,9] (p5 (g6 qk (zb (zc 0) (zb (zc 1) (zb (zc 2) zq))))) 4 (ZM (mw (mUn (Cr [(.exc 1,false),(.exc 2,false),(.exc 3,false),(.exc 4,false),(.exc 5,false),(.exc 6,false),(.exc 7,true),(.exc 8,false),(.exc 9,false)]) (zc 4)) (mw (mUn (Cr [(.exc 1,true),(.exc 2,true),(.exc 3,true),(.exc 4,true),(.exc 5,true),(.exc 6,true),(.exc 7,true),(.exc 8,true),(.exc 9,true)]) (zc 4)) (mOp (Vo false) (Fo [1,4,5,7,8,9] "name" (zc 4)) (zc 3))))))
  (ZM (mC (.b false))))
def yK:List PV->Out PV:=ZZ false 5 K3
abbrev JB:MG:=
  (gNm 0)
abbrev JC:MT:=
  (yH (zj qk (zb (zc 1) (zb (zc 2) (zb (zc 0) zq)))))
abbrev JD:ME:=
  (zc 0)
abbrev Yp:MS:=
  (ZM (mLC (yn (zc 2)) [none,some 0,some 1] JB JC JD))
def yf:List PV->Out PV:=ZZ true 3 Yp
abbrev YY:MG:=
  (gNm 0)
abbrev Kt:MT:=
  uT
abbrev YZ:ME:=
  (mPI (zc 0) (zj yf (zb (zc 1) (zb (zc 0) (zb (zc 2) zq)))))
abbrev iH:HMS:=
  (ZN (KN 1 (hP [true] (QL [(10,zW),(11,yq)] "names" (zc 0) zq)))
  (ib (hDL [true,true] (mLC (yn (zc 1)) [none,some 0,some 1] YY Kt YZ))))
def bh:List HV->AH->HX HV:=tU 2 iH
abbrev JE:HMG:=
  (hgN 3)
abbrev JF:HMS:=
  (hIf (hPT [false,true,true,true] (mOr (tQ (yH (mUn (Cr [(.list,true)]) (mOp pIx (zc 2) (zc 3))))) (yH (mOp (Vo true) (mOp pIx (zc 2) (zc 3)) (mOp pIx (zc 1) (zc 3)))))) (ib (hP [] (mC (.b false)))) Wt)
abbrev JG:HMG:=
  (hgN 3)
abbrev JH:HMS:=
  (Hc (hIx (Y5 2) (Y5 3)))
abbrev W4:HMS:=
  (ZN (KN 2 (fi bh (Wr (Y5 0) Bd)))
  (ZN (hIf (hPT [false,true,true] (mOr (tQ (yH (mUn (Cr [(.dict,true)]) (zc 2)))) (yH (mOp (Vo true) (zj qv (zb (zc 2) zq)) (zj qv (zb (zc 1) zq)))))) (ib (hP [] (mC (.b false)))) Wt)
  (ZN (mK 1 JE JF)
  (ZN (mK 1 JG JH)
  (ZN (CZ (Y5 2))
  (ib (hP [] (mC (.b true)))))))))
def Zd:List HV->AH->HX HV:=tU 4 W4
abbrev jg:ME:=
  (tO (zb (mOp pIx (zc 0) (mC (.i 3))) (zb (mOp pIx (zc 0) (mC (.i 4))) (zb (mOp pIx (zc 0) (mC (.i 0))) zq))))
abbrev iI:MG:=
  (gNm 0)
abbrev iJ:MT:=
  uT
abbrev iK:ME:=
  (tO (zb (mOp pIx (zc 0) (mC (.i 0))) (zb (mOp pIx (zc 0) (mC (.i 1))) (zb (mOp z1 (mC (.i 1)) (mOp kg (mOp pIx (zc 0) (mC (.i 2))) (mC (.i 2)))) zq))))
abbrev bj:MG:=
  (gNm 0)
abbrev bo:MT:=
  (yH (zj qc (zb (zc 1) (zb (zc 0) (zb (zc 2) zq)))))
abbrev bp:ME:=
  (mOp pIx (zc 0) (mC (.i 0)))
abbrev iL:HMG:=
  (hgN 13)
abbrev iM:HMS:=
  (ZN (KN 14 (hP [false,false,false,false,false,false,false,true,false,false,false,false,true,true] (zj qk (zb (zc 7) (zb (mOp pIx (zc 12) (mC (.i 0))) (zb (mOp pIx (zc 13) (mC (.i 0))) zq))))))
  (ZN (hIf (hPT [false,false,false,false,false,false,false,false,false,false,false,true,true,true,true] (mOr (tQ (yH (mUn (Cr [(.bool,true),(.int,false)]) (zc 14)))) (yH (mOp (Vo true) (zc 14) (mOp (pIn false) (mOp pIx (zc 13) (mC (.i 0))) (mOp pIx (zc 11) (mOp pIx (zc 12) (mC (.i 0))))))))) (ib (hP [] (mC (.b false)))) Wt)
  (hIf (hPT [false,false,false,false,false,false,false,false,false,true,true,false,true,true] (yH (mOp (Vo true) (zj qk (zb (zc 10) (zb (mOp pIx (zc 12) (mC (.i 0))) (zb (mOp pIx (zc 13) (mC (.i 0))) zq)))) (zj qc (zb (zc 12) (zb (zc 13) (zb (zc 9) zq))))))) (ib (hP [] (mC (.b false)))) Wt)))
abbrev JI:HMG:=
  (hgN 12)
abbrev Ze:HMS:=
  (ZN (CW (Y5 11) (hP [false,false,false,false,false,false,false,false,false,false,false,false,true] (mOp pIx (zc 12) (mC (.i 0)))) (hP [false,false,false,true,false,true,false,false,false,false,false,false,true] (mLC (yn (zc 5)) [none,some 12,some 3] bj bo bp)))
  (fm [false,false,false,false,false,true] (yn (zc 5)) iL iM))
abbrev rT:HMS:=
  (ZN (KN 1 (hP [true] (zj qJ (zb (zc 0) (zb (mC (.i 0)) (zb (mOp z1 (mC (.i 2)) (mOp zS (zj zz (zb (zc 0) (zb (mC (.i 2)) (zb (mC (.i 65449)) zq)))) (mC (.i 4)))) zq))))))
  (ZN (KN 2 (hP [true,true] (zj ko (zb (zc 0) (zb (mC (.i 3)) (zb (zc 1) zq))))))
  (ZN (KN 3 (hP [false,true,true] (zj yR (zb (zc 1) (zb (zc 2) zq)))))
  (ZN (KN 4 (hP [true] (zj DZ (zb (mOp zS (zj zz (zb (zc 0) (zb (mC (.i 11)) (zb (mC (.i 65521)) zq)))) (mC (.i 4))) (zb (mOp kg (mOp oE (zj aj (zb (zj Us (zb (zc 0) zq)) (zb (mC (.i 49)) zq))) (mC (.i 11))) (mC (.i 3))) zq)))))
  (ZN (KN 5 (hP [true,true,false,true,true] (zj jB (zb (zc 0) (zb (mC (.i 13)) (zb (zj qJ (zb (zc 0) (zb (mC (.i 11)) (zb (zc 4) zq)))) (zb (zc 1) (zb (zc 3) zq))))))))
  (ZN (KN 5 (iu (rL 1 jg) (Wr (Y5 5) Bd)))
  (ZN (KN 6 (hP [false,false,false,false,false,true] (zj YS (zb (zc 5) zq))))
  (ZN (hIf (hPT [true] (yH (mOp (Vo false) (mOp zS (mOp kg (zj zz (zb (zc 0) (zb (mC (.i 12)) (zb (mC (.i 65519)) zq)))) (mC (.i 5))) (mC (.i 2))) (mC (.i 1))))) (KN 6 (hP [false,false,false,false,true,true] (mOp mz (mSl pSl (zc 5) (vC (mOp kg (zc 4) (mC (.i 2)))) ao) (mSl pSl (zc 5) ao (vC (mOp kg (zc 4) (mC (.i 2)))))))) Wt)
  (ZN (KN 7 (hP [false,true,true,false,false,false,true] (zj (mkV 10 yS) (zb (zj yJ (zb (zj qv (zb (zc 1) zq)) (zb (zj qv (zb (zc 2) zq)) zq))) (zb (zc 6) zq)))))
  (ZN (KN 8 (hP [false,false,true] (mLC (yn (zc 2)) [none] iI iJ iK)))
  (ZN (KN 9 (hP [false,true,false,false,false,false,false,false,true] (zj yR (zb (zc 1) (zb (zc 8) zq)))))
  (ZN (KN 10 (hP [false,true,false,false,false,true,false,false,true] (zj (mkV 10 yS) (zb (zj yJ (zb (zj qv (zb (zc 1) zq)) (zb (zj qv (zb (zc 8) zq)) zq))) (zb (zj qv (zb (zc 5) zq)) zq)))))
  (ZN (KN 11 (hF [] pD))
  (ZN (fm [false,false,false,false,false,true] (yn (zc 5)) JI Ze)
  (ZN (KN 15 (hW [false,false,false,false,false,false,false,false,false,false,false,true] (zj ye (zb (zj qv (zb (zc 11) zq)) zq))))
  (ZN (hIf (hPT [false,false,false,false,false,false,false,true,false,false,false,false,false,false,false,true] (tQ (yH (zj yK (zb (zc 7) (zb (mOp pIx (zc 15) (mC (.i 1))) (zb (mOp pIx (zc 15) (mC (.i 0))) (zb (mOp pIx (zc 15) (mC (.i 1))) zq)))))))) (ib (hP [] (mC (.b false)))) Wt)
  (ZN (hIf (hPT [false,false,false,false,true,true,false,true,false,false,false,false,false,false,false,true] (d9 (yH (mOp pGt (zc 4) (mC (.i 0)))) (tQ (yH (zj yK (zb (zc 7) (zb (mOp pIx (mOp pIx (zc 5) (mC (.i 0))) (mC (.i 0))) (zb (mOp pIx (zc 15) (mC (.i 0))) (zb (mOp pIx (zc 15) (mC (.i 0))) zq))))))))) (ib (hP [] (mC (.b false)))) Wt)
  (ib (xy (fi Zd (Wr (Y5 7) (Wr (Y5 11) Bd))) (fi Zd (Wr (Y5 7) (Wr (Y5 11) Bd))))))))))))))))))))))
def Bz:List HV->AH->HX HV:=tU 16 rT
def ql(T:Txt K mg a):y8 P w K mg base (CXe P w) 1 a.zD a.JR ["_law_script","_law_k"] (lsp (WW K a) false [true,true] zD):=
 zC (ms:=Zb) (S':=[1,1]) (Sb:=[]) (Sc:=[]) T.z7.F XF rfl rfl rfl (by decide) λcdv A outer s H E hr=>
  (zh (kC (qu nP oH (ev 1) (ZU rfl T.Kq (za (ev 0) zf)) (qL _))
    (zm (jr (ix hr (ev 0) (ev 1))))
    qa)
   (zm (jr ei)))
def JJ(T:Txt K mg a):y8 P w K mg base (CXe P w) 1 a.yR a.JS ["_law_names_here","_law_ways_here"] (lsp (WW K a) true [true,true] yR):=
 zC (ms:=Ju) (S':=[1,1,0,0,0,0,0,0,0]) (Sb:=[]) (Sc:=[]) T.z8.F zQ rfl rfl rfl (by decide) λcdv A outer s H E hr=>
  (zh (vD (i:=2) zQ.nd rfl (.inl rfl) xj)
   (zh (k_ (zB ⟨rfl,rfl⟩) rfl (ZY (KJ (pv 0))) (gn 3 zQ.nd)
    (zm (ft (qO hr) (pv 2) (za (zr (pv 3)) (za (zr (pv 3)) zf)) ei)))
   (zh (k_ (zB ⟨rfl,rfl⟩) rfl (ZY (KJ (pv 1))) (pf (n:=3) rfl (wQ (gn 4 zQ.nd) (wQ (gn 5 zQ.nd) (wQ (gn 6 zQ.nd) pe Q_) Q_) Q_))
    (zm (ft (qO hr) (pv 2) (za (zr (pv 4)) (za (zr (pv 5)) zf)) (gX rfl rfl T.mM (za (ev 6) (za (rH (qO hr) (ev 2) (za (zr (pv 4)) (za (zr (pv 5)) zf)) (ev 6) ⟨rfl,rfl,rfl,rfl⟩) zf))))))
   (zh (k_ (zB ⟨rfl,rfl⟩) rfl (ZY (KJ (pv 0))) (gn 7 zQ.nd)
    (zm (k_ (zB ⟨rfl,rfl⟩) rfl (ZY (KJ (pv 0))) (gn 4 zQ.nd)
    (zm (k_ (zB ⟨rfl,rfl⟩) rfl (ZY (KJ (pv 0))) (gn 5 zQ.nd)
    (zm (kC (TWM.tm (Ur (rh (qO hr) (za (zr (pv 4)) (za (zr (pv 7)) zf)) (ev 2)) (Wc (rh (qO hr) (za (zr (pv 7)) (za (zr (pv 5)) zf)) (ev 2)))))
    (zh (se 8 zQ.nd (zo zO zP (cV (qO hr) (ev 2) (za (zr (pv 4)) (za (zr (pv 7)) zf))) (cV (qO hr) (ev 2) (za (zr (pv 7)) (za (zr (pv 5)) zf)))))
   (zm (ft (qO hr) (pv 2) (za (zr (pv 4)) (za (zr (pv 5)) zf)) (gX rfl rfl T.mM (za (ev 8) (za (rH (qO hr) (ev 2) (za (zr (pv 4)) (za (zr (pv 5)) zf)) (ev 8) ⟨rfl,rfl,rfl,rfl⟩) zf))))))
    qa)))))))
   (zm (Wg (pv 2)))))))
def X4(T:Txt K mg a):y8 P w K mg base (CXe P w) 1 a.v7 a.wa ["self","most"] (tS a.qf ["most"]):=by
 refine T.XN.okX WC (λvs H Q E h=>by obtain⟨e,us,rfl,hl,_⟩:=h;rw[v4,hl];rfl) λcdv A outer s H vs Q E hr h=>?_;obtain⟨e,us,rfl,hl,he,k⟩:=h
 match us,hl with
 |[v],_=>exact⟨_,kA (vB (pv 0) (pv 1) rfl),_,rfl,_,rfl,e,a.qf,.none,rfl,T.Jr,T.WQ,.inl ⟨he,k⟩⟩
def Qh(T:Txt K mg a):y8 P w K mg base (CXe P w) 1 a.v8 a.wb ["self","name"] (tS a.yY ["name"]):=by
 refine T.XR.okX WD (λvs H Q E h=>by obtain⟨e,us,rfl,hl,_⟩:=h;rw[v4,hl];rfl) λcdv A outer s H vs Q E hr h=>?_;obtain⟨e,us,rfl,hl,he,k⟩:=h
 match us,hl with
 |[v],_=>exact⟨_,kA (vB (pv 0) (pv 1) rfl),_,rfl,_,rfl,e,a.yY,.none,rfl,T.wz,T.WN,.inl ⟨he,k⟩⟩
def dq(T:Txt K mg a):y8 P w K mg base (CXe P w) 1 a.Ys a.Yv ["self","name"] (tS a.jY ["name"]):=by
 refine T.c7.okX aR (λvs H Q E h=>by obtain⟨e,us,rfl,hl,_⟩:=h;rw[v4,hl];rfl) λcdv A outer s H vs Q E hr h=>?_;obtain⟨e,us,rfl,hl,he,k⟩:=h
 match us,hl with
 |[v],_=>exact⟨_,kA (vB (pv 0) (pv 1) rfl),_,rfl,_,rfl,e,a.jY,.none,rfl,T.WR,T.bb,.inl ⟨he,k⟩⟩
def X5(T:Txt K mg a):y8 P w K mg base (CXe P w) 1 a.v9 a.wc ["self","name"] (tS a.yZ ["name"]):=by
 refine T.XS.okX WE (λvs H Q E h=>by obtain⟨e,us,rfl,hl,_⟩:=h;rw[v4,hl];rfl) λcdv A outer s H vs Q E hr h=>?_;obtain⟨e,us,rfl,hl,he,k⟩:=h
 match us,hl with
 |[v],_=>exact⟨_,kA (vB (pv 0) (pv 1) rfl),_,rfl,_,rfl,e,a.yZ,.none,rfl,T.Yf,T.WT,.inl ⟨he,k⟩⟩
def Vv(T:Txt K mg a):y8 P w K mg base (CXe P w) 1 a.jZ a.j0 ["self","value"] (tS a.yg ["value"]):=by
 refine T.Vr.okX Km (λvs H Q E h=>by obtain⟨e,us,rfl,hl,_⟩:=h;rw[v4,hl];rfl) λcdv A outer s H vs Q E hr h=>?_;obtain⟨e,us,rfl,hl,he,k⟩:=h
 match us,hl with
 |[v],_=>exact⟨_,kA (vB (pv 0) (pv 1) rfl),_,rfl,_,rfl,e,a.yg,.none,rfl,T.Za,T.Jq,.inl ⟨he,k⟩⟩
def W5(T:Txt K mg a):y8 P w K mg base (CXe P w) 1 a.kZ a.k7 ["self","name"] (tS a.yk ["name"]):=by
 refine T.WL.okX Vp (λvs H Q E h=>by obtain⟨e,us,rfl,hl,_⟩:=h;rw[v4,hl];rfl) λcdv A outer s H vs Q E hr h=>?_;obtain⟨e,us,rfl,hl,he,k⟩:=h
 match us,hl with
 |[v],_=>exact⟨_,kA (vB (pv 0) (pv 1) rfl),_,rfl,_,rfl,e,a.yk,.none,rfl,T.wA,T.Vt,.inl ⟨he,k⟩⟩
def dr(T:Txt K mg a):y8 P w K mg base (CXe P w) 1 a.Yt a.Yw ["self","origin","goal"] (tS a.jC ["origin","goal"]):=by
 refine T.c9.okX aS (λvs H Q E h=>by obtain⟨e,us,rfl,hl,_⟩:=h;rw[v4,hl];rfl) λcdv A outer s H vs Q E hr h=>?_;obtain⟨e,us,rfl,hl,he,k⟩:=h
 match us,hl with
 |[v,u],_=>
  have ne:∀{dx},H dx=none->dx≠e:=λh z=>by rw[z,he]at h;cases h
  exact⟨_,U1 (vB (pv 0) (pv 1) rfl) (kA (vB (pv 0) (pv 2) rfl)),_,rfl,_,rfl,e,a.jC,.none,rfl,T.WV,T.WX,.inl ⟨he,λdx hd=>⟨_,rfl,_,rfl,e,a.jC,.none,rfl,T.WV,T.bf,.inr ⟨dx,[(("origin":Str),v)],by rw[zd],by rw[zg (ne hd),zd],ne hd,(show 1<1000 by decide),by
   have q:=k dx hd;have e1:J6 ("goal":Str) u [(("origin":Str),v)]=[(("origin":Str),v),(("goal":Str),u)]:=rfl;rw[e1];have e2:∀{A B C:HO},upd (upd (upd H dx A) e B) dx C=upd (upd H dx C) e B:=λ{A B C}=>funext λb=>by
    by_cases hb:b=dx
    .subst hb;rw[zd,zg (ne hd),zd]
    .rw[zg hb];by_cases hb2:b=e
     .subst hb2;rw[zd,zd]
     .rw[zg hb2,zg hb2,zg hb,zg hb]
   rw[e2];exact q⟩⟩⟩⟩
def X6(T:Txt K mg a):y8 P w K mg base (CXe P w) 1 a.v_ a.we ["self","name"] (tS a.y0 ["name"]):=by
 refine T.XW.okX WH (λvs H Q E h=>by obtain⟨e,us,rfl,hl,_⟩:=h;rw[v4,hl];rfl) λcdv A outer s H vs Q E hr h=>?_;obtain⟨e,us,rfl,hl,he,k⟩:=h
 match us,hl with
 |[v],_=>exact⟨_,kA (vB (pv 0) (pv 1) rfl),_,rfl,_,rfl,e,a.y0,.none,rfl,T.Yg,T.WZ,.inl ⟨he,k⟩⟩
def Vw(T:Txt K mg a):y8 P w K mg base (CXe P w) 1 a.zt a.Zw ["trip"] (lsp (WW K a) false [true] zt):=
 zC (ms:=Zq) (S':=[1]) (Sb:=[]) (Sc:=[]) T.yW.F Ko rfl rfl rfl (by decide) λcdv A outer s H E hr=>
  (zm (jr (Wb (za (ix hr (ev 0) (ym (zL (v:=.int 3) rfl T.QU ⟨_,rfl⟩))) (za (ix hr (ev 0) (ym (zL (v:=.int 4) rfl T.w8 ⟨_,rfl⟩))) (za (ix hr (ev 0) (ym (zL (v:=.int 0) rfl T.KO ⟨_,rfl⟩))) zf))))))
def W6(T:Txt K mg a):y8 P w K mg base (CXe P w) 1 a.ye a.Yy ["_law_names_here"] (lsp (WW K a) false [true] ye):=
 zC (ms:=Yl) (S':=[1,0,0]) (Sb:=[]) (Sc:=[]) T.qU.F jX rfl rfl rfl (by decide) λcdv A outer s H E hr=>
  (zh (vD (i:=1) jX.nd rfl (.inl rfl) (Wa zf))
   (zh (k_ (zB ⟨rfl,rfl⟩) rfl (Kb rfl T.Ye (za (zo zO zP (ZU rfl T.Kq (za (ev 0) zf)) ei) zf)) (gn 2 jX.nd)
    (zm (kC (Q5 (qO hr) (zo zO zP (cB gz) (p_ rfl T.xJ (za (ev 2) zf))) (ev 0))
    (zm (ZX (pv 1) (zo zO zP (cB gz) (p_ rfl T.xJ (za (ev 2) zf)))))
    qa)))
   (zm (jr (Q7 (ev 1) QM (QN ei))))))
def X7(T:Txt K mg a):y8 P w K mg base (CXe P w) 1 a.ya a.Ql ["origin","ways"] (lsp (WW K a) true [true,true] ya):=
 zC (ms:=Y_) (S':=[1,1,0,0,0,0,0,0]) (Sb:=[]) (Sc:=[]) T.y3.F zU rfl rfl rfl (by decide) λcdv A outer s H E hr=>
  (zh (vD (i:=2) zU.nd rfl (.inl rfl) (IA (ev 0) ei))
   (zh (se 3 zU.nd (Ka J9))
   (zh (uS (zB ⟨rfl,rfl⟩) (KH (ev 3))
    (zh (se 3 zU.nd (Ka J9))
   (zm (k_ (zB ⟨rfl,rfl⟩) rfl (ZY (KJ (pv 1))) (pf (n:=3) rfl (wQ (gn 4 zU.nd) (wQ (gn 5 zU.nd) (wQ (gn 6 zU.nd) pe Q_) Q_) Q_))
    (zm (kC (Fe (qO hr) (ev 4) (ev 2))
    (zh (se 7 zU.nd (zo zO zP (ix hr (ev 2) (ev 4)) (ev 6)))
   (zm (kC (TWM.tm (mx (Q5 (qO hr) (ev 5) (ev 2)) (Uq (qu nP oH (ev 7) (ix hr (ev 2) (ev 5)) (qL _)))))
    (zh (AX (qO hr) (pv 2) (ev 5) (zr (pv 7)))
   (zm (se 3 zU.nd (Ka J9))))
    qa)))
    qa))))))
   (zm (Wg (pv 2))))))
def bq(T:Txt K mg a):y8 P w K mg base (CXe P w) 1 a.Zi a.Zj ["self","name"] (tS a.zX ["name"]):=by
 refine T.aY.okX XH (λvs H Q E h=>by obtain⟨e,us,rfl,hl,_⟩:=h;rw[v4,hl];rfl) λcdv A outer s H vs Q E hr h=>?_;obtain⟨e,us,rfl,hl,he,k⟩:=h
 match us,hl with
 |[v],_=>exact⟨_,kA (vB (pv 0) (pv 1) rfl),_,rfl,_,rfl,e,a.zX,.none,rfl,T.Js,T.XY,.inl ⟨he,k⟩⟩
def br(T:Txt K mg a):y8 P w K mg base (CXe P w) 1 a.zW a.Zk ["self"] (lsp (WW K a) true [true] zW):=
 zC (ms:=Jv) (S':=[1]) (Sb:=[]) (Sc:=[]) T.a8 XI rfl rfl rfl (by decide) λcdv A outer s H E hr=>
  (zm (fb (qi rfl rfl T.jP (za (Q6 (ev 0) (fa ⟨T.qz,T.Y8⟩ fz)) zf))))
def bt(T:Txt K mg a):y8 P w K mg base (CXe P w) 1 a.yq a.Zl ["self"] (lsp (WW K a) true [true] yq):=
 zC (ms:=Jw) (S':=[1]) (Sb:=[]) (Sc:=[]) T.a_ XJ rfl rfl rfl (by decide) λcdv A outer s H E hr=>
  (zm (fb (qi rfl rfl T.jP (za (Q6 (ev 0) (fa ⟨T.jI,T.qV⟩ fz)) zf))))
def K4(T:Txt K mg a):y8 P w K mg base (CXe P w) 1 a.qc a.Vb ["_law_one","_law_other","_law_lengths_here"] (lsp (WW K a) false [true,true,true] qc):=
 zC (ms:=KU) (S':=[1,1,1]) (Sb:=[]) (Sc:=[]) T.jR.F aV rfl rfl rfl (by decide) λcdv A outer s H E hr=>
  (zh (kC (cW (qO hr) (za (ix hr (ev 0) ei) (za (ix hr (ev 1) ei) zf)) (ev 2))
    (zm (jr (Ka J9)))
    qa)
   (zm (jr (cC t5 uC (zo zO zP (ix hr (ev 0) ei) (cV (qO hr) (ev 2) (za (ix hr (ev 0) ei) (za (ix hr (ev 1) ei) zf)))) (ix hr (ev 1) ei) (qL _)))))
def jh(T:Txt K mg a):y8 P w K mg base (CXe P w) 2 a.zz a.dP ["_law_script","_law_k","_law_prime"] (lsp (WW K a) false [true,true,true] zz):=
 zC (ms:=dm) (S':=[1,1,1]) (Sb:=[]) (Sc:=[]) T.yV.F mL rfl rfl rfl (by decide) λcdv A outer s H E hr=>
  (zm (jr (zo zx zy (zo ZR ZS (zo zx zy (ec (ql T) hr T.z7 zR (za (ev 0) (za (ev 1) zf))) ei) ei) (ev 2))))
def mT(T:Txt K mg a):y8 P w K mg base (CXe P w) 2 a.jA a.UQ ["_law_script","_law_at","_law_name","_law_places","_law_lengths_here","_law_ahead"] (lsp (WW K a) false [true,true,false,true,true,true] jA):=
 zC (ms:=UH) (S':=[1,1,0,1,1,1,0,0,0,0,0,0,0,0]) (Sb:=[]) (Sc:=[]) T.YX.F z5 rfl rfl rfl (by decide) λcdv A outer s H E hr=>
  (zh (se 6 z5.nd (ec (ql T) hr T.z7 zR (za (ev 0) (za (ev 1) zf))))
   (zh (se 7 z5.nd (ec (ql T) hr T.z7 zR (za (ev 0) (za (EM.weak (zo zO zP (ev 1) ei)) zf))))
   (zh (se 8 z5.nd (ec (ql T) hr T.z7 zR (za (ev 0) (za (EM.weak (zo zO zP (ev 1) ei)) zf))))
   (zh (se 9 z5.nd (ix hr (ev 3) (zo zx zy (ev 6) (ZU rfl T.Kq (za (ev 3) zf)))))
   (zh (se 10 z5.nd (ix hr (ev 3) (zo zx zy (zo jv jw (ev 6) ei) (ZU rfl T.Kq (za (ev 3) zf)))))
   (zh (kC (cW (qO hr) (za (zr (pv 9)) (za (zr (pv 10)) zf)) (ev 4))
    (zm (se 10 z5.nd (zr (pv 9))))
    qa)
   (zh (se 11 z5.nd (ix hr (FM.em (Wa (za ei (za (zo zx zy (ev 8) ei) (za (zo zx zy (ev 7) ei) (za (zo zx zy (ev 8) (zo bR V_ ei ei)) zf)))))) (zo zx zy (zo jv jw (ev 6) ei) ei)))
   (zh (se 12 z5.nd (AS rfl rfl T.xI (za ei (za (zo zO zP (cV (qO hr) (ev 4) (za (zr (pv 9)) (za (zr (pv 10)) zf))) (ev 11)) zf))))
   (zh (se 13 z5.nd (ix hr (FM.em (Wa (za (zo zx zy (ev 7) ei) (za (zo zx zy (ev 7) ei) (za (zo zx zy (ev 7) (zo bR V_ ei ei)) zf))))) (zo zx zy (zo jv jw (ev 6) ei) ei)))
   (zh (kC (TWM.tm (Ur (uF hr.units (zo zx zy (zo jv jw (ev 6) ei) ei) ei) (Ur (qu nR oI (ev 5) (Uo Uk) (qL _)) (Wc (rh (qO hr) (za (ix hr (ev 5) ei) (za (zr (pv 9)) zf)) (ev 4))))))
    (zm (se 13 z5.nd (zo VZ V9 (zo zO zP (zo zO zP (ix hr (ev 5) ei) (cV (qO hr) (ev 4) (za (ix hr (ev 5) ei) (za (zr (pv 9)) zf)))) (zo zx zy (ev 7) ei)) ei)))
    qa)
   (zh (se 13 z5.nd (gX rfl rfl T.mM (za (ev 13) (za (zo VZ V9 (zo bR V_ ei ei) (ev 12)) zf))))
   (zm (jr (Wb (za (zr (pv 2)) (za (zr (pv 9)) (za (zr (pv 10)) (za (zr (pv 13)) (za (zo zO zP (ev 13) (ev 12)) (za (zo zx zy (zo jv jw (ev 8) ei) (zo zO zP (zo bR V_ ei ei) ei)) zf))))))))))))))))))))
def W7(T:Txt K mg a):y8 P w K mg base (CXe P w) 3 a.qJ a.Xl ["_law_script","_law_at","_law_many"] (lsp (WW K a) true [true,true,true] qJ):=
 zC (ms:=W2) (S':=[1,1,1,0,0,0,0,0,0,0,0]) (Sb:=[]) (Sc:=[]) T.yP.F zZ rfl rfl rfl (by decide) λcdv A outer s H E hr=>
  (zh (o8 (i:=3) zZ.nd rfl (by first|exact .inl rfl|exact .inr rfl) (cB gz))
   (zh (o8 (i:=4) zZ.nd rfl (by first|exact .inl rfl|exact .inr rfl) (zo zx zy (ec (ql T) hr T.z7 zR (za (ev 0) (za (ev 1) zf))) ei))
   (zh (Ig (i:=5) ["_law_j","_law_cell"] [none,some 4] [0,0] zZ.nd rfl rfl rfl (by kernel_rfl) (Kb rfl T.Ye (za ei zf)) (λ_=>(wO (i:=0) (show List.Nodup (["_law_j","_law_cell"]:List Str)from by decide +kernel) rfl (.inl rfl))) (λ_=>Uu) (λ_=>(zo zx zy (zo zx zy (zo zO zP (zo ZR ZS (ev 1) ei) (zo ZR ZS (zo ZR ZS ei (ev 0)) (ev 0))) ei) ei)))
   (zh (se 6 zZ.nd (ec (jh T) hr T.yV zR (za (ev 0) (za (EM.weak (zo zO zP (ev 1) ei)) (za (EM.weak ei) zf)))))
   (zh (vD (i:=7) zZ.nd rfl (.inl rfl) (Wa zf))
   (zh (k_ (zB ⟨rfl,rfl⟩) rfl (Kb rfl T.Ye (za (ev 2) zf)) (gn 8 zZ.nd)
    (Ct (S1:=[1,1,1,0,0,0,0,2,0,2,0]) 9 (zh (vD (i:=9) zZ.nd rfl (.inl rfl) (A5 (by exact(FM.em (qi rfl rfl T.jP (za (Q7 (ev 5) QM (QN (zo zO zP ei (zo zx zy (ev 4) ei)))) zf)))) (by exact(zo ZR ZS (Q7 (ev 5) (QN ei) QM) (zo zx zy (ev 8) ei)))))
   (zh (se 10 zZ.nd (zo zx zy (zo jv jw (ev 6) ei) (ZU rfl T.Kq (za (ev 9) zf))))
   (zh (Cw (pv 9) (ev 10) (zo zx zy (zo zO zP (ix hr (ev 9) (ev 10)) (ev 8)) ei))
   (zh (kC (TWM.tm (Ur (uF hr.units (zo zx zy (ev 6) ei) ei) (Wc (qu t5 uC (ev 2) ei (qL _)))))
    (zm (vD (i:=9) zZ.nd rfl (.inl rfl) (gZ (ev 5) QM (QN (zo zO zP ei (ev 8))))))
    qa)
   (zh (kC (TWM.tm (Ur (uF hr.units (zo zx zy (ev 6) ei) ei) (Wc (qu t5 uC (ev 2) ei (qL _)))))
    (zm (vD (i:=9) zZ.nd rfl (.inl rfl) (gZ (ev 5) QM (QN (zo VZ V9 (ev 2) (ev 8))))))
    qa)
   (zm (ZX (pv 7) (C1 (cB gz) (FM.em (pA ["_law_x","_law_some"] [none,some 3] [0,0] rfl (by kernel_rfl) (QO (ev 9)) (λ_=>(wO (i:=0) (show List.Nodup (["_law_x","_law_some"]:List Str)from by decide +kernel) rfl (.inl rfl))) (λ_=>Uu) (λ_=>(ix hr (ev 1) (ev 0)))))))))))))))
   (zm (Wg (pv 7)))))))))
def mU(T:Txt K mg a):y8 P w K mg base (CXe P w) 3 a.ko a.UP ["_law_script","_law_at","_law_names_here"] (lsp (WW K a) true [true,true,true] ko):=
 zC (ms:=UI) (S':=[1,1,1,0,0,0,0,0]) (Sb:=[]) (Sc:=[]) T.kn.F qI rfl rfl rfl (by decide) λcdv A outer s H E hr=>
  (zh (se 3 qI.nd (ZU rfl T.Kq (za (ev 2) zf)))
   (zh (se 4 qI.nd (ix hr (FM.em (Wa (za ei (za ei (za ei (za (zo ZR ZS ei (zo bR V_ ei ei)) zf)))))) (zo zx zy (ec (jh T) hr T.yV zR (za (ev 0) (za (ev 1) (za (EM.weak ei) zf)))) ei)))
   (zh (vD (i:=5) qI.nd rfl (.inl rfl) (Wa zf))
   (zh (kC (qu lO mj (zo zx zy (ec (jh T) hr T.yV zR (za (ev 0) (za (EM.weak (zo zO zP (ev 1) ei)) (za (EM.weak ei) zf)))) ei) ei (qL _))
    (zm (k_ (zB ⟨rfl,rfl⟩) rfl (Kb rfl T.Ye (za (ev 3) zf)) (gn 6 qI.nd)
    (zm (ZX (pv 5) (Wb (za (ix hr (ev 2) (ev 6)) (za (ix hr (ev 2) (zo zx zy (zo zO zP (ev 6) ei) (ev 3))) (za (zo zO zP ei (zo zx zy (ec (jh T) hr T.yV zR (za (ev 0) (za (EM.weak (zo zO zP (ev 1) (ev 6))) (za (EM.weak ei) zf)))) (ev 4))) zf))))))))
    qa)
   (zh (k_ (zB ⟨rfl,rfl⟩) rfl (Kb rfl T.Ye (za (zo zx zy (ec (jh T) hr T.yV zR (za (ev 0) (za (EM.weak (zo zO zP (ev 1) ei)) (za (EM.weak ei) zf)))) ei) zf)) (gn 6 qI.nd)
    (zh (se 7 qI.nd (ec (ql T) hr T.z7 zR (za (ev 0) (za (EM.weak (zo zO zP (ev 1) (ev 6))) zf))))
   (zm (ZX (pv 5) (Wb (za (ix hr (ev 2) (zo zx zy (ev 7) (ev 3))) (za (ix hr (ev 2) (zo zx zy (zo jv jw (ev 7) (ev 3)) (ev 3))) (za (zo zO zP ei (zo zx zy (zo jv jw (ev 7) ei) (ev 4))) zf))))))))
   (zm (Wg (pv 5))))))))
def fK(T:Txt K mg a):y8 P w K mg base (CXe P w) 3 a.jB a.Xm ["_law_script","_law_at","_law_names_here","_law_places","_law_lengths_here"] (lsp (WW K a) true [true,true,true,true,true] jB):=
 zC (ms:=W3) (S':=[1,1,1,1,1,0,0,0]) (Sb:=[]) (Sc:=[]) T.jx.F jO rfl rfl rfl (by decide) λcdv A outer s H E hr=>
  (zh (vD (i:=5) jO.nd rfl (.inl rfl) (Wa zf))
   (zh (k_ (zB ⟨rfl,rfl⟩) rfl (Kb rfl T.Ye (za (ZU rfl T.Kq (za (ev 2) zf)) zf)) (gn 6 jO.nd)
    (zh (se 7 jO.nd (Uo Uk))
   (zh (kC (qu lO mj (ev 6) ei (qL _))
    (zm (se 7 jO.nd (ix hr (ev 5) (zo zx zy (ec (jh T) hr T.yV zR (za (ev 0) (za (EM.weak (zo zO zP (zo zO zP (ev 1) (zo ZR ZS ei (ev 6))) ei)) (za (EM.weak ei) zf)))) (ev 6)))))
    qa)
   (zm (ZX (pv 5) (ec (mT T) hr T.YX zR (za (ev 0) (za (EM.weak (zo zO zP (ev 1) (zo ZR ZS ei (ev 6)))) (za (ix hr (ev 2) (ev 6)) (za (ev 3) (za (ev 4) (za (ev 7) zf))))))))))))
   (zm (Wg (pv 5)))))
def Yq(T:Txt K mg a):y8 P w K mg base (CXe P w) 3 a.yr a.K8 ["things","most"] (lsp (WW K a) false [true,false] yr):=
 zC (ms:=KZ) (S':=[1,0]) (Sb:=[]) (Sc:=[]) T.qM.F aQ rfl rfl rfl (by decide) λcdv A outer s H E hr=>
  (zm (kC (qu lO mj (ZU rfl T.Kq (za (ev 0) zf)) (ev 1) (qL _))
    (zm (jE (c:=3) rfl T.rP T.Jr (X4 T) (rm hr) rfl T.WI T.XQ (za (zr (pv 1)) zf)))
    qa))
def X8(T:Txt K mg a):y8 P w K mg base (CXe P w) 3 a.y4 a.Qj ["name"] (lsp (WW K a) false [false] y4):=
 zC (ms:=Qd) (S':=[0,0]) (Sb:=[]) (Sc:=[]) T.jG.F Z_ rfl rfl rfl (by decide) λcdv A outer s H E hr=>
  (zh (kC (TWM.tm (mx (qu nP oH (ZU rfl T.Kq (za (ev 0) zf)) ei (qL _)) (Uq (qu lO mj (ZU rfl T.Kq (za (ev 0) zf)) (ym (zL (v:=.int 12) rfl T.vN ⟨_,rfl⟩)) (qL _)))))
    (zm (jE (c:=1) rfl T.di T.wz (Qh T) (rm hr) rfl T.Jp T.Y6 (za (zr (pv 0)) zf)))
    qa)
   (zh (k_ (zB ⟨rfl,rfl⟩) rfl (FV (ev 0)) (gn 1 Z_.nd)
    (zm (kC (Q5 (qO hr) (ev 1) (cB (zL (v:=.str "abcdefghijklmnopqrstuvwxyz0123456789") rfl T.Ya ⟨_,rfl⟩)))
    (zm (jE (c:=1) rfl T.di T.wz (Qh T) (rm hr) rfl T.Jp T.Y6 (za (zr (pv 0)) zf)))
    qa)))
   (zm (jr (zr (pv 0))))))
def km(T:Txt K mg a):y8 P w K mg base (CXe P w) 3 a.z9 a.JT ["name","places"] (lsp (WW K a) false [false,true] z9):=
 zC (ms:=JA) (S':=[0,1]) (Sb:=[]) (Sc:=[]) T.yQ.F XG rfl rfl rfl (by decide) λcdv A outer s H E hr=>
  (zm (kC (Q5 (qO hr) (ev 0) (ev 1))
    (zm (jE (c:=5) rfl T.rQ T.Yf (X5 T) (rm hr) rfl T.WJ T.XT (za (zr (pv 0)) zf)))
    qa))
def qE(T:Txt K mg a):y8 P w K mg base (CXe P w) 3 a.zA a.Zv ["value","least"] (lsp (WW K a) false [false,true] zA):=
 zC (ms:=Zt) (S':=[0,1]) (Sb:=[]) (Sc:=[]) T.z6.F Kn rfl rfl rfl (by decide) λcdv A outer s H E hr=>
  (zh (kC (TWM.tm (mx (qu nP oH (ev 0) (ev 1) (qL _)) (Uq (qu lO mj (ev 0) (ym (zL (v:=.int 1000000000) rfl T.fD ⟨_,rfl⟩)) (qL _)))))
    (zm (jE (c:=2) rfl T.fI T.Za (Vv T) (rm hr) rfl T.QW T.Vs (za (zr (pv 0)) zf)))
    qa)
   (zm (jr (zr (pv 0)))))
def K5(T:Txt K mg a):y8 P w K mg base (CXe P w) 3 a.zN a.YA ["self","name"] (lsp (WW K a) false [true,false] zN):=
 zC (ms:=K0) (S':=[1,0]) (Sb:=[]) (Sc:=[]) T.dh aU rfl rfl rfl (by decide) λcdv A outer s H E hr=>
  (zh (kC (Q5 (qO hr) (ev 1) (Q6 (ev 0) (fa ⟨T.qz,T.yX⟩ fz)))
    (zm (jE (c:=7) rfl T.xO T.Js (bq T) (rm hr) rfl T.VP T.aZ (za (zr (pv 1)) zf)))
    qa)
   (zm (jr (ix hr (Q6 (ev 0) (fa ⟨T.qz,T.yX⟩ fz)) (ev 1)))))
def vn(T:Txt K mg a):y8 P w K mg base (CXe P w) 4 a.zF a.vq ["name","had"] (lsp (WW K a) false [false,true] zF):=
 zC (ms:=vk) (S':=[0,1]) (Sb:=[]) (Sc:=[]) T.yp.F QT rfl rfl rfl (by decide) λcdv A outer s H E hr=>
  (zh (qG (ec (X8 T) hr T.jG zR (za (zr (pv 0)) zf)))
   (zh (kC (Fe (qO hr) (ev 0) (ev 1))
    (zm (jE (c:=4) rfl T.Di T.WR (dq T) (rm hr) rfl T.fF T.c8 (za (zr (pv 0)) zf)))
    qa)
   (zm (jr (zr (pv 0))))))
def Qi(T:Txt K mg a):y8 P w K mg base (CXe P w) 4 a.zG a.wd ["self","origin","goal"] (lsp (WW K a) false [true,false,false] zG):=
 zC (ms:=Qe) (S':=[1,0,0]) (Sb:=[]) (Sc:=[]) T.XU WG rfl rfl rfl (by decide) λcdv A outer s H E hr=>
  (zh (qG (ec (km T) hr T.yQ zR (za (zr (pv 1)) (za (EM.weak (Q6 (ev 0) (fa ⟨T.jI,T.qV⟩ fz))) zf))))
   (zh (qG (ec (km T) hr T.yQ zR (za (zr (pv 2)) (za (EM.weak (Q6 (ev 0) (fa ⟨T.jI,T.qV⟩ fz))) zf))))
   (zm (jr (FW (qO hr) (ix hr (Q6 (ev 0) (fa ⟨T.jI,T.Zp⟩ fz)) (ev 1)) (ev 2) ⟨rfl,rfl,rfl,rfl⟩)))))
def du(T:Txt K mg a):y8 P w K mg base (CXe P w) 4 a.qN a.K_ ["places","ways"] (lsp (WW K a) false [true,true] qN):=
 zC (ms:=K1) (S':=[1,1,0,0,0]) (Sb:=[]) (Sc:=[]) T.vh.F ki rfl rfl rfl (by decide) λcdv A outer s H E hr=>
  (zm (k_ (zB ⟨rfl,rfl⟩) rfl (ZY (KJ (pv 1))) (pf (n:=3) rfl (wQ (gn 2 ki.nd) (wQ (gn 3 ki.nd) (wQ (gn 4 ki.nd) pe Q_) Q_) Q_))
    (zh (qG (ec (km T) hr T.yQ zR (za (zr (pv 2)) (za (ev 0) zf))))
   (zh (qG (ec (km T) hr T.yQ zR (za (zr (pv 3)) (za (ev 0) zf))))
   (zm (qG (ec (qE T) hr T.z6 zR (za (zr (pv 4)) (za (EM.weak ei) zf)))))))))
def dv(T:Txt K mg a):y8 P w K mg base (CXe P w) 5 a.qd a.K9 ["roads","trip","had"] (lsp (WW K a) false [true,true,true] qd):=
 zC (ms:=K2) (S':=[1,1,1,0]) (Sb:=[]) (Sc:=[]) T.vg.F Jl rfl rfl rfl (by decide) λcdv A outer s H E hr=>
  (zh (qG (ec (vn T) hr T.yp zR (za (ix hr (ev 1) (ym (zL (v:=.int 0) rfl T.KO ⟨_,rfl⟩))) (za (ev 2) zf))))
   (zh (se 3 Jl.nd (ak (fr:=false) (ws:=[false,false]) (tab:=[(11,zG)]) (ev 0) (al ⟨_,_,_,_,T.jI,T.Yh,Qi T,(rm hr),T.Y7⟩) zR (za (ix hr (ev 1) (ym (zL (v:=.int 1) rfl T.Jo ⟨_,rfl⟩))) (za (ix hr (ev 1) (ym (zL (v:=.int 2) rfl T.c5 ⟨_,rfl⟩))) zf))))
   (zh (qG (ec (qE T) hr T.z6 zR (za (ix hr (ev 1) (ym (zL (v:=.int 3) rfl T.QU ⟨_,rfl⟩))) (za (EM.weak ei) zf))))
   (zh (qG (ec (qE T) hr T.z6 zR (za (ix hr (ev 1) (ym (zL (v:=.int 4) rfl T.w8 ⟨_,rfl⟩))) (za (EM.weak ei) zf))))
   (zh (qG (ec (qE T) hr T.z6 zR (za (ix hr (ev 1) (ym (zL (v:=.int 5) rfl T.fE ⟨_,rfl⟩))) (za (EM.weak ei) zf))))
   (zh (kC (qu t5 uC (ix hr (ev 1) (ym (zL (v:=.int 4) rfl T.w8 ⟨_,rfl⟩))) (ix hr (ev 1) (ym (zL (v:=.int 3) rfl T.QU ⟨_,rfl⟩))) (qL _))
    (zm (jE (c:=8) rfl T.mR T.wA (W5 T) (rm hr) rfl T.Kp T.WM (za (ix hr (ev 1) (ym (zL (v:=.int 0) rfl T.KO ⟨_,rfl⟩))) zf)))
    qa)
   (zh (kC (qu As AN (ev 3) (Uo Uk) (qL _))
    (zm (jE (c:=6) rfl T.Dj T.WV (dr T) (rm hr) rfl T.fG T.c_ (za (ix hr (ev 1) (ym (zL (v:=.int 1) rfl T.Jo ⟨_,rfl⟩))) (za (ix hr (ev 1) (ym (zL (v:=.int 2) rfl T.c5 ⟨_,rfl⟩))) zf))))
    qa)
   (zm (kC (qu nP oH (zo VZ V9 (ix hr (ev 1) (ym (zL (v:=.int 4) rfl T.w8 ⟨_,rfl⟩))) (ix hr (ev 1) (ym (zL (v:=.int 3) rfl T.QU ⟨_,rfl⟩)))) (ev 3) (qL _))
    (zm (jE (c:=9) rfl T.rS T.Yg (X6 T) (rm hr) rfl T.WK T.XX (za (ix hr (ev 1) (ym (zL (v:=.int 0) rfl T.KO ⟨_,rfl⟩))) zf)))
    qa)))))))))
def X9(T:Txt K mg a):y8 P w K mg base (CXe P w) 5 a.y6 a.Qk ["places"] (lsp (WW K a) false [true] y6):=
 zC (ms:=Qg) (S':=[1,2,0]) (Sb:=[]) (Sc:=[]) T.jH.F kJ rfl rfl rfl (by decide) λcdv A outer s H E hr=>
  (zh (vD (i:=1) kJ.nd rfl (.inl rfl) ff)
   (zm (k_ (zB ⟨rfl,rfl⟩) rfl (ZY (KJ (pv 0))) (gn 2 kJ.nd)
    (zh (qG (ec (vn T) hr T.yp zR (za (zr (pv 2)) (za (ev 1) zf))))
   (zm (AX (qO hr) (pv 1) (ev 2) (Ka J9)))))))
def IL(T:Txt K mg a):y8 P w K mg base (CXe P w) 5 a.X3 a.GR ["table","one","other"] (lsp (WW K a) false [true,false,false] X3):=
 zC (ms:=Gp) (S':=[1,0,0,0,0,0]) (Sb:=[]) (Sc:=[]) T.xK.F iz rfl rfl rfl (by decide) λcdv A outer s H E hr=>
  (zh (se 3 iz.nd (ak (fr:=false) (ws:=[false]) (tab:=[(10,zN)]) (ev 0) (al ⟨_,_,_,_,T.qz,T.Jt,K5 T,(rm hr),T.KR⟩) zR (za (zr (pv 1)) zf)))
   (zh (se 4 iz.nd (ak (fr:=false) (ws:=[false]) (tab:=[(10,zN)]) (ev 0) (al ⟨_,_,_,_,T.qz,T.Jt,K5 T,(rm hr),T.KR⟩) zR (za (zr (pv 2)) zf)))
   (zh (se 5 iz.nd (ak (fr:=false) (ws:=[false,false]) (tab:=[(11,zG)]) (Q6 (ev 0) (fa ⟨T.qz,T.Y9⟩ fz)) (al ⟨_,_,_,_,T.jI,T.Yh,Qi T,(rm hr),T.Y7⟩) zR (za (ix hr (ev 3) (ym (zL (v:=.int 2) rfl T.c5 ⟨_,rfl⟩))) (za (ix hr (ev 4) (ym (zL (v:=.int 1) rfl T.Jo ⟨_,rfl⟩))) zf))))
   (zh (kC (qu As AN (ev 5) (Uo Uk) (qL _))
    (zm (jr (Uo Uk)))
    qa)
   (zm (jr (zo VZ V9 (zo VZ V9 (ix hr (ev 4) (ym (zL (v:=.int 3) rfl T.QU ⟨_,rfl⟩))) (ix hr (ev 3) (ym (zL (v:=.int 4) rfl T.w8 ⟨_,rfl⟩)))) (ev 5))))))))
def JK(T:Txt K mg a):y8 P w K mg base (CXe P w) 6 a.Yu a.Yx ["self","roads","trips"] (hsp (WW K a) 3 yS):=
 p4 (ms:=kl) T.de Jm rfl rfl rfl λcdv A outer s H E hr=>
  (zv (pZ (hp (ec (Yq T) hr T.qM zR (za (ev 2) (za (ym (zL (v:=.int 40) rfl T.Yb ⟨_,rfl⟩)) zf)))))
   (zv (rG (j9 (pv 0)) (j9 (pv 1)) (fa ⟨T.qz,T.Y9⟩ fz))
   (zv (rG (j9 (pv 0)) (hf ff) (fa ⟨T.qz,T.yX⟩ fz))
   (zv (fo (S:=[0,0,0,0]) (fr:=false) [false,false,true] (zB ⟨rfl,rfl⟩) rfl (ZY (EM.en (zr (pv 2)))) (Wu (i:=3) Jm.nd rfl (.inl rfl))
    (zv (pZ (hp (ec (dv T) hr T.vg zR (za (ev 1) (za (ev 3) (za (EM.weak (Q6 (ev 0) (fa ⟨T.qz,T.yX⟩ fz))) zf))))))
   (qr (Bf (qO hr) (FP (j9 (pv 0)) (fa ⟨T.qz,T.yX⟩ fz)) (hp (ix hr (ev 3) (ym (zL (v:=.int 0) rfl T.KO ⟨_,rfl⟩)))) (j9 (pv 3))))))
   (qr (rG (j9 (pv 0)) (hp (FM.em (pA ["trip"] [none] [0] rfl (by kernel_rfl) (QO (FM.em (xq (wk:=true) (Vw T) (rm hr) T.yW.b rfl T.VQ rfl T.yW.g (za (ev 2) zf)))) (λ_=>(wO (i:=0) (show List.Nodup (["trip"]:List Str)from by decide +kernel) rfl (.inl rfl))) (λ_=>Uu) (λ_=>(ix hr (ev 0) (ym (zL (v:=.int 0) rfl T.KO ⟨_,rfl⟩))))))) (fa ⟨T.qz,T.Y8⟩ fz)))))))
def K6(T:Txt K mg a):y8 P w K mg base (CXe P w) 6 a.yJ a.Yz ["self","places","ways"] (G9 (WW K a) 11 [true,true] yJ):=
 pC (ms:=vm) (S':=[2,1,1]) (Sb:=[]) (Sc:=[]) (n:=2) T.dg aT rfl rfl rfl (by decide) rfl λcdv A outer s H E hr=>
  (zh (qG (ec (Yq T) hr T.qM zR (za (ev 1) (za (ym (zL (v:=.int 12) rfl T.w_ ⟨_,rfl⟩)) zf))))
   (zh (qG (ec (Yq T) hr T.qM zR (za (ev 2) (za (ym (zL (v:=.int 60) rfl T.QV ⟨_,rfl⟩)) zf))))
   (zh (qG (ec (X9 T) hr T.jH zR (za (ev 1) zf)))
   (zh (qG (ec (du T) hr T.vh zR (za (ev 1) (za (ev 2) zf))))
   (zh (pb (i:=0) (pv 0) (FM.em (qi rfl rfl T.jP (za (ev 1) zf))) (fa ⟨T.jI,T.qV⟩ fz))
   (zh (pb (i:=0) (pv 0) (FM.em (qi rfl rfl T.jP (za (ev 2) zf))) (fa ⟨T.jI,T.bg⟩ fz))
   (zm (pb (i:=0) (pv 0) (FM.em (u6 rfl rfl T.c6 (za (FM.em (pA ["place","ways"] [none,some 2] [0,1] rfl (by kernel_rfl) (QO (ev 1)) (λ_=>(wO (i:=0) (show List.Nodup (["place","ways"]:List Str)from by decide +kernel) rfl (.inl rfl))) (λ_=>Uu) (λ_=>(Wb (za (zr (pv 0)) (za (FM.em (ZW (X7 T) (rm hr) rfl T.y3.g T.y3.k T.y3.b gK (za (ev 0) (za (ev 1) zf)))) zf)))))) zf))) (fa ⟨T.jI,T.Zp⟩ fz)))))))))
def VR(T:Txt K mg a):y8 P w K mg base (CXe P w) 6 a.qk a.lH ["table","one","other"] (lsp (WW K a) false [true,false,false] qk):=
 zC (ms:=iG) (S':=[1,0,0,0]) (Sb:=[]) (Sc:=[]) T.kj.F c4 rfl rfl rfl (by decide) λcdv A outer s H E hr=>
  (zh (se 3 c4.nd (ec (IL T) hr T.xK zR (za (ev 0) (za (zr (pv 1)) (za (zr (pv 2)) zf)))))
   (zm (jr (oJ (cC nR oI (ev 3) (Uo Uk) (qL _)) (AO (cC Hu HZ (ev 3) ei (qL _)))))))
def K7(T:Txt K mg a):y8 P w K mg base (CXe P w) 7 a.yK a.Va ["_law_table","_law_one","_law_other","_law_due"] (lsp (WW K a) false [true,false,false,true] yK):=
 zC (ms:=K3) (S':=[1,0,0,1,0]) (Sb:=[]) (Sc:=[]) T.jQ.F Jn rfl rfl rfl (by decide) λcdv A outer s H E hr=>
  (zh (FD (S2:=[]) (j:=4) ⟨rfl,rfl⟩ (CY (VR T) (rm hr) rfl T.kj.g T.kj.k T.kj.b (za (ev 0) (za (zr (pv 1)) (za (zr (pv 2)) zf)))) rfl T.Yc Jn.nd rfl (.inl rfl) (λe=>(zm (jr (oJ (cF rfl T.qb (ev 4) (zL rfl T.VP (v:=.ref _) rfl) rfl ⟨⟨⟨T.wz,T.UC⟩,T.vO⟩,⟨⟨⟨T.Za,T.KS⟩,T.vP⟩,⟨⟨⟨T.Jr,T.UD⟩,T.vQ⟩,⟨⟨⟨T.WR,T.iB⟩,T.vR⟩,⟨⟨⟨T.Yf,T.UE⟩,T.vS⟩,⟨⟨⟨T.WV,T.iC⟩,T.vT⟩,⟨⟨⟨T.Js,T.dk⟩,T.vU⟩,⟨⟨⟨T.wA,T.WY⟩,T.vV⟩,⟨⟨⟨T.Yg,T.UG⟩,T.vW⟩,trivial⟩⟩⟩⟩⟩⟩⟩⟩⟩) (oJ (cF rfl T.qb (ev 4) (UZ rfl T.Yd PyProof.Rows.Boot.«ValueError» (v:=.ty "ValueError") rfl) rfl ⟨⟨⟨T.wz,T.UC⟩,T.qW⟩,⟨⟨⟨T.Za,T.KS⟩,T.qX⟩,⟨⟨⟨T.Jr,T.UD⟩,T.qY⟩,⟨⟨⟨T.WR,T.iB⟩,T.qZ⟩,⟨⟨⟨T.Yf,T.UE⟩,T.q_⟩,⟨⟨⟨T.WV,T.iC⟩,T.ja⟩,⟨⟨⟨T.Js,T.dk⟩,T.jb⟩,⟨⟨⟨T.wA,T.WY⟩,T.jc⟩,⟨⟨⟨T.Yg,T.UG⟩,T.jd⟩,trivial⟩⟩⟩⟩⟩⟩⟩⟩⟩) (AO (Ib hr.units (Cq (ev 4) (fa ⟨T.wz,T.WO⟩ (fa ⟨T.WR,T.bc⟩ (fa ⟨T.Yf,T.WU⟩ (fa ⟨T.Js,T.XZ⟩ (fa ⟨T.wA,T.Vu⟩ (fa ⟨T.Yg,T.W0⟩ fz))))))) (ev 3)))))))) (fa T.mO (fa T.dj (fa T.mP (fa T.xM (fa T.mQ (fa T.xN (fa T.rR (fa T.fJ (fa T.mS fz))))))))))
   (zm (jr (Ka J9))))
def W8(T:Txt K mg a):y8 P w K mg base (CXe P w) 7 a.yf a.YB ["table","one","names"] (lsp (WW K a) true [true,false,true] yf):=
 zC (ms:=Yp) (S':=[1,0,1]) (Sb:=[]) (Sc:=[]) T.yC.F Vq rfl rfl rfl (by decide) λcdv A outer s H E hr=>
  (zm (fb (pA ["other","table","one"] [none,some 0,some 1] [0,1,0] rfl (by kernel_rfl) (QO (ev 2)) (λ_=>(wO (i:=0) (show List.Nodup (["other","table","one"]:List Str)from by decide +kernel) rfl (.inl rfl))) (λ_=>(A4 (KH (ec (VR T) hr T.kj gK (za (ev 1) (za (zr (pv 2)) (za (zr (pv 0)) zf))))))) (λ_=>(zr (pv 0))))))
def xP(T:Txt K mg a):y8 P w K mg base (CXe P w) 8 a.sR a.sS ["table"] (hsp (WW K a) 1 bh):=
 p4 (ms:=iH) T.Ks.F iA rfl rfl rfl λcdv A outer s H E hr=>
  (zv (pY (i:=1) iA.nd rfl (by first|exact .inl rfl|exact .inr rfl) (hp (FM.em (uK (tab:=[(10,zW),(11,yq)]) (ev 0) (λK sp ⟨q,hq,e1,e2⟩=>by
    simp only[List.mem_cons,List.not_mem_nil,or_false]at hq;rcases hq with rfl|rfl<;>subst e1 e2
    .exact⟨_,_,_,_,T.qz,T.X0,br T,(rm hr),T.a9⟩
    .exact⟨_,_,_,_,T.jI,T.X2,bt T,(rm hr),T.ba⟩) zR))))
   (qr (Ji (F7 (S:=[0,0]) (fr':=false) [true,true] ["one","table","names"] [none,some 0,some 1] [0,0,0] rfl rfl T.c6 (by kernel_rfl) (QO (ev 1)) (λ_=>(wO (i:=0) (show List.Nodup (["one","table","names"]:List Str)from by decide +kernel) rfl (.inl rfl))) (λ_=>Uu) (λ_=>(ev 0)) (λ_=>(ZW (W8 T) (rm hr) rfl T.yC.g T.yC.k T.yC.b gK (za (ev 1) (za (zr (pv 0)) (za (ev 2) zf)))))))))
def W9(T:Txt K mg a):y8 P w K mg base (CXe P w) 9 a.UO a.UR ["_law_table","_law_due"] (hsp (WW K a) 2 Zd):=
 p4 (ms:=W4) T.qj.F w6 rfl rfl rfl λcdv A outer s H E hr=>
  (zv (hse 2 w6.nd (fj (xP T) (rm hr) rfl T.Ks.g T.Ks.k T.Ks.b zR (Kh (j9 (pv 0)) ia) (Ws pX)))
   (zv (fk (CU (S:=[0,0,0,0]) (fr:=false) [false,true,true] (TWM.tm (mx (cD (KH (cF rfl T.qb (ev 2) (UZ rfl T.c6 PyProof.Rows.Boot.«dict» (v:=.ty "dict") rfl) rfl ⟨⟨trivial,T.Yi⟩,trivial⟩))) (Uq (uG hr.units (FM.em (qi rfl rfl T.jP (za (ev 2) zf))) (FM.em (qi rfl rfl T.jP (za (ev 1) zf))))))))
    (qr (Ji (hp (Ka J9))))
    QQ)
   (zv (rJ rfl ⟨rfl,rfl⟩ (λE=>(pv 1)) (λE=>(Wu (i:=3) w6.nd rfl (.inl rfl)))
    (λE=>(qr (fk (CU (S:=[0,0,0,0]) (fr:=false) [false,true,true,true] (TWM.tm (mx (cD (KH (cF rfl T.qb (ix hr (ev 2) (ev 3)) (UZ rfl T.jP PyProof.Rows.Boot.«list» (v:=.ty "list") rfl) rfl ⟨⟨trivial,T.Yj⟩,trivial⟩))) (Uq (uG hr.units (ix hr (ev 2) (ev 3)) (ix hr (ev 1) (ev 3)))))))
    (qr (Ji (hp (Ka J9))))
    QQ))))
   (zv (rJ rfl ⟨rfl,rfl⟩ (λE=>(pv 1)) (λE=>(Wu (i:=3) w6.nd rfl (.inl rfl)))
    (λE=>(qr (xg (Iw (qO hr) (j9 (pv 2)) (j9 (pv 3)))))))
   (zv (p7 (j9 (pv 2)))
   (qr (Ji (hp (Ka J9)))))))))
def Gq(T:Txt K mg a)(TB:Dc base mg a.GP a.GQ):y8 P w K mg base (CXe P w) 10 a.GO a.DO ["_law_script"] (hsp (WW K a) 1 Bz):=
 Dd (ms:=rT) T.fH.F T.iF ju rfl rfl rfl λA outer s H E hr=>
  (zv (hse 1 ju.nd (hp (FM.em (ZW (W7 T) (rm hr) rfl T.yP.g T.yP.k T.yP.b zR (za (ev 0) (za (EM.weak ei) (za (EM.weak (zo zO zP ei (zo zx zy (ec (jh T) hr T.yV zR (za (ev 0) (za (EM.weak ei) (za (EM.weak ei) zf)))) ei))) zf)))))))
   (zv (hse 2 ju.nd (hp (FM.em (ZW (mU T) (rm hr) rfl T.kn.g T.kn.k T.kn.b zR (za (ev 0) (za (EM.weak ei) (za (ev 1) zf)))))))
   (zv (pY (i:=3) ju.nd rfl (by first|exact .inl rfl|exact .inr rfl) (hp (FM.em (ZW (JJ T) (rm hr) rfl T.z8.g T.z8.k T.z8.b zR (za (ev 1) (za (ev 2) zf))))))
   (zv (hse 4 ju.nd (hp (AS rfl rfl T.xI (za (zo zx zy (ec (jh T) hr T.yV zR (za (ev 0) (za (EM.weak ei) (za (EM.weak ei) zf)))) ei) (za (zo jv jw (zo VZ V9 (gX rfl rfl T.mM (za (ZU rfl T.Kq (za (ev 0) zf)) (za ei zf))) ei) ei) zf)))))
   (zv (hse 5 ju.nd (hp (FM.em (ZW (fK T) (rm hr) rfl T.jx.g T.jx.k T.jx.b zR (za (ev 0) (za (EM.weak ei) (za (EM.weak (FM.em (ZW (W7 T) (rm hr) rfl T.yP.g T.yP.k T.yP.b zR (za (ev 0) (za (EM.weak ei) (za (ev 4) zf)))))) (za (ev 1) (za (ev 3) zf)))))))))
   (zv (hse 5 ju.nd (xD (wk:=true) (k:=0) (N:=["_law_trip_here"]) rfl TB rfl rfl rfl (wo (by decide +kernel)) (λpm c' ctv s u=>.of_eq rfl) (λf c' A outer s H vs Q E hr q=>xC rfl rfl (by decide) (Wb (za (ix hr (ev 0) ei) (za (ix hr (ev 0) ei) (za (ix hr (ev 0) ei) zf)))) q) (rm hr) rfl T.VQ (Kh (j9 (pv 5)) ia)))
   (zv (hse 6 ju.nd (hp (FM.em (fg rfl rfl T.jP rfl T.Kr (za (ev 5) zf)))))
   (zv (fk (CU (S:=NM) (fr:=false) [true] (uF hr.units (zo zx zy (zo jv jw (ec (jh T) hr T.yV zR (za (ev 0) (za (EM.weak ei) (za (EM.weak ei) zf)))) ei) ei) ei))
    (qr (hse 6 ju.nd (hp (FM.em (A5 (by exact(Q7 (ev 5) (QN (zo jv jw (ev 4) ei)) QM)) (by exact(Q7 (ev 5) QM (QN (zo jv jw (ev 4) ei)))))))))
    QQ)
   (zv (hse 7 ju.nd (hp (ir (c:=10) T.iD (JK T) (rm hr) rfl T.aW T.KP zR (za (FM.em (o6 (c:=11) T.iE (K6 T) (rm hr) rfl T.aX T.KQ zR (za (EM.weak (FM.em (qi rfl rfl T.jP (za (ev 1) zf)))) (za (EM.weak (FM.em (qi rfl rfl T.jP (za (ev 2) zf)))) zf)))) (za (zr (pv 6)) zf)) rfl rfl)))
   (zv (FZ (S:=NM) (fr':=false) (j:=8) [false,false,true] ["_law_way"] [none] [0] ju.nd rfl rfl rfl (by kernel_rfl) (QO (ev 2)) (λ_=>(wO (i:=0) (show List.Nodup (["_law_way"]:List Str)from by decide +kernel) rfl (.inl rfl))) (λ_=>Uu) (λ_=>(Wb (za (ix hr (ev 0) ei) (za (ix hr (ev 0) ei) (za (zo zO zP ei (zo jv jw (ix hr (ev 0) ei) ei)) zf))))))
   (zv (hse 9 ju.nd (hp (FM.em (ZW (JJ T) (rm hr) rfl T.z8.g T.z8.k T.z8.b zR (za (ev 1) (za (ev 8) zf))))))
   (zv (hse 10 ju.nd (hp (ir (c:=10) T.iD (JK T) (rm hr) rfl T.aW T.KP zR (za (FM.em (o6 (c:=11) T.iE (K6 T) (rm hr) rfl T.aX T.KQ zR (za (EM.weak (FM.em (qi rfl rfl T.jP (za (ev 1) zf)))) (za (EM.weak (FM.em (qi rfl rfl T.jP (za (ev 8) zf)))) zf)))) (za (FM.em (qi rfl rfl T.jP (za (ev 5) zf))) zf)) rfl rfl)))
   (zv (hse 11 ju.nd (hf ff))
   (zv (fo (S:=NM) (fr:=false) [false,false,false,false,false,true] (zB ⟨rfl,rfl⟩) rfl (ZY (EM.en (zr (pv 5)))) (Wu (i:=12) ju.nd rfl (by first|exact .inl rfl|exact .inr rfl))
    (zv (Bf (qO hr) (j9 (pv 11)) (hp (ix hr (ev 12) ei)) (hp (FM.em (pA ["_law_other","_law_one","_law_lengths_here"] [none,some 12,some 3] [0,0,0] rfl (by kernel_rfl) (QO (ev 5)) (λ_=>(wO (i:=0) (show List.Nodup (["_law_other","_law_one","_law_lengths_here"]:List Str)from by decide +kernel) rfl (.inl rfl))) (λ_=>(A4 (KH (ec (K4 T) hr T.jR gK (za (ev 1) (za (ev 0) (za (ev 2) zf))))))) (λ_=>(ix hr (ev 0) ei))))))
   (qr (fo (S:=NM) (fr:=false) [false,false,false,false,false,true] (zB ⟨rfl,rfl⟩) rfl (ZY (EM.en (zr (pv 5)))) (Wu (i:=13) ju.nd rfl (.inl rfl))
    (zv (hse 14 ju.nd (hp (ec (VR T) hr T.kj zR (za (ev 7) (za (ix hr (ev 12) ei) (za (ix hr (ev 13) ei) zf))))))
   (zv (fk (CU (S:=NM) (fr:=false) [false,false,false,false,false,false,false,false,false,false,false,true,true,true,true] (TWM.tm (mx (cD (KH (cF rfl T.qb (ev 14) (UZ rfl T.rO PyProof.Rows.Boot.«bool» (v:=.ty "bool") rfl) rfl ⟨⟨trivial,T.Yk⟩,⟨⟨trivial,T.QX⟩,trivial⟩⟩))) (Uq (uG hr.units (ev 14) (Ic (qO hr) (ix hr (ev 13) ei) (ix hr (ev 11) (ix hr (ev 12) ei))))))))
    (qr (Ji (hp (Ka J9))))
    QQ)
   (qr (fk (CU (S:=NM) (fr:=false) [false,false,false,false,false,false,false,false,false,true,true,false,true,true] (uG hr.units (ec (VR T) hr T.kj zR (za (ev 10) (za (ix hr (ev 12) ei) (za (ix hr (ev 13) ei) zf)))) (ec (K4 T) hr T.jR zR (za (ev 12) (za (ev 13) (za (ev 9) zf))))))
    (qr (Ji (hp (Ka J9))))
    QQ))))))))
   (zv (hse 15 ju.nd (Mn (S:=[1,1,1,1,1,1,1,1,1,1,1,1,1,1,1,1]) (fr:=false) [false,false,false,false,false,false,false,false,false,false,false,true] (ec (W6 T) hr T.qU zR (za (EM.weak (FM.em (qi rfl rfl T.jP (za (ev 11) zf)))) zf))))
   (zv (fk (CU (S:=NM) (fr:=false) [false,false,false,false,false,false,false,true,false,false,false,false,false,false,false,true] (cD (KH (ec (K7 T) hr T.jQ zR (za (ev 7) (za (ix hr (ev 15) ei) (za (ix hr (ev 15) ei) (za (EM.weak (ix hr (ev 15) ei)) zf))))))))
    (qr (Ji (hp (Ka J9))))
    QQ)
   (zv (fk (CU (S:=NM) (fr:=false) [false,false,false,false,true,true,false,true,false,false,false,false,false,false,false,true] (TWM.tm (Ur (qu lO mj (ev 4) ei (qL _)) (Wc (cD (KH (ec (K7 T) hr T.jQ zR (za (ev 7) (za (ix hr (ix hr (ev 5) ei) ei) (za (ix hr (ev 15) ei) (za (EM.weak (ix hr (ev 15) ei)) zf)))))))))))
    (qr (Ji (hp (Ka J9))))
    QQ)
   (qr (Ji (FY (fj (W9 T) (rm hr) rfl T.qj.g T.qj.k T.qj.b zR (Kh (j9 (pv 7)) (Kh (j9 (pv 11)) ia)) (Ws (Ws pX))) (FX (fj (W9 T) (rm hr) rfl T.qj.g T.qj.k T.qj.b zR (Kh (j9 (pv 7)) (Kh (j9 (pv 11)) ia)) (Ws (Ws pX))))))))))))))))))))))))
def zp(ha:a ρ=.ok x)(hb:b ρ=.ok y)(h:f x y=.ok z):mOp f a b ρ=.ok z:=by unfold mOp;rw[ha,okb,hb,okb,h]
def zu(h:ms ρ=.ok xs)(h2:f xs=.ok x):zj f ms ρ=.ok x:=by unfold zj;rw[h,okb,h2]
def zw(ha:a ρ=.ok x)(h:ms ρ=.ok xs):zb a ms ρ=.ok (x::xs):=by unfold zb;rw[ha,okb,h,okb]
def Dk(h:ms ρ=.ok xs)(hl:xs.length<=sizeLine):tN ms ρ=.ok (.l xs):=by unfold tN;rw[h,okb,if_pos hl]
def v5(ha:a ρ=.ok (.i x))(hn:0<n):mOp zS a (mC (.i n)) ρ=.ok (.i (x % n)):=zp ha rfl (vc hn)
def bu(ha:a ρ=.ok (.i x))(hn:0<n)(h2:n<1073741824):mOp kg a (mC (.i n)) ρ=.ok (.i (x / n)):=zp ha rfl (A6 hn h2)
def Dl(h:ρ[i]?=some (some (.i x)))(hd:0<d)(d2:d<1073741824)(hn:0<n):mOp zS (mOp kg (zc i) (mC (.i d))) (mC (.i n)) ρ=.ok (.i (x / d % n)):=
 v5 (bu (by unfold zc;rw[h]) hd d2) hn
def iN(ha:a ρ=.ok (.i x)):yH (mOp (Vo false) a (mC (.i n))) ρ=.ok (decide (x=n)):=by unfold yH;rw[zp (z:=.b (decide (x=n))) ha rfl (Ij.trans (by rw[a09]))];rfl
def W_(ha:a ρ=.ok (.i x)):yH (mOp pGt a (mC (.i n))) ρ=.ok (decide (x>n)):=by unfold yH;rw[zp (z:=.b (decide (x>n))) ha rfl rfl];rfl
def JL(ha:a ρ=.ok x)(hb:b ρ=.ok y):d9 a b ρ=.ok (x&&y):=by
 unfold d9;rw[ha,okb];cases x
 .rfl
 .rw[if_pos rfl,hb];rfl
def qK(h:c ρ=.ok x):sIf c a b ρ=if x=true then a ρ else b ρ:=by unfold sIf;rw[h,okb]
def JM(h:m ρ=.ok x):ZM m ρ=.ok (.rt x):=by unfold ZM;rw[h,okb]
def Gr(ha:a ρ=.ok (.i x)):yH (mOp pLt a (mC (.i n))) ρ=.ok (decide (x<n)):=by unfold yH;rw[zp (z:=.b (decide (x<n))) ha rfl rfl];rfl
def yE(h:m ρ=.ok (.b b)):yH m ρ=.ok b:=by unfold yH;rw[h];rfl
def fL(ha:a ρ=.ok x)(hb:b ρ=.ok y):mOr a b ρ=.ok (x||y):=by
 unfold mOr;rw[ha,okb];cases x
 .rw[if_neg O2,hb];rfl
 .rfl
def rU(ha:a ρ=.ok x):tQ a ρ=.ok (!x):=by unfold tQ;rw[ha,okb]
def fO(ha:a ρ=.ok (.b x))(hb:b ρ=.ok (.b y)):mw a b ρ=.ok (.b (x&&y)):=by
 unfold mw;rw[ha,okb];show(Out.ok x).bind _=_;rw[okb];cases x
 .rfl
 .rw[if_pos rfl,hb];rfl
def sz5{z:Str}(h:z.length<=100000):z.length<=sizeLine:=P7 h (by decide)
def signs_at(h:m ρ=.ok (.s z)):cS m ρ=.ok (z.cps.toList.map λc=>PV.s ⟨#[c]⟩):=by unfold cS;rw[h,okb];rfl
def fP(h:ms ρ=.ok xs)(hl:xs.length<=sizeLine):tO ms ρ=.ok (.t xs):=by unfold tO;rw[h,okb,if_pos hl]
def fQ(ha:a ρ=.ok false):d9 a b ρ=.ok false:=by unfold d9;rw[ha,okb];rfl
def zM(h:p ρ G=.nx ρ' G')(h2:q ρ' G'=o):ZN p q ρ G=o:=by unfold ZN;rw[h];exact h2
def fR(h:c ρ G=.ok false G'):hIf c p q ρ G=q ρ G':=by unfold hIf;rw[h];rfl
def IP(h:c ρ G=.ok true G'):hIf c p q ρ G=p ρ G':=by unfold hIf;rw[h];rfl
def iO(h0:Kf bs ρ=some r)(h2:m r=.ok b):hPT bs m ρ G=.ok b G:=by unfold hPT;rw[h0];dsimp only;rw[h2]
def fS(h0:Kf bs ρ=none)(h1:J7 G bs ρ=some r)(h2:m r=.ok b):hPT bs m ρ G=.ok b G:=by unfold hPT;rw[h0,h1];dsimp only;rw[h2]
def bw(h0:Kf bs ρ=some r)(h2:m r=.ok x):hP bs m ρ G=.ok (.v x) G:=by unfold hP;rw[h0];dsimp only;rw[h2]
def qe(h:m ρ G=.ok x G'):KN i m ρ G=.nx (ρ.set i (some x)) G':=by unfold KN;rw[h];rfl
def fT(h:m ρ G=.ok x G'):ib m ρ G=.rt x G':=by unfold ib;rw[h];rfl
def Hh:J7 G bs []=some []:=by cases bs<;>rfl
def LD(h:J7 G [] ρ=some r):J7 G [] (a::ρ)=some (none::r):=by show(J7 G [] ρ).map _=_;rw[h];rfl
def iP(h:J7 G bs ρ=some r):J7 G (false::bs) (a::ρ)=some (none::r):=by show(J7 G bs ρ).map _=_;rw[h];rfl
def ny(hx:jN G 8 x=some y)(h:J7 G bs ρ=some r):J7 G (true::bs) (some x::ρ)=some (some y::r):=by show(jN G 8 x).bind _=_;rw[hx,h];rfl
def Mp(h:a.length+b.length<=n)(hn:n<=100000):z1 (.s a) (.s b)=.ok (.s (a++b)):=by have:a.length+b.length<=sizeLine:=P7 (P7 h hn) (by decide);unfold z1;simp only[this,if_true]
def mW(h0:0<=i)(h1:i<xs.length):pIx (.l xs) (.i i)=.ok (xs[i.toNat]'(by omega)):=by rw[Ii,pE h0,N6 (by omega)];rfl
def gG{xs:MD}{i:Int}(h0:0<=i)(h1:i<xs.length):∃y∈xs,pIx (.l (xs.map .s)) (.i i)=.ok (.s y):=
 ⟨xs[i.toNat]'(by omega),a0t _,by rw[mW h0 (by rw[u8];exact h1),a0s]⟩
def rV{xs:Nc}{i:Int}(h0:0<=i)(h1:i<xs.length):∃y∈xs,pIx (.l (xs.map .i)) (.i i)=.ok (.i y):=
 ⟨xs[i.toNat]'(by omega),a0t _,by rw[mW h0 (by rw[u8];exact h1),a0s]⟩
def any_map{κ α β:Type}[DecidableEq κ]{f:α->β}{kvs:List (κ×α)}{k:κ}:(kvs.map λp=>(p.1,f p.2)).any (λkv=>decide (kv.1=k))=kvs.any (λkv=>decide (kv.1=k)):=by rw[List.any_map];rfl
def bx{κ α β:Type}[DecidableEq κ]{f:α->β}{kvs:List (κ×α)}{k:κ}{x:α}:dput (kvs.map λp=>(p.1,f p.2)) k (f x)=(dput kvs k x).map λp=>(p.1,f p.2):=by
 unfold dput;rw[any_map];split
 .rw[R7,R7];refine a0C λp _=>?_;show(if p.1=k then(p.1,f x)else(p.1,f p.2))=((if p.1=k then(p.1,x)else p).1,f (if p.1=k then(p.1,x)else p).2);split<;>rfl
 .rw[R4];rfl
def dw{κ α β:Type}[DecidableEq κ]{f:α->β}:∀{kvs:List (κ×α)}{k:κ},zK (kvs.map λp=>(p.1,f p.2)) k=(zK kvs k).map f
 |[],_=>rfl
 | (j,u)::kvs,k=>by rw[N5,zT,zT,dw];split<;>rfl
abbrev Wy:=Str×Str×Int
abbrev Ht:=List (Key×Int)
abbrev sk(z:Str):Key:=Sum.inr z
def wP(w:Wy):PV:=.t [.s w.1,.s w.2.1,.i w.2.2]
def hD(h:Ht):List (Key×PV):=h.map λp=>(p.1,.i p.2)
def rW:zK (hD h) k=(zK h k).map .i:=dw
def Gs:dput (hD h) k (.i v)=hD (dput h k v):=bx
def Gu:(hD h).length=h.length:=u8 _
def rlx(u:Ht×Bool)(w:Wy):Ht×Bool:=
 match zK u.1 (sk w.1)with
 |none=>u
 |some x=>match zK u.1 (sk w.2.1)with
  |none=>(dput u.1 (sk w.2.1) (x+w.2.2),true)
  |some y=>if x+w.2.2<y then(dput u.1 (sk w.2.1) (x+w.2.2),true)else u
def Dm(h:Ht):Nat:=(h.map λp=>p.2.toNat).sum
def Sup(V:List Wy)(o:Str)(h:Ht):Prop:=∀g y,zK h g=some y->g=sk o\/∃w∈V,sk w.2.1=g/\∃x,zK h (sk w.1)=some x/\x+w.2.2<=y
structure mX(V:List Wy)(K:Nt)(o:Str)(h:Ht):Prop where
 sup:Sup V o h
 nd:(h.map (·.1)).Nodup
 sub:∀k∈h.map (·.1),k∈K
 pos:∀k x,zK h k=some x->0<=x
 own:zK h (sk o)=some 0
def VS(h:Ht)(w:Wy):Prop:=∀x,zK h (sk w.1)=some x->∃y,zK h (sk w.2.1)=some y/\y<=x+w.2.2
def Dp(K:Nt)(h' h:Ht):Prop:=Prod.Lex (·<·) (·<·) (K.length-h'.length,Dm h') (K.length-h.length,Dm h)
def JN{κ:Type}[DecidableEq κ]:∀{a b:List κ},a.Nodup->(∀x∈a,x∈b)->a.length<=b.length
 |[],b,_,_=>S7 _
 |x::a,b,nd,h=>by have hx:=h x M3;obtain⟨h1,h2⟩:=a0b.mp nd;have:=JN (a:=a) (b:=b.erase x) h2 λy hy=>(List.mem_erase_of_ne (show y≠x from λe=>h1 (e▸hy))).mpr (h y (M8 _ hy));rw[List.length_erase_of_mem hx]at this;have hb:0<b.length:=List.length_pos_of_mem hx;rw[v4];omega
def mX.len{V:List Wy}{K:Nt}{o:Str}{h:Ht}(i:mX V K o h):h.length<=K.length:=by
 have:=JN i.nd i.sub
 rwa [u8]at this
def rX{k:Key}{v:Int}:∀{h:Ht}{y:Int},(h.map (·.1)).Nodup->zK h k=some y->v.toNat<y.toNat->Dm (h.map λkv=>if kv.1=k then(kv.1,v)else kv)<Dm h
 |[],y,_,e,_=>by cases e
 | (j,x)::h,y,nd,e,hv=>by
  rw[zT]at e;obtain⟨n1,n2⟩:=a0b.mp nd;by_cases c:j=k
  .subst c;rw[if_pos rfl]at e;cases e;have:(h.map λkv=>if kv.1=j then(kv.1,v)else kv)=h:=by
    conv=>rhs;rw[<- List.map_id h]
    refine a0C λp hp=>?_;rw[if_neg (show ¬p.1=j from λz=>n1 (a0a.mpr ⟨p,hp,z⟩))];rfl
   unfold Dm;rw[N5,this,if_pos rfl,N5,N5,a1w,a1w];exact Nat.add_lt_add_right hv _
  .rw[if_neg c]at e;have:=rX n2 e hv;unfold Dm at this ⊢;rw[N5,if_neg c,N5,N5,a1w,a1w];exact Nat.add_lt_add_left this _
def Sup.put{V:List Wy}{o:Str}{h:Ht}{w:Wy}{x:Int}(i:Sup V o h)(hw:w∈V)(hm:1<=w.2.2)(e1:zK h (sk w.1)=some x)(e2:∀y,zK h (sk w.2.1)=some y->x+w.2.2<y):Sup V o (dput h (sk w.2.1) (x+w.2.2)):=by
 have ne:¬sk w.2.1=sk w.1:=λc=>by rw[<- c]at e1;have:=e2 x e1;omega
 intro g y e;rw[vf]at e;split at e
 .rename_i c;cases e;refine .inr ⟨w,hw,c,x,?_,a0H _⟩;rw[vf,if_neg ne];exact e1
 .rcases i g y e with r|⟨w',hw',eg,x',ex,le⟩
  .exact .inl r
  .refine .inr ⟨w',hw',eg,?_⟩;rw[vf];split
   .rename_i c;rw[<- c]at ex;have:=e2 x' ex;exact⟨_,rfl,by omega⟩
   .exact⟨x',ex,le⟩
def BA{V:List Wy}{K:Nt}{o:Str}{u:Ht×Bool}{w:Wy}(i:mX V K o u.1)(hv:w∈V)(hg:sk w.2.1∈K)(hm:1<=w.2.2):mX V K o (rlx u w).1/\((rlx u w=u/\VS u.1 w)\/((rlx u w).2=true/\Dp K (rlx u w).1 u.1)):=by
 unfold rlx;cases e1:zK u.1 (sk w.1)with
 |none=>exact⟨i,.inl ⟨rfl,λx e=>by rw[e1]at e;cases e⟩⟩
 |some x=>
  have x0:=i.pos _ _ e1;dsimp only;cases e2:zK u.1 (sk w.2.1)with
  |none=>
   have i2:mX V K o (dput u.1 (sk w.2.1) (x+w.2.2)):=by
    refine⟨i.sup.put hv hm e1 (λy e=>by rw[e2]at e;cases e),UB i.nd,λk hk=>?_,λk y e=>?_,?_⟩
    .rw[Jk,e2]at hk;rcases R9.mp hk with hk|hk
     .exact i.sub k hk
     .rw[O7.mp hk];exact hg
    .rw[vf]at e;split at e
     .cases e;omega
     .exact i.pos k y e
    .rw[vf];split
     .rename_i z;rw[z]at e2;rw[i.own]at e2;cases e2
     .exact i.own
   refine⟨i2,.inr ⟨rfl,.left _ _ ?_⟩⟩;have hl:=i2.len;have:(dput u.1 (sk w.2.1) (x+w.2.2)).length=u.1.length+1:=by have:=T6 List.length (Jk (a:=u.1) (k:=sk w.2.1) (v:=x+w.2.2));rw[e2,u8]at this;rw[this];simp
   dsimp only at hl ⊢;omega
  |some y=>
   dsimp only;by_cases c:x+w.2.2<y
   .rw[if_pos c];have hk:(zK u.1 (sk w.2.1)).isSome=true:=by rw[e2];rfl
    have i2:mX V K o (dput u.1 (sk w.2.1) (x+w.2.2)):=by
     refine⟨i.sup.put hv hm e1 (λz e=>by rw[e2]at e;cases e;exact c),UB i.nd,λk hk2=>?_,λk z e=>?_,?_⟩
     .rw[Jk,if_pos hk]at hk2;exact i.sub k hk2
     .rw[vf]at e;split at e
      .cases e;omega
      .exact i.pos k z e
     .rw[vf];split
      .rename_i z;rw[z,i.own]at e2;cases e2;omega
      .exact i.own
    refine⟨i2,.inr ⟨rfl,?_⟩⟩;have e3:dput u.1 (sk w.2.1) (x+w.2.2)=u.1.map λkv=>if kv.1=sk w.2.1 then(kv.1,x+w.2.2)else kv:=by unfold dput;rw[kh,if_pos hk]
    have hs:=rX (v:=x+w.2.2) i.nd e2 (by omega);unfold Dp;dsimp only;rw[e3,u8];exact .right _ hs
   .rw[if_neg c];exact⟨i,.inl ⟨rfl,λz e=>by rw[e1]at e;cases e;exact⟨y,e2,by omega⟩⟩⟩
def mY(h1:Dp K a b)(h2:Dp K b c):Dp K a c:=by unfold Dp at *;rw[Prod.lex_def]at *;dsimp only at *;omega
def iQ{V:List Wy}{K:Nt}{o:Str}:∀{W:List Wy}{u:Ht×Bool},mX V K o u.1->(∀w∈W,w∈V/\sk w.2.1∈K/\1<=w.2.2)->mX V K o (W.foldl rlx u).1/\((W.foldl rlx u=u/\∀w∈W,VS u.1 w)\/((W.foldl rlx u).2=true/\Dp K (W.foldl rlx u).1 u.1))
 |[],u,i,_=>⟨i,.inl ⟨rfl,λw h=>by cases h⟩⟩
 |w::W,u,i,hW=>by
  obtain⟨v,g,m⟩:=hW w M3;obtain⟨i1,h1⟩:=BA (u:=u) (w:=w) i v g m;obtain⟨i2,h2⟩:=iQ (W:=W) (u:=rlx u w) i1 λw' h=>hW w' (M8 _ h);refine⟨i2,?_⟩;rw[a0z];rcases h1 with⟨e1,c1⟩|⟨t1,l1⟩
  .rw[e1]at h2 ⊢;rcases h2 with⟨e2,c2⟩|h2
   .refine .inl ⟨e2,λw' h=>?_⟩;rcases O5.mp h with rfl|h
    .exact c1
    .exact c2 w' h
   .exact .inr h2
  .rcases h2 with⟨e2,c2⟩|⟨t2,l2⟩
   .rw[e2];exact .inr ⟨t1,l1⟩
   .exact .inr ⟨t2,mY l2 l1⟩
def Dq(r:NF):Prop:=∃a b c d,r=[a,b,c,d]
abbrev hSt(o:Str)(W:List Wy)(h:Ht)(b:Bool)(r:NF):Sto:=[some (.s o),some (.l (W.map wP)),some (.d (hD h)),some (.b b)]++r
def rY(ha:a ρ=.ok (.s z))(hi:zc i ρ=.ok (.d (hD h))):yH (mOp (pIn n) a (zc i)) ρ=.ok (xor n (zK h (sk z)).isSome):=by refine yE (zp ha hi ?_);show Out.ok (PV.b (xor n (zK (hD h) (sk z)).isSome))=_;rw[rW,a06]
def BB(ha:a ρ=.ok (.s z))(hi:zc i ρ=.ok (.d (hD h)))(hx:zK h (sk z)=some x):mOp pIx (zc i) a ρ=.ok (.i x):=by refine zp hi ha ?_;show wu (zK (hD h) (sk z))=_;rw[rW,hx];rfl
def Gv(ha:a ρ=.ok true):mOr a b ρ=.ok true:=by unfold mOr;rw[ha,okb];rfl
def Dr{o:Str}{W:List Wy}{h:Ht}{b:Bool}{w:Wy}{a7:Ny}(hl:h.length<100000):∃a7',qA [some (.s o),some (.l (W.map wP)),some (.d (hD h)),some (.b b),some (.s w.1),some (.s w.2.1),some (.i w.2.2),a7]=.ok (.nx [some (.s o),some (.l (W.map wP)),some (.d (hD (rlx (h,b) w).1)),some (.b (rlx (h,b) w).2),some (.s w.1),some (.s w.2.1),some (.i w.2.2),a7']):=by
 have e1:=qK (ρ:=[some (.s o),some (.l (W.map wP)),some (.d (hD h)),some (.b b),some (.s w.1),some (.s w.2.1),some (.i w.2.2),a7]) (a:=yh (y_ 7 (mOp z1 (mOp pIx (zc 2) (zc 4)) (zc 6))) (sIf (mOr (yH (mOp (pIn true) (zc 5) (zc 2))) (yH (mOp pLt (zc 7) (mOp pIx (zc 2) (zc 5))))) (yh (Cv 2 (zc 5) (zc 7)) (y_ 3 (mC (.b true)))) yN)) (b:=yN) (rY (n:=false) (a:=zc 4) (i:=2) rfl rfl);unfold rlx;dsimp only;cases c1:zK h (sk w.1)with
 |none=>rw[c1]at e1;exact⟨a7,e1⟩
 |some x=>
  rw[c1]at e1;have put:∀{ρ:Sto},ρ=[some (.s o),some (.l (W.map wP)),some (.d (hD h)),some (.b b),some (.s w.1),some (.s w.2.1),some (.i w.2.2),some (.i (x+w.2.2))]->yh (Cv 2 (zc 5) (zc 7)) (y_ 3 (mC (.b true))) ρ=.ok (.nx [some (.s o),some (.l (W.map wP)),some (.d (hD (dput h (sk w.2.1) (x+w.2.2)))),some (.b true),some (.s w.1),some (.s w.2.1),some (.i w.2.2),some (.i (x+w.2.2))]):=λ{ρ} hρ=>by subst hρ;refine ze ⟨[some (.s o),some (.l (W.map wP)),some (.d (hD (dput h (sk w.2.1) (x+w.2.2)))),some (.b true),some (.s w.1),some (.s w.2.1),some (.i w.2.2),some (.i (x+w.2.2))].set 3 (some (.b b)),?_,rfl⟩;show(if(hD h).length<sizeLine then Out.ok (Fw.nx [some (.s o),some (.l (W.map wP)),some (.d (dput (hD h) (sk w.2.1) (.i (x+w.2.2)))),some (.b b),some (.s w.1),some (.s w.2.1),some (.i w.2.2),some (.i (x+w.2.2))])else .wall)=_;rw[if_pos (by rw[Gu];exact N9 hl (by decide)),Gs];rfl
  have s7:y_ 7 (mOp z1 (mOp pIx (zc 2) (zc 4)) (zc 6)) [some (.s o),some (.l (W.map wP)),some (.d (hD h)),some (.b b),some (.s w.1),some (.s w.2.1),some (.i w.2.2),a7]=.ok (.nx [some (.s o),some (.l (W.map wP)),some (.d (hD h)),some (.b b),some (.s w.1),some (.s w.2.1),some (.i w.2.2),some (.i (x+w.2.2))]):=yi (zp (BB rfl rfl c1) rfl rfl);refine⟨some (.i (x+w.2.2)),e1.trans ?_⟩;show yh _ _ _=_;refine ze ⟨_,s7,?_⟩;cases c2:zK h (sk w.2.1)with
  |none=>refine(qK (Gv ((rY (n:=true) (a:=zc 5) (i:=2) rfl rfl).trans (by rw[c2];rfl)))).trans ?_;exact put rfl
  |some y=>
   dsimp only;have t:=qK (ρ:=[some (.s o),some (.l (W.map wP)),some (.d (hD h)),some (.b b),some (.s w.1),some (.s w.2.1),some (.i w.2.2),some (.i (x+w.2.2))]) (a:=yh (Cv 2 (zc 5) (zc 7)) (y_ 3 (mC (.b true)))) (b:=yN) (fL (x:=false) ((rY (n:=true) (a:=zc 5) (i:=2) rfl rfl).trans (by rw[c2];rfl)) (yE (m:=mOp pLt (zc 7) (mOp pIx (zc 2) (zc 5))) (b:=decide (x+w.2.2<y)) (zp rfl (BB rfl rfl c2) rfl)));refine t.trans ?_;by_cases c:x+w.2.2<y
   .rw[if_pos c,O0 c];exact put rfl
   .rw[if_neg c,N8 c];rfl
def iR{K:Nt}{o:Str}{W:List Wy}(hK:K.length<=1000)(hW:∀w∈W,sk w.2.1∈K/\1<=w.2.2):∀{V:List Wy}{u:Ht×Bool}{r:NF},(∀w∈V,w∈W)->mX W K o u.1->Dq r->∃r',Dq r'/\KI Zr qA (V.map wP) (hSt o W u.1 u.2 r)=.ok (.nx (hSt o W (V.foldl rlx u).1 (V.foldl rlx u).2 r'))
 |[],u,r,_,_,hr=>⟨r,hr,rfl⟩
 |w::V,u,r,hV,i,hr=>by obtain⟨a4,a5,a6,a7,rfl⟩:=hr;obtain⟨a7',e⟩:=Dr (o:=o) (W:=W) (h:=u.1) (b:=u.2) (w:=w) (a7:=a7) (a0L (P7 i.len hK) (by decide));obtain⟨g,m⟩:=hW w (hV w M3);obtain⟨i1,_⟩:=BA (u:=u) (w:=w) i (hV w M3) g m;obtain⟨r',hr',e2⟩:=iR hK hW (V:=V) (u:=rlx u w) (r:=[some (.s w.1),some (.s w.2.1),some (.i w.2.2),a7']) (λw' h=>hV w' (M8 _ h)) i1 ⟨_,_,_,_,rfl⟩;refine⟨r',hr',?_⟩;rw[a0z,<- e2];show(qA [some (.s o),some (.l (W.map wP)),some (.d (hD u.1)),some (.b u.2),some (.s w.1),some (.s w.2.1),some (.i w.2.2),a7]).bind _=_;rw[e];rfl
def BC(hK:K.length<=1000)(hW:∀w∈W,sk w.2.1∈K/\1<=w.2.2)(h:Ht)(i:mX W K o h)(r:NF)(hr:Dq r):∃n h' r',mX W K o h'/\(∀w∈W,VS h' w)/\js qB yj n (hSt o W h true r)=.ok (.nx (hSt o W h' false r')):=by
 obtain⟨r1,hr1,e1⟩:=iR (o:=o) hK hW (V:=W) (u:=(h,false)) (λw h=>h) i hr;obtain⟨i1,c1⟩:=iQ (W:=W) (u:=(h,false)) i λw h=>⟨h,hW w h⟩;have eb:yj (hSt o W h true r)=.ok (.nx (hSt o W (W.foldl rlx (h,false)).1 (W.foldl rlx (h,false)).2 r1)):=ze ⟨hSt o W h false r,rfl,vd (yo rfl) e1⟩;have one:∀{n o'},js qB yj n (hSt o W (W.foldl rlx (h,false)).1 (W.foldl rlx (h,false)).2 r1)=o'->js qB yj (n+1) (hSt o W h true r)=o':=λ{n o'} e=>by show(yj (hSt o W h true r)).bind _=_;rw[eb];exact e
 rcases c1 with⟨e2,cl⟩|⟨t2,less⟩
 .refine⟨2,h,r1,i,cl,one ?_⟩;rw[e2];rfl
 .obtain⟨n,h',r',i',cl,e⟩:=BC hK hW (W.foldl rlx (h,false)).1 i1 r1 hr1;refine⟨n+1,h',r',i',cl,one ?_⟩;rw[t2];exact e
termination_by (K.length-h.length,Dm h)
decreasing_by exact less
def Xa(o:Str)(W:List Wy)(h:Ht):Prop:=mX W (sk o::W.map λw=>sk w.2.1) o h/\∀w∈W,VS h w
def UJ(hl:W.length<=100)(hm:∀w∈W,1<=w.2.2):∃h,Xa o W h/\ya [.s o,.l (W.map wP)]=.ok (.d (hD h)):=by
 have i0:mX W (sk o::W.map λw=>sk w.2.1) o [(sk o,0)]:=by
  refine⟨λg y e=>?_,a0b.mpr ⟨by simp,a2t⟩,λk hk=>?_,λk x e=>?_,?_⟩
  .rw[zT]at e;split at e
   .rename_i c;exact .inl c.symm
   .cases e
  .rw[O7.mp hk];exact M3
  .rw[zT]at e;split at e
   .cases e;exact a0H _
   .cases e
  .rw[zT,if_pos rfl]
 obtain⟨n,h',r',i',cl,e⟩:=BC (o:=o) (W:=W) (K:=sk o::W.map λw=>sk w.2.1) (by rw[v4,u8];omega) (λw hw=>⟨M8 _ (a0a.mpr ⟨w,hw,rfl⟩),hm w hw⟩) [(sk o,0)] i0 [none,none,none,none] ⟨_,_,_,_,rfl⟩;refine⟨h',⟨i',cl⟩,zY ?_⟩;exact ze ⟨_,rfl,ze ⟨hSt o W [(sk o,0)] true [none,none,none,none],rfl,ze ⟨_,pF e (by intro z;cases z),rfl⟩⟩⟩
abbrev signs:Str:="abcdefghijklmnopqrstuvwxyz0123456789"
def Xb:signs.length=36:=by decide +kernel
def sgn(r:Int):Str:=⟨#[(signs.cps.toList[r.toNat]?).getD 0]⟩
def Gw(h0:0<=r)(h1:r<36):pIx (.s signs) (.i r)=.ok (.s (sgn r)):=by
 unfold pIx;have hs:signs.length<=sizeLine:=by rw[Xb];decide
 simp only[hs,if_true];have hl:r.toNat<signs.cps.toList.length:=by have:=Xb;unfold Str.length at this;simp;omega
 rw[pE h0];unfold sgn;rw[N6 hl];rfl
def Ds:∀a:Fin 36,∀b:Fin 36,sgn (a.val:Int)=sgn (b.val:Int)->a=b:=by decide +kernel
def Dt(r0:0<=r)(r1:r<36)(s0:0<=s)(s1:s<36)(h:sgn r=sgn s):r=s:=by
 have:=Ds ⟨r.toNat,by omega⟩ ⟨s.toNat,by omega⟩ (by
  show sgn (r.toNat:Int)=sgn (s.toNat:Int);rw[a1M r0,a1M s0];exact h)
 have:=T6 Fin.val this;simp only at this;omega
def str_inj{a b a' b':Str}(hl:a.length=a'.length)(h:a++b=a'++b'):a=a'/\b=b':=by have h1:a.cps++b.cps=a'.cps++b'.cps:=T6 Str.cps h;have:=Array.append_inj h1 hl;obtain⟨x⟩:=a;obtain⟨y⟩:=b;obtain⟨x'⟩:=a';obtain⟨y'⟩:=b';obtain⟨h1,h2⟩:=this;exact⟨T6 Str.mk h1,T6 Str.mk h2⟩
def Sgs(z:Str):Prop:=∀c∈z.cps.toList,c∈signs.cps.toList
def Sgs.app(ha:Sgs a)(hb:Sgs b):Sgs (a++b):=λc hc=>by have e:(a++b).cps.toList=a.cps.toList++b.cps.toList:=Array.toList_append;rw[e]at hc;exact(R9.mp hc).elim (ha c) (hb c)
def Sgs.sgn{r:Int}(h0:0<=r)(h1:r<36):Sgs (sgn r):=λc hc=>by
 have hl:r.toNat<signs.cps.toList.length:=by have:=Xb;unfold Str.length at this;simp;omega
 have e:(K24.sgn r).cps.toList=[signs.cps.toList[r.toNat]'hl]:=by show[(signs.cps.toList[r.toNat]?).getD 0]=_;rw[N6 hl];rfl
 rw[e]at hc;rw[O7.mp hc];exact a0t hl
def Nm(z:Str):Prop:=(1<=z.length/\z.length<=12)/\Sgs z
def nodup_range{α:Type}{f:Nat->α}(h:∀j k,j<n->k<n->f j=f k->j=k):((List.range n).map f).Nodup:=by rw[a1W,List.pairwise_map];refine List.Pairwise.imp_of_mem ?_ (a1W.mp List.nodup_range);intro a b ha hb hne e;exact hne (h a b (a0u.mp ha) (a0u.mp hb) e)
def IQ(ha:a ρ=.ok (.i n)):vC a ρ=.ok (some n):=by unfold vC;rw[ha];rfl
def WOk(N:MD)(W:List Wy):Prop:=∀w∈W,w.1∈N/\w.2.1∈N/\1<=w.2.2/\w.2.2<=1000000000
def JO{α:Type}{f:α->PV}{xs:List α}:Us [.l (xs.map f)]=.ok (.i (xs.length:Int)):=by show Out.ok (PV.i ((xs.map f).length:Int))=_;rw[u8]
def Xc{N:MD}{s:Int}(h:0<N.length):∃z∈N,pIx (.l (N.map .s)) (.i (s % (N.length:Int)))=.ok (.s z):=
 gG (S0 _ (by omega)) (P9 _ (by omega))
def rZ{fr:Bool}{n:Nat}{ms:MS}{xs:MX}{ρ:Sto}(hf:fr=false)(h:ms (xs.map some++List.replicate (n-xs.length) none)=.ok (.nx ρ)):ZZ fr n ms xs=.ok .n:=by subst hf;unfold ZZ;rw[h];rfl
def qt(h:m ρ=.ok x):wN m ρ=.ok (.nx ρ):=by unfold wN;rw[h];rfl
def fU{x:PV}{n:Int}{k:Nat}(h:Us [x]=.ok (.i (k:Int)))(hk:(k:Int)<=n):yr [x,.i n]=.ok .n:=by refine rZ rfl ((qK (x:=false) (yE (zp (zu (xs:=[x]) rfl h) rfl ?_))).trans (show _=Out.ok (Fw.nx [some x,some (.i n)])from rfl));show Out.ok (PV.b (decide ((k:Int)>n)))=_;rw[N8 (by omega)]
def r8(h:Nm z):y4 [.s z]=.ok (.s z):=by
 obtain⟨⟨l1,l2⟩,hs⟩:=h;have hl:Us [.s z]=.ok (.i z.length):=Fv (sz5 (by omega));have loop:∀{cs:MB}{o:Ny},(∀c∈cs,c∈signs.cps.toList)->∃o',KI Zs qC (cs.map λc=>PV.s ⟨#[c]⟩) [some (.s z),o]=.ok (.nx [some (.s z),o']):=by
  intro cs
  induction cs with
  |nil=>intro o _;exact⟨o,rfl⟩
  |cons c cs ih=>
   intro o hc;obtain⟨o',e⟩:=ih (o:=some (.s ⟨#[c]⟩)) λx hx=>hc x (M8 _ hx);refine⟨o',?_⟩;have eb:qC [some (.s z),some (.s ⟨#[c]⟩)]=.ok (.nx [some (.s z),some (.s ⟨#[c]⟩)]):=by refine(qK (x:=false) (yE (zp (x:=.s ⟨#[c]⟩) (y:=.s signs) rfl rfl ?_))).trans rfl;show Out.ok (PV.b (xor true (!(Builtin.Str.occurrences signs ⟨#[c]⟩ 0 signs.length 1).isEmpty)))=_;rw[StrLaws.found_one,O0 (hc c M3)];rfl
   show(qC [some (.s z),some (.s ⟨#[c]⟩)]).bind _=_;rw[eb];exact e
 obtain⟨o',e⟩:=loop (cs:=z.cps.toList) (o:=none) hs;refine zY (ze ⟨_,(qK (fL (x:=false) (y:=false) ((Gr (x:=(z.length:Int)) (zu (xs:=[.s z]) rfl hl)).trans (by rw[N8 (by omega)])) ((W_ (x:=(z.length:Int)) (zu (xs:=[.s z]) rfl hl)).trans (by rw[N8 (by omega)])))).trans (show _=Out.ok (Fw.nx [some (.s z),none])from rfl),ze ⟨_,vd (signs_at rfl) e,rfl⟩⟩)
def UK(P:MD):List (Key×PV):=P.map λz=>(sk z,.b true)
def iS(h:z∉P):zK (UK P) (sk z)=none:=by
 cases e:zK (UK P) (sk z)with
 |none=>rfl
 |some x=>have:=wU e;obtain⟨y,hy,e2⟩:=a0a.mp this;cases e2;exact absurd hy h
def r9{N:MD}(nd:N.Nodup)(hN:∀z∈N,Nm z)(hl:N.length<=12):y6 [.l (N.map .s)]=.ok .n:=by
 have loop:∀{R P:MD}{o:Ny},P++R=N->∃P' o',KI Zu qD (R.map .s) [some (.l (N.map .s)),some (.d (UK P)),o]=.ok (.nx [some (.l (N.map .s)),some (.d (UK P')),o']):=by
  intro R
  induction R with
  |nil=>intro P o _;exact⟨P,o,rfl⟩
  |cons z R ih=>
   intro P o e;obtain⟨P',o',e'⟩:=ih (P:=P++[z]) (o:=some (.s z)) (by rw[T9];exact e);refine⟨P',o',?_⟩;have hz:z∉P:=λh=>by rw[<- e]at nd;exact(a0p.mp nd).2.2 z h z M3 rfl
   have hm:z∈N:=by rw[<- e];exact O3 _ M3
   have hp:(UK P).length<=12:=by have:=T6 List.length e;rw[O6]at this;unfold UK;rw[u8];omega
   have en:zF [.s z,.d (UK P)]=.ok (.s z):=by refine zY (ze ⟨_,qt (zu (xs:=[.s z]) rfl (r8 (hN z hm))),ze ⟨_,(qK (x:=false) (yE (zp (x:=.s z) (y:=.d (UK P)) rfl rfl ?_))).trans (show _=Out.ok (Fw.nx [some (.s z),some (.d (UK P))])from rfl),rfl⟩⟩);show Out.ok (PV.b (xor false (zK (UK P) (sk z)).isSome))=_;rw[iS hz];rfl
   have ed:dput (UK P) (sk z) (.b true)=UK (P++[z]):=by unfold dput;rw[kh,iS hz];unfold UK;rw[R4];rfl
   have eb:qD [some (.l (N.map .s)),some (.d (UK P)),some (.s z)]=.ok (.nx [some (.l (N.map .s)),some (.d (UK (P++[z]))),some (.s z)]):=by refine ze ⟨_,qt (zu (xs:=[.s z,.d (UK P)]) rfl en),?_⟩;show(if(UK P).length<sizeLine then Out.ok (Fw.nx [some (.l (N.map .s)),some (.d (dput (UK P) (sk z) (.b true))),some (.s z)])else .wall)=_;rw[if_pos (a0L hp (by decide)),ed]
   show(qD [some (.l (N.map .s)),some (.d (UK P)),some (.s z)]).bind _=_;rw[eb];exact e'
 obtain⟨P',o',e⟩:=loop (R:=N) (P:=[]) (o:=none) rfl;exact rZ rfl (ze ⟨[some (.l (N.map .s)),some (.d (UK [])),none],rfl,vd (yo rfl) e⟩)
def Gx{z:Str}:∀{N:MD},inP (.str z) (N.map .s)=some (decide (z∈N))
 |[]=>by rw[N8 (by simp)];rfl
 |y::N=>by
  show(match some (V.str y),inP (.str z) (N.map .s)with|some u,some b=>some (eqV u (.str z)||b)|_,_=>none)=_;rw[Gx (N:=N)];show some ((y==z)||decide (z∈N))=_;congr 1;by_cases c:y=z
  .subst c;rw[a0V,O0 M3];rfl
  .rw[T7.mpr c,Bool.false_or];by_cases h:z∈N
   .rw[O0 h,O0 (M8 _ h)]
   .rw[N8 h,N8 λq=>(O5.mp q).elim (λe=>c e.symm) h]
def Du{z:Str}{N:MD}{n:Bool}:pIn n (.s z) (.l (N.map .s))=.ok (.b (xor n (decide (z∈N)))):=by show wu ((inP (.str z) (N.map .s)).map λb=>PV.b (xor n b))=_;rw[Gx];rfl
def ve{z:Str}{N:MD}(h:z∈N):z9 [.s z,.l (N.map .s)]=.ok .n:=
 rZ rfl ((qK (x:=false) (yE (zp (x:=.s z) (y:=.l (N.map .s)) rfl rfl (Du.trans (by rw[O0 h];rfl))))).trans (show _=Out.ok (Fw.nx [some (.s z),some (.l (N.map .s))])from rfl))
def r_(h1:1<=m)(h2:m<=1000000000):zA [.i m,.i 1]=.ok (.i m):=by refine zY (ze ⟨_,(qK (fL (x:=false) (y:=false) (yE (zp (x:=.i m) (y:=.i 1) rfl rfl ?_)) ((W_ (x:=m) rfl).trans (by rw[N8 (by omega)])))).trans (show _=Out.ok (Fw.nx [some (.i m),some (.i 1)])from rfl),rfl⟩);show Out.ok (PV.b (decide (m<1)))=_;rw[N8 (by omega)]
def xQ(h:WOk N W):qN [.l (N.map .s),.l (W.map wP)]=.ok .n:=by
 have loop:∀{V:List Wy}{a b c:Ny},(∀w∈V,w∈W)->∃a' b' c',KI Qf jJ (V.map wP) [some (.l (N.map .s)),some (.l (W.map wP)),a,b,c]=.ok (.nx [some (.l (N.map .s)),some (.l (W.map wP)),a',b',c']):=by
  intro V
  induction V with
  |nil=>intro a b c _;exact⟨a,b,c,rfl⟩
  |cons w V ih=>
   intro a b c hV;obtain⟨h1,h2,h3,h4⟩:=h w (hV w M3);obtain⟨a',b',c',e⟩:=ih (a:=some (.s w.1)) (b:=some (.s w.2.1)) (c:=some (.i w.2.2)) λx hx=>hV x (M8 _ hx);refine⟨a',b',c',?_⟩;have eb:jJ [some (.l (N.map .s)),some (.l (W.map wP)),some (.s w.1),some (.s w.2.1),some (.i w.2.2)]=.ok (.nx [some (.l (N.map .s)),some (.l (W.map wP)),some (.s w.1),some (.s w.2.1),some (.i w.2.2)]):=
    ze ⟨_,qt (zu (xs:=[.s w.1,.l (N.map .s)]) rfl (ve h1)),ze ⟨_,qt (zu (xs:=[.s w.2.1,.l (N.map .s)]) rfl (ve h2)),qt (zu (xs:=[.i w.2.2,.i 1]) rfl (r_ h3 h4))⟩⟩
   show(jJ [some (.l (N.map .s)),some (.l (W.map wP)),some (.s w.1),some (.s w.2.1),some (.i w.2.2)]).bind _=_;rw[eb];exact e
 obtain⟨a',b',c',e⟩:=loop (V:=W) (a:=none) (b:=none) (c:=none) λw h=>h;exact rZ rfl (vd (yo rfl) e)
def fV(N:MD)(F:Str->Ht):List (Key×PV):=N.map λz=>(sk z,.d (hD (F z)))
def roP(N:MD)(W:List Wy)(F:Str->Ht):PV:=.o 11 [("places",.l (N.map .s)),("ways",.l (W.map wP)),("lengths",.d (fV N F))]
def xR:∀{acc:MY},((acc++es).map (·.1)).Nodup->es.foldl (λacc kv=>dput acc kv.1 kv.2) acc=acc++es:=by
 induction es with
 |nil=>intro acc _;rw[P4];rfl
 |cons e es ih=>
  intro acc nd;have hn:zK acc e.1=none:=by
   cases h:zK acc e.1 with
   |none=>rfl
   |some x=>have hm:e.1∈acc.map (·.1):=a0a.mpr ⟨_,wU h,rfl⟩;rw[R4,N5]at nd;exact absurd rfl ((a0p.mp nd).2.2 e.1 hm e.1 M3)
  have ed:dput acc e.1 e.2=acc++[e]:=by unfold dput;rw[kh,hn];rfl
  rw[a0z,ed,ih (by rw[T9];exact nd),T9];rfl
def xS(nd:N.Nodup):((fV N F).map (·.1)).Nodup:=by unfold fV;rw[R7];exact List.Pairwise.map _ (λa b h e=>h (a0w e)) nd
def Dv(h:o∈N):zK (fV N F) (sk o)=some (.d (hD (F o))):=by
 induction N with
 |nil=>cases h
 |cons z N ih=>
  unfold fV;rw[N5,zT];by_cases c:sk z=sk o
  .rw[if_pos c];rw[a0w c]
  .rw[if_neg c];exact ih ((O5.mp h).resolve_left λe=>c (by rw[e]))
def iT{F:Str->Ht}:∀{N:MD},CP (N.map λz=>.t [.s z,.d (hD (F z))])=some (fV N F)
 |[]=>rfl
 |z::N=>by show(CP (N.map λz=>.t [.s z,.d (hD (F z))])).map ((sk z,PV.d (hD (F z)))::·)=_;rw[iT (N:=N)];rfl
def sf(h:m (some (.o 11 fs)::r)=.ok v)(hl:fs.length<1000):fc 0 [11] f m (some (.o 11 fs)::r)=.ok (.nx (some (.o 11 (tR fs f v))::r)):=by unfold fc;rw[h];show(if 11∈[11]/\fs.length<1000 then Out.ok (Fw.nx (some (PV.o 11 (tR fs f v))::r))else .wall)=_;rw[if_pos ⟨M3,hl⟩]
structure ROk(N:MD)(W:List Wy):Prop where
 len:N.length<=12
 nd:N.Nodup
 nm:∀z∈N,Nm z
 wl:W.length<=60
 ok:WOk N W
def Xd(R:ROk N W):∃F:Str->Ht,∀z,Xa z W (F z)/\ya [.s z,.l (W.map wP)]=.ok (.d (hD (F z))):=
 ⟨λz=>Classical.choose (UJ (o:=z) (W:=W) (by have:=R.wl;omega) λw hw=>(R.ok w hw).2.2.1),λz=>S4 (UJ (o:=z) (W:=W) (by have:=R.wl;omega) λw hw=>(R.ok w hw).2.2.1)⟩
def si(R:ROk N W)(hF:∀z,ya [.s z,.l (W.map wP)]=.ok (.d (hD (F z)))):yJ [.l (N.map .s),.l (W.map wP)]=.ok (roP N W F):=by
 have hl:=R.len;have hw:=R.wl;have ec:lcP Ym Yn Yo (N.map .s) [none,some (.l (W.map wP))] []=.ok (.l (N.map λz=>.t [.s z,.d (hD (F z))])):=by refine Kc PV.s (λz=>.t [.s z,.d (hD (F z))]) (λρ=>∃o,ρ=[o,some (.l (W.map wP))]) N [none,some (.l (W.map wP))] ⟨none,rfl⟩ (λz hz ρ ⟨o,ho⟩=>?_) (by omega);subst ho;exact⟨_,rfl,⟨_,rfl⟩,fP (zw rfl (zw (zu (xs:=[.s z,.l (W.map wP)]) rfl (hF z)) rfl)) (S8 rfl)⟩
 have ed:cQ [.l (N.map λz=>.t [.s z,.d (hD (F z))])]=.ok (.d (fV N F)):=by show wu ((CP (N.map λz=>.t [.s z,.d (hD (F z))])).map λes=>PV.d (h8 es))=_;rw[iT];show Out.ok (PV.d (h8 (fV N F)))=_;unfold h8;rw[xR (acc:=[]) (by rw[a0A];exact xS R.nd)];rfl
 have e:vm [some (.o 11 []),some (.l (N.map .s)),some (.l (W.map wP))]=.ok (.nx [some (roP N W F),some (.l (N.map .s)),some (.l (W.map wP))]):=by refine ze ⟨_,qt (zu (xs:=[.l (N.map .s),.i 12]) rfl (fU JO (by omega))),ze ⟨_,qt (zu (xs:=[.l (W.map wP),.i 60]) rfl (fU JO (by omega))),ze ⟨_,qt (zu (xs:=[.l (N.map .s)]) rfl (r9 R.nd R.nm hl)),ze ⟨_,qt (zu (xs:=[.l (N.map .s),.l (W.map wP)]) rfl (xQ R.ok)),ze ⟨_,sf (v:=.l (N.map .s)) rfl (by decide),ze ⟨_,sf (v:=.l (W.map wP)) rfl (S8 rfl),(sf (v:=.d (fV N F)) (zu (zw (cN (yo rfl) ec) rfl) ed) (S8 rfl)).trans ?_⟩⟩⟩⟩⟩⟩;rw[aA,Wj (by decide +kernel),aA,Wj (by decide +kernel),Wj (by decide +kernel),aA];rfl
 show(match vm [some (.o 11 []),some (.l (N.map .s)),some (.l (W.map wP))]with | .ok (.nx ρ)=>(match ρ[0]? with|some (some x)=>Out.ok x|_=>.wall) | .ok (.rt _)=>.wall | .ok (.bk _)=>.wall | .ok (.ct _)=>.wall | .exc c fs=>.exc c fs | .wall=>.wall)=_;rw[e];rfl
def Dw(h:m ρ=.ok (roP N W F)):Wf [11] "places" m ρ=.ok (.l (N.map .s))/\Wf [11] "lengths" m ρ=.ok (.d (fV N F)):=by
 constructor
 .unfold Wf;rw[h,okb];show(if 11∈[11]then wu (List.lookup ("places":Str) [("places",PV.l (N.map .s)),("ways",.l (W.map wP)),("lengths",.d (fV N F))])else .wall)=_;rw[if_pos M3,Wi];rfl
 .unfold Wf;rw[h,okb];show(if 11∈[11]then wu (List.lookup ("lengths":Str) [("places",PV.l (N.map .s)),("ways",.l (W.map wP)),("lengths",.d (fV N F))])else .wall)=_;rw[if_pos M3,qH (by decide +kernel),qH (by decide +kernel),Wi];rfl
def Xa.Dx(g:Xa o W h)(e:zK h (sk z)=some y)(hz:z≠o):∃w∈W,w.2.1=z/\∃x,zK h (sk w.1)=some x/\x+w.2.2=y:=by
 rcases g.1.sup _ _ e with c|⟨w,hw,eg,x,ex,le⟩
 .exact absurd (a0w c) hz
 .have eg:=a0w eg;obtain⟨y',ey,le'⟩:=g.2 w hw x ex;rw[eg,e]at ey;cases ey;exact⟨w,hw,eg,x,ex,by omega⟩
def D4:Option Int->PV
 |none=>.n
 |some x=>.i x
def Gy(ha:a ρ=.ok (.d (hD h)))(hb:b ρ=.ok (.s z)):Hd a b ρ=.ok (D4 (zK h (sk z))):=by unfold Hd;rw[ha,okb];show(b ρ).bind (C4 (hD h))=_;rw[hb,okb];show Out.ok ((zK (hD h) (sk z)).getD .n)=_;rw[rW];cases zK h (sk z)<;>rfl
def Mq(ha:a ρ=.ok (.d (fV N F)))(hb:b ρ=.ok (.s o))(ho:o∈N):mOp pIx a b ρ=.ok (.d (hD (F o))):=by refine zp ha hb ?_;show wu (zK (fV N F) (sk o))=_;rw[Dv ho];rfl
def UL(ho:o∈N)(hg:g∈N):zG [roP N W F,.s o,.s g]=.ok (D4 (zK (F o) (sk g))):=by have q:=Dw (m:=zc 0) (ρ:=[some (roP N W F),some (.s o),some (.s g)]) (N:=N) (W:=W) (F:=F) rfl;exact zY (ze ⟨_,qt (zu (xs:=[.s o,.l (N.map .s)]) (zw rfl (zw q.1 rfl)) (ve ho)),ze ⟨_,qt (zu (xs:=[.s g,.l (N.map .s)]) (zw rfl (zw q.1 rfl)) (ve hg)),JM (Gy (Mq q.2 rfl ho) rfl)⟩⟩)
def iU(ha:a ρ=.ok (roP N W F))(hm:ms ρ=.ok xs)(h1:(nm==("places":Str))=false)(h2:(nm==("ways":Str))=false)(h3:(nm==("lengths":Str))=false)(h:f (roP N W F::xs)=.ok x):QL [(11,f)] nm a ms ρ=.ok x:=by unfold QL;rw[ha,okb];show(if(List.lookup nm [("places",PV.l (N.map .s)),("ways",.l (W.map wP)),("lengths",.d (fV N F))]).isSome=true then Out.wall else(ms ρ).bind λxs=>f (roP N W F::xs))=_;rw[qH h1,qH h2,qH h3,pJ,if_neg (by intro z;cases z),hm,okb];exact h
def dy(h1:ms ρ=.ok [.s x,.s y])(h2:m ρ=.ok (.dt L)):yH (nv n ms m) ρ=.ok (xor n (zK L [sk x,sk y]).isSome):=by refine yE ?_;unfold nv;rw[h1];show(m ρ).bind (inT n [sk x,sk y])=_;rw[h2];rfl
def dz(h2:m ρ=.ok (.dt L))(h1:ms ρ=.ok [.s x,.s y])(e:zK L [sk x,sk y]=some v):rg m ms ρ=.ok (.i v):=by unfold rg;rw[h2,okb,h1,okb];show wu ((zK L [sk x,sk y]).map PV.i)=_;rw[e];rfl
abbrev Lst:=List (List Key×Int)
def Y0(h:0<=k):∃x:Int,zD [.sc ns,.i k]=.ok (.i x):=by
 suffices h:∃x:Int,Zb [some (.sc ns),some (.i k)]=.ok (.rt (.i x))from h.imp λ_ e=>zY e
 have t:=qK (ρ:=[some (.sc ns),some (.i k)]) (a:=ZM (mOp pIx (zc 0) (zc 1))) (b:=yN) (yE (m:=mOp pLt (zc 1) (zj Us (zb (zc 0) zq))) (b:=decide (k<(ns.length:Int))) (zp rfl (zu (xs:=[.sc ns]) rfl rfl) rfl));by_cases c:k<ns.length
 .rw[O0 c]at t;have e:pIx (.sc ns) (.i k)=.ok (.i (ns[k.toNat]'(by omega))):=by show wu ((atI ns k).map PV.i)=_;rw[pE h,N6 (by omega)];rfl
  exact⟨_,az (t.trans (JM (zp rfl rfl e)))⟩
 .rw[N8 c]at t;exact⟨0,ze ⟨_,t,rfl⟩⟩
def Zf(h:0<=k)(hp:0<p):∃x:Int,0<=x/\zz [.sc ns,.i k,.i p]=.ok (.i x):=by obtain⟨c,e⟩:=Y0 (ns:=ns) h;have a0:=S0 c (show(1000000007:Int)≠0 by decide);have a1:=P9 c (show(0:Int)<1000000007 by decide);have e1:mOp zS (zj zD (zb (zc 0) (zb (zc 1) zq))) (mC (.i 1000000007)) [some (.sc ns),some (.i k),some (.i p)]=.ok (.i (c % 1000000007)):=v5 (zu (xs:=[.sc ns,.i k]) rfl e) (by decide);exact⟨_,S0 _ (by omega),zY (JM (zp (zp e1 rfl (Uv (by omega) (by omega))) rfl (vc hp)))⟩
def iV(r:Nc):Str:=⟨(r.map λi=>(signs.cps.toList[i.toNat]?).getD 0).toArray⟩
def JP:(iV r).length=r.length:=by show((r.map λi=>(signs.cps.toList[i.toNat]?).getD 0).toArray).size=_;rw[O4,u8]
def Yr:iV (i::r)=sgn i++iV r:=by show(⟨((signs.cps.toList[i.toNat]?).getD 0::r.map λi=>(signs.cps.toList[i.toNat]?).getD 0).toArray⟩:Str)=⟨#[(signs.cps.toList[i.toNat]?).getD 0]++(r.map λi=>(signs.cps.toList[i.toNat]?).getD 0).toArray⟩;rw[List.toArray_cons]
def iW:∀{r r':Nc},(∀i∈r,0<=i/\i<36)->(∀i∈r',0<=i/\i<36)->iV r=iV r'->r=r'
 |[],[],_,_,_=>rfl
 |[],_::_,_,_,h=>by have:=T6 Str.length h;rw[JP,JP]at this;cases this
 |_::_,[],_,_,h=>by have:=T6 Str.length h;rw[JP,JP]at this;cases this
 |i::r,j::r',h1,h2,h=>by rw[Yr,Yr]at h;obtain⟨a,b⟩:=str_inj (a:=sgn i) (a':=sgn j) rfl h;have hi:=h1 i M3;have hj:=h2 j M3;rw[Dt hi.1 hi.2 hj.1 hj.2 a,iW (λx hx=>h1 x (M8 _ hx)) (λx hx=>h2 x (M8 _ hx)) b]
def iX:∀{r:Nc},(∀i∈r,0<=i/\i<36)->Sgs (iV r)
 |[],_=>λc hc=>by have:(iV []).cps.toList=[]:=rfl;rw[this]at hc;cases hc
 |i::r,h=>by rw[Yr];have hi:=h i M3;exact(Sgs.sgn hi.1 hi.2).app (iX λx hx=>h x (M8 _ hx))
def dA:∀(r:Nc)(a:Nr),(r.map sgn).foldl (λacc p=>acc++(Str.ofString "").cps++p.cps) a=a++(iV r).cps
 |[],a=>by show a=a++#[];rw[a2Z]
 |i::r,a=>by rw[N5,a0z,dA r,Yr];show a++#[]++(sgn i).cps++(iV r).cps=a++((sgn i).cps++(iV r).cps);rw[a2Z,a2Q]
def xT:Txt.join "" (r.map sgn)=iV r:=by
 cases r with
 |nil=>rfl
 |cons i r=>show(⟨(r.map sgn).foldl (λacc p=>acc++(Str.ofString "").cps++p.cps) (sgn i).cps⟩:Str)=_;rw[dA,Yr];rfl
def iY:∀{r:Nc},((r.map sgn).map (λt:Str=>t.length)).sum=r.length
 |[]=>rfl
 |i::r=>by rw[N5,N5,a1w,iY,v4];show 1+_=_;omega
def Dy(h:m ρ=.ok (.l ((r.map sgn).map .s)))(hl:r.length<=1000):IC cT (mC (.s "")) m ρ=.ok (.s (iV r)):=by
 show(m ρ).bind (cT "")=_;rw[h,okb];show(match p8 ((r.map sgn).map .s)with
  |some (ys:MD)=>if(ys.map (λt:Str=>t.length)).sum+ys.length*("":Str).length<=16777216 then Out.ok (PV.s (Txt.join "" ys))else .wall
  |none=>.wall)=_
 rw[ik];show(if _ then _ else _)=_;have z:("":Str).length=0:=rfl;rw[if_pos (by rw[iY,z];omega),xT]
def dB{α:Type}{xs:List α}(h:0<=i):cG xs none (some i)=xs.take i.toNat:=by
 unfold cG;show List.take ((if i<0 then(i+(xs.length:Int)).toNat else min i.toNat xs.length)-0) (xs.drop 0)=_;rw[if_neg (by omega),Nat.sub_zero,List.drop_zero];by_cases c:i.toNat<=xs.length
 .rw[Nat.min_eq_left c]
 .rw[Nat.min_eq_right (by omega),a1u (M7 _),a1u (by omega)]
def iZ{α:Type}{xs:List α}{i:Int}(h:0<=i)(h2:i<=xs.length):cG xs (some i) none=xs.drop i.toNat:=by unfold cG;show List.take (xs.length-(if i<0 then(i+(xs.length:Int)).toNat else min i.toNat xs.length)) (xs.drop (if i<0 then(i+(xs.length:Int)).toNat else min i.toNat xs.length))=_;rw[if_neg (by omega),Nat.min_eq_left (by omega),a1u (by rw[a0U];omega)]
def vo(sg:Nc)(c:Int)(k:Nat):List Int:=sg.take (1+c % 11).toNat++if k % 2=1 then sg.drop 11 else[]
def Dz(sg:Nc)(c w:Int)(k:Nat):List Int:=(vo sg c k).set (w / 4 % ((vo sg c k).length:Int)).toNat ((((vo sg c k)[(w / 4 % ((vo sg c k).length:Int)).toNat]?).getD 0+k) % 36)
def rowOf(sg:Nc)(c w:Int)(n k:Nat):List Int:=
 if w % 4=1/\n<=12 then sg.take (1+k)else if w % 4=2/\n<=12 then sg.take (n-k)else Dz sg c w k
def VT(h:sg.length=12):((vo sg c k).length:Int)=1+c % 11+(k % 2:Nat):=by
 have a0:=S0 c (show(11:Int)≠0 by decide);have a1:=P9 c (show(0:Int)<11 by decide);unfold vo;rw[O6,a0c,h];have:k % 2=0\/k % 2=1:=by omega
 rcases this with e|e
 .rw[if_neg (by omega)];show((min _ 12+0:Nat):Int)=_;omega
 .rw[if_pos e,a0U,h];omega
def xU(h:i∈vo sg c k):i∈sg:=by
 unfold vo at h;rcases R9.mp h with h|h
 .exact a1I h
 .split at h
  .exact List.mem_of_mem_drop h
  .cases h
def xV(h:j % 2=k % 2):vo sg c j=vo sg c k:=by unfold vo;rw[h]
def i4(h:∀i∈sg,0<=i/\i<36):∀i∈rowOf sg c w n k,0<=i/\i<36:=λi hi=>by
 unfold rowOf at hi;split at hi
 .exact h i (a1I hi)
 .split at hi
  .exact h i (a1I hi)
  .rcases List.mem_or_eq_of_mem_set hi with q|q
   .exact h i (xU q)
   .rw[q];exact⟨S0 _ (by decide),P9 _ (by decide)⟩
def sj(h:sg.length=12)(hk:k<n):1<=(rowOf sg c w n k).length/\(rowOf sg c w n k).length<=12:=by
 have a0:=S0 c (show(11:Int)≠0 by decide);have a1:=P9 c (show(0:Int)<11 by decide);have:=VT (c:=c) (k:=k) h;unfold rowOf;split
 .rw[a0c,h];omega
 .split
  .rw[a0c,h];omega
  .unfold Dz;rw[P1];omega
def DA(h:sg.length=12)(hn:n<=16)(hj:j<n)(hk:k<n)(e:rowOf sg c w n j=rowOf sg c w n k):j=k:=by
 have a0:=S0 c (show(11:Int)≠0 by decide);have a1:=P9 c (show(0:Int)<11 by decide);have l1:=VT (c:=c) (k:=j) h;have l2:=VT (c:=c) (k:=k) h;unfold rowOf at e;have el:=T6 List.length e;by_cases c1:w % 4=1/\n<=12
 .rw[if_pos c1,if_pos c1,a0c,a0c,h]at el;omega
 .rw[if_neg c1,if_neg c1]at el e;by_cases c2:w % 4=2/\n<=12
  .rw[if_pos c2,if_pos c2,a0c,a0c,h]at el;omega
  .rw[if_neg c2,if_neg c2]at el e;unfold Dz at el e;rw[P1,P1]at el;have p:j % 2=k % 2:=by omega
   rw[xV (sg:=sg) (c:=c) p]at e l1;have s0:=S0 (w / 4) (show((vo sg c k).length:Int)≠0 by omega);have s1:=P9 (w / 4) (show(0:Int)<((vo sg c k).length:Int) by omega);have hs:(w / 4 % ((vo sg c k).length:Int)).toNat<(vo sg c k).length:=by omega
   generalize(w / 4 % ((vo sg c k).length:Int)).toNat=s at e hs;have e2:=T6 (λl:List Int=>l[s]?) e;replace e2:((vo sg c k).set s ((((vo sg c k)[s]?).getD 0+(j:Int)) % 36))[s]?=((vo sg c k).set s ((((vo sg c k)[s]?).getD 0+(k:Int)) % 36))[s]?:=e2;rw[P5 hs,P5 hs]at e2;have e3:=T1 e2;omega
def fW(sg:Nc)(c w:Int)(n k:Nat):List Str:=(List.range k).map λk=>iV (rowOf sg c w n k)
def mulL(h0:0<=b)(h1:b<=1)(hl:xs.length<=100):Y2 (.l xs) (.i b)=.ok (.l (List.replicate b.toNat xs).flatten):=by
 have:b.toNat=0\/b.toNat=1:=by omega
 exact if_pos ⟨by omega,by omega,P7 (m:=100) (by rcases this with e|e<;>rw[e]<;>omega) (by decide)⟩
def i5(h:ρ[i]?=some (some (.l xs)))(hm:m ρ=.ok y)(hl:xs.length<100000):o9 i m ρ=.ok (.nx (ρ.set i (some (.l (xs++[y]))))):=by unfold o9;rw[h];show(m ρ).bind _=_;rw[hm,okb,if_pos (N9 hl (by decide))]
abbrev nSt(ns:Nc)(a:Int)(n:Nat)(c w:Int)(sg:Nc)(k:Nat)(x y z:Ny):Sto:=[some (.sc ns),some (.i a),some (.i (n:Int)),some (.s signs),some (.i c),some (.l (sg.map .i)),some (.i w),some (.l ((fW sg c w n k).map .s)),x,y,z]
def xW(h:sg.length=12)(hs:∀i∈sg,0<=i/\i<36)(hk:k<n)(hn:n<=16):∃x' y' z',Zc (nSt ns a n c w sg k (some (.i (k:Int))) y z)=.ok (.nx (nSt ns a n c w sg (k+1) x' y' z')):=by
 have a0:=S0 c (show(11:Int)≠0 by decide);have a1:=P9 c (show(0:Int)<11 by decide);have lB:=VT (c:=c) (k:=k) h
 -- the row
 have e1:y_ 9 (mOp mz (zj qv (zb (mSl pSl (zc 5) ao (vC (mOp z1 (mC (.i 1)) (mOp zS (zc 4) (mC (.i 11)))))) zq)) (mOp Y2 (mSl pSl (zc 5) (vC (mC (.i 11))) ao) (mOp zS (zc 8) (mC (.i 2))))) (nSt ns a n c w sg k (some (.i (k:Int))) y z)=.ok (.nx (nSt ns a n c w sg k (some (.i (k:Int))) (some (.l ((vo sg c k).map .i))) z)):=by
  have x1:mSl pSl (zc 5) ao (vC (mOp z1 (mC (.i 1)) (mOp zS (zc 4) (mC (.i 11))))) (nSt ns a n c w sg k (some (.i (k:Int))) y z)=.ok (.l ((sg.take (1+c % 11).toNat).map .i)):=by unfold mSl;rw[show zc 5 (nSt ns a n c w sg k (some (.i (k:Int))) y z)=.ok (.l (sg.map .i))from rfl,okb,show ao (nSt ns a n c w sg k (some (.i (k:Int))) y z)=.ok none from rfl,okb,IQ (zp rfl (v5 rfl (by decide)) rfl),okb];show Out.ok (PV.l (cG (sg.map PV.i) none (some (1+c % 11))))=_;rw[dB (by omega),a1v]
  have x2:mSl pSl (zc 5) (vC (mC (.i 11))) ao (nSt ns a n c w sg k (some (.i (k:Int))) y z)=.ok (.l ((sg.drop 11).map .i)):=by show Out.ok (PV.l (cG (sg.map PV.i) (some 11) none))=_;rw[iZ (by decide) (by rw[u8];omega),a2J];rfl
  refine yi (zp (zu (zw x1 rfl) rfl) (zp x2 (v5 rfl (by decide)) (z:=.l ((if k % 2=1 then sg.drop 11 else[]).map .i)) ?_) ?_)
  .have:k % 2=0\/k % 2=1:=by omega
   rw[mulL (by omega) (by omega) (by rw[u8,a0U];omega)];rcases this with e|e
   .rw[if_neg (by omega),show((k:Int) % 2).toNat=0 by omega];rfl
   .rw[if_pos e,show((k:Int) % 2).toNat=1 by omega];show Out.ok (PV.l ((sg.drop 11).map PV.i++[]))=_;rw[P4]
  .show(if _ then _ else _)=_;have l2:(if k % 2=1 then sg.drop 11 else[]).length<=1:=by
    split
    .rw[a0U];omega
    .exact S7 _
   rw[if_pos (P7 (m:=100) (by rw[u8,u8,a0c];omega) (by decide)),<- R4];rfl
 have s0:=S0 (w / 4) (show((vo sg c k).length:Int)≠0 by omega);have s1:=P9 (w / 4) (show(0:Int)<((vo sg c k).length:Int) by omega);have hs':(w / 4 % ((vo sg c k).length:Int)).toNat<(vo sg c k).length:=by omega
 have e3:o_ 9 (zc 10) (mOp zS (mOp z1 (mOp pIx (zc 9) (zc 10)) (zc 8)) (mC (.i 36))) (nSt ns a n c w sg k (some (.i (k:Int))) (some (.l ((vo sg c k).map .i))) (some (.i (w / 4 % ((vo sg c k).length:Int)))))=.ok (.nx (nSt ns a n c w sg k (some (.i (k:Int))) (some (.l ((Dz sg c w k).map .i))) (some (.i (w / 4 % ((vo sg c k).length:Int)))))):=by
  have x1:mOp pIx (zc 9) (zc 10) (nSt ns a n c w sg k (some (.i (k:Int))) (some (.l ((vo sg c k).map .i))) (some (.i (w / 4 % ((vo sg c k).length:Int)))))=.ok (.i (((vo sg c k)[(w / 4 % ((vo sg c k).length:Int)).toNat]?).getD 0)):=by refine zp rfl rfl ((mW s0 (by rw[u8];exact s1)).trans ?_);rw[a0s,N6 hs'];rfl
  unfold o_;rw[v5 (zp x1 rfl rfl) (by decide),okb];show(match ixN ((vo sg c k).map PV.i).length (w / 4 % ((vo sg c k).length:Int))with
   |some j=>Out.ok (Fw.nx _)
   |none=>.wall)=_
  rw[show ixN ((vo sg c k).map PV.i).length (w / 4 % ((vo sg c k).length:Int))=some (w / 4 % ((vo sg c k).length:Int)).toNat by unfold ixN;rw[u8,if_pos s0,if_pos s1]];show Out.ok (Fw.nx (nSt ns a n c w sg k (some (.i (k:Int))) (some (.l (((vo sg c k).map PV.i).set _ (PV.i _)))) _))=_;rw[<- List.map_set];rfl
 have t1:sIf (d9 (yH (mOp (Vo false) (mOp zS (zc 6) (mC (.i 4))) (mC (.i 1)))) (yH (mOp pLe (zc 2) (mC (.i 12))))) (y_ 9 (mSl Cs (zc 5) ao (vC (mOp z1 (mC (.i 1)) (zc 8))))) yN (nSt ns a n c w sg k (some (.i (k:Int))) (some (.l ((Dz sg c w k).map .i))) (some (.i (w / 4 % ((vo sg c k).length:Int)))))=.ok (.nx (nSt ns a n c w sg k (some (.i (k:Int))) (some (.l ((if w % 4=1/\n<=12 then sg.take (1+k)else Dz sg c w k).map .i))) (some (.i (w / 4 % ((vo sg c k).length:Int)))))):=by
  refine(qK (x:=decide (w % 4=1)&&decide ((n:Int)<=12)) (JL (iN (v5 rfl (by decide))) (yE (zp rfl rfl rfl)))).trans ?_;by_cases c1:w % 4=1/\n<=12
  .rw[if_pos (by rw[O0 c1.1,O0 (show(n:Int)<=12 by omega)];rfl),if_pos c1];refine(yi (x:=.l ((sg.take (1+k)).map .i)) ?_);show Out.ok (PV.l (cG (sg.map PV.i) none (some (1+(k:Int)))))=_;rw[dB (by omega),a1v,show(1+(k:Int)).toNat=1+k by omega]
  .rw[if_neg (λq=>c1 (by obtain⟨x,y⟩:=(a1b _ _).mp q;exact⟨S6 x,by have:=S6 y;omega⟩)),if_neg c1];rfl
 have t2:sIf (d9 (yH (mOp (Vo false) (mOp zS (zc 6) (mC (.i 4))) (mC (.i 2)))) (yH (mOp pLe (zc 2) (mC (.i 12))))) (y_ 9 (mSl Cs (zc 5) ao (vC (mOp oE (zc 2) (zc 8))))) yN (nSt ns a n c w sg k (some (.i (k:Int))) (some (.l ((if w % 4=1/\n<=12 then sg.take (1+k)else Dz sg c w k).map .i))) (some (.i (w / 4 % ((vo sg c k).length:Int)))))=.ok (.nx (nSt ns a n c w sg k (some (.i (k:Int))) (some (.l ((rowOf sg c w n k).map .i))) (some (.i (w / 4 % ((vo sg c k).length:Int)))))):=by
  refine(qK (x:=decide (w % 4=2)&&decide ((n:Int)<=12)) (JL (iN (v5 rfl (by decide))) (yE (zp rfl rfl rfl)))).trans ?_;unfold rowOf;by_cases c1:w % 4=2/\n<=12
  .rw[if_pos (by rw[O0 c1.1,O0 (show(n:Int)<=12 by omega)];rfl),if_neg (show ¬(w % 4=1/\n<=12) by omega),if_neg (show ¬(w % 4=1/\n<=12) by omega),if_pos c1];refine(yi (x:=.l ((sg.take (n-k)).map .i)) ?_);show Out.ok (PV.l (cG (sg.map PV.i) none (some ((n:Int)-(k:Int)))))=_;rw[dB (by omega),a1v,show((n:Int)-(k:Int)).toNat=n-k by omega]
  .rw[if_neg (λq=>c1 (by obtain⟨x,y⟩:=(a1b _ _).mp q;exact⟨S6 x,by have:=S6 y;omega⟩)),if_neg c1];rfl
 have rl:=sj (c:=c) (w:=w) h hk;have ri:=i4 (c:=c) (w:=w) (n:=n) (k:=k) hs;have e6:lcP vX vY vZ ((rowOf sg c w n k).map .i) [none,some (.s signs)] []=.ok (.l (((rowOf sg c w n k).map sgn).map .s)):=by rw[R7];refine Kc (λi:Int=>PV.i i) (λi:Int=>PV.s (sgn i)) (λρ=>∃o,ρ=[o,some (.s signs)]) _ _ ⟨none,rfl⟩ (λi hi ρ ⟨o,ho⟩=>?_) (by omega);subst ho;exact⟨_,rfl,⟨_,rfl⟩,zp rfl rfl (Gw (ri i hi).1 (ri i hi).2)⟩
 have e7:(fW sg c w n k).map PV.s++[PV.s (iV (rowOf sg c w n k))]=(fW sg c w n (k+1)).map .s:=by unfold fW;rw[List.range_succ,R4,R4];rfl
 have e8:=i5 (i:=7) (ρ:=nSt ns a n c w sg k (some (.i (k:Int))) (some (.l ((rowOf sg c w n k).map .i))) (some (.i (w / 4 % ((vo sg c k).length:Int))))) rfl (Dy (r:=rowOf sg c w n k) (cN (mi:=yn (zc 9)) (fr:=[none,some 3]) (g:=vX) (c:=vY) (e:=vZ) (yo rfl) e6) (by omega)) (by rw[u8,fW,u8,T4];omega);rw[e7]at e8;exact⟨_,_,_,ze ⟨_,e1,ze ⟨_,yi (zp (bu rfl (by decide) (by decide)) (zu (xs:=[.l ((vo sg c k).map .i)]) rfl JO) (vc (by omega))),ze ⟨_,e3,ze ⟨_,t1,ze ⟨_,t2,e8⟩⟩⟩⟩⟩⟩
def dC(ha:0<=a)(hn:n<=16):∃N:List Str,N.length=n/\N.Nodup/\(∀z∈N,Nm z)/\qJ [.sc ns,.i a,.i (n:Int)]=.ok (.l (N.map .s)):=by
 obtain⟨cl,ec⟩:=Y0 (ns:=ns) ha;obtain⟨w,w0,ew⟩:=Zf (ns:=ns) (k:=a+1) (p:=65537) (by omega) (by decide);have c0:=S0 cl (show(1000000007:Int)≠0 by decide);have c1:=P9 cl (show(0:Int)<1000000007 by decide);have e4:y_ 4 (mOp zS (zj zD (zb (zc 0) (zb (zc 1) zq))) (mC (.i 1000000007))) [some (.sc ns),some (.i a),some (.i (n:Int)),some (.s signs),none,none,none,none,none,none,none]=.ok (.nx [some (.sc ns),some (.i a),some (.i (n:Int)),some (.s signs),some (.i (cl % 1000000007)),none,none,none,none,none,none]):=yi (v5 (zu (xs:=[.sc ns,.i a]) rfl ec) (by decide));generalize cl % 1000000007=c at c0 c1 e4;have hsg:∀i∈(List.range 12).map (λj:Nat=>(c*16807+7919*(j:Int)*j) % 65521 % 36),0<=i/\i<36:=λi hi=>by obtain⟨j,_,rfl⟩:=a0a.mp hi;exact⟨S0 _ (by decide),P9 _ (by decide)⟩
 have e5:y_ 5 (mLC (Q9 (zb (mC (.i 12)) zq)) [none,some 4] Qa Qb Qc) [some (.sc ns),some (.i a),some (.i (n:Int)),some (.s signs),some (.i c),none,none,none,none,none,none]=.ok (.nx [some (.sc ns),some (.i a),some (.i (n:Int)),some (.s signs),some (.i c),some (.l (((List.range 12).map (λj:Nat=>(c*16807+7919*(j:Int)*j) % 65521 % 36)).map .i)),none,none,none,none,none]):=by refine yi (cN (g7 (n:=12) rfl (by decide)) ?_);rw[g8,R7];refine Kc (λk:Nat=>PV.i (k:Int)) (λj:Nat=>PV.i ((c*16807+7919*(j:Int)*j) % 65521 % 36)) (λρ=>∃o,ρ=[o,some (.i c)]) _ _ ⟨none,rfl⟩ (λj hj ρ ⟨o,ho⟩=>?_) (by decide);subst ho;have hj:=a0u.mp hj;exact⟨_,rfl,⟨_,rfl⟩,v5 (v5 (zp (zp rfl rfl (Uv (by omega) (by omega))) (zp (zp rfl rfl (Uv (by decide) (by decide))) rfl (Uv (by omega) (by omega))) rfl) (by decide)) (by decide)⟩
 have l12:((List.range 12).map (λj:Nat=>(c*16807+7919*(j:Int)*j) % 65521 % 36)).length=12:=by rw[u8,T4]
 generalize(List.range 12).map (λj:Nat=>(c*16807+7919*(j:Int)*j) % 65521 % 36)=sg at e5 hsg l12;obtain⟨ρ',⟨x,y,z,hρ⟩,ef⟩:=Ja (g:=Jx) (b:=Zc) (λk ρ=>∃x y z,ρ=nSt ns a n c w sg k x y z) n (nSt ns a n c w sg 0 none none none) ⟨_,_,_,rfl⟩ (λk hk ρ ⟨x,y,z,hρ⟩=>by
  subst hρ;obtain⟨x',y',z',e⟩:=xW (ns:=ns) (a:=a) (c:=c) (w:=w) (y:=y) (z:=z) l12 hsg hk hn;exact⟨_,rfl,_,⟨_,_,_,rfl⟩,.inl e⟩)
 subst hρ;refine⟨fW sg c w n n,by unfold fW;rw[u8,T4],nodup_range λj k hj hk e=>DA l12 hn hj hk (iW (i4 hsg) (i4 hsg) e),λs hs=>?_,zY (ze ⟨_,rfl,ze ⟨_,e4,ze ⟨_,e5,ze ⟨_,yi (zu (xs:=[.sc ns,.i (a+1),.i 65537]) rfl ew),ze ⟨_,rfl,ze ⟨_,vd (g7 (n:=n) rfl (by omega)) ef,rfl⟩⟩⟩⟩⟩⟩)⟩;obtain⟨k,hk,rfl⟩:=a0a.mp hs;have hk:=a0u.mp hk;have:=sj (c:=c) (w:=w) l12 hk;exact⟨by rw[JP];exact this,iX (i4 hsg)⟩
def WS(N:MD)(W:List Wy):Prop:=∀w∈W,w.1∈N/\w.2.1∈N/\1<=w.2.2/\w.2.2<=200000000
def WS.ok(h:WS N W):WOk N W:=λw hw=>by obtain⟨a,b,c,d⟩:=h w hw;exact⟨a,b,c,by omega⟩
def WS.app(h:WS N W)(ha:a∈N)(hg:g∈N)(h1:1<=m)(h2:m<=200000000):WS N (W++[(a,g,m)]):=λw hw=>by
 rcases R9.mp hw with hw|hw
 .exact h w hw
 .rw[O7.mp hw];exact⟨ha,hg,h1,h2⟩
abbrev wSt(ns:Nc)(a:Int)(N:MD)(f:Int)(W:List Wy)(x y:Ny):Sto:=[some (.sc ns),some (.i a),some (.l (N.map .s)),some (.i (N.length:Int)),some (.i f),some (.l (W.map wP)),x,y]
def so(h:m (wSt ns a N f W x y)=.ok (.t [.s o,.s g,.i n]))(hl:W.length<1000):o9 5 m (wSt ns a N f W x y)=.ok (.nx (wSt ns a N f (W++[(o,g,n)]) x y)):=by refine(i5 rfl h (by rw[u8];omega)).trans ?_;show Out.ok (Fw.nx [some (.sc ns),some (.i a),some (.l (N.map .s)),some (.i (N.length:Int)),some (.i f),some (.l (W.map wP++[wP (o,g,n)])),x,y])=_;rw[show W.map wP++[wP (o,g,n)]=(W++[(o,g,n)]).map wP by rw[R4];rfl]
def xX(ha:0<=a)(h0:0<N.length)(h1:N.length<=12):∃W:List Wy,W.length<=N.length+8/\WS N W/\ko [.sc ns,.i a,.l (N.map .s)]=.ok (.l (W.map wP)):=by
 obtain⟨u,u0,eu⟩:=Zf (ns:=ns) (k:=a) (p:=65521) ha (by decide);obtain⟨v,v0,ev⟩:=Zf (ns:=ns) (k:=a+1) (p:=65519) (by omega) (by decide);obtain⟨r,r0,er⟩:=Zf (ns:=ns) (k:=a+2) (p:=65479) (by omega) (by decide);obtain⟨f,hf,ef⟩:=rV (xs:=[60,60,3,200000000]) (i:=u % 4) (S0 _ (by decide)) (P9 _ (by decide));have hf:1<=f/\f<=200000000:=by simp only[List.mem_cons,List.not_mem_nil,or_false]at hf;omega
 have F0:=λx:Int=>S0 x (show f≠0 by omega);have F1:=λx:Int=>P9 x (show(0:Int)<f by omega);obtain⟨W1,x1,y1,l1,g1,q1⟩:∃(W:List Wy)(x y:Ny),W.length<=N.length/\WS N W/\sIf (yH (mOp pGt (mOp zS (zj zz (zb (zc 0) (zb (mOp z1 (zc 1) (mC (.i 1))) (zb (mC (.i 65519)) zq)))) (mC (.i 3))) (mC (.i 0)))) (Xx (Q9 (zb (zc 3) zq)) vi vj) yN (wSt ns a N f [] none none)=.ok (.nx (wSt ns a N f W x y)):=by
  have t:=qK (ρ:=wSt ns a N f [] none none) (a:=Xx (Q9 (zb (zc 3) zq)) vi vj) (b:=yN) (W_ (a:=mOp zS (zj zz (zb (zc 0) (zb (mOp z1 (zc 1) (mC (.i 1))) (zb (mC (.i 65519)) zq)))) (mC (.i 3))) (n:=0) (v5 (zu (xs:=[.sc ns,.i (a+1),.i 65519]) rfl ev) (by decide)));generalize decide (v % 3>0)=d at t;cases d with
  |false=>exact⟨[],none,none,S7 _,λw hw=>(nomatch hw),t⟩
  |true=>
   obtain⟨ρ',⟨W,x,y,lW,gW,hρ⟩,e⟩:=Ja (g:=vi) (b:=vj) (λk ρ=>∃W x y,W.length=k/\WS N W/\ρ=wSt ns a N f W x y) N.length (wSt ns a N f [] none none) ⟨[],none,none,rfl,λw hw=>(nomatch hw),rfl⟩ (λk hk ρ ⟨W,x,y,lW,gW,hρ⟩=>by
    subst hρ;obtain⟨o,ho,eo⟩:=gG (xs:=N) (i:=(k:Int)) (by omega) (by omega);obtain⟨g,hg,eg⟩:=Xc (N:=N) (s:=(k:Int)+1) h0;obtain⟨s,_,es⟩:=Zf (ns:=ns) (k:=a+k) (p:=65497) (by omega) (by decide);have:=F0 s;have:=F1 s;refine⟨_,rfl,_,⟨W++[(o,g,1+s % f)],some (.i (k:Int)),y,by rw[O6,lW];rfl,gW.app ho hg (by omega) (by omega),rfl⟩,.inl (so (fP (zw (zp rfl rfl eo) (zw (zp rfl (zp (zp rfl rfl rfl) rfl (vc (by omega))) eg) (zw (zp rfl (zp (zu (xs:=[.sc ns,.i (a+k),.i 65497]) rfl es) rfl (vc (by omega))) rfl) rfl))) (S8 rfl)) (by omega))⟩)
   subst hρ;exact⟨W,x,y,by omega,gW,t.trans (vd (g7 (n:=N.length) rfl (by omega)) e)⟩
 have R0:=S0 r (show(9:Int)≠0 by decide);have R1:=P9 r (show(0:Int)<9 by decide);have er2:zb (mOp zS (zj zz (zb (zc 0) (zb (mOp z1 (zc 1) (mC (.i 2))) (zb (mC (.i 65479)) zq)))) (mC (.i 9))) zq (wSt ns a N f W1 x1 y1)=.ok [.i (r % 9)]:=zw (v5 (zu (xs:=[.sc ns,.i (a+2),.i 65479]) rfl er) (by decide)) rfl;generalize r % 9=m at R0 R1 er2;obtain⟨ρ',⟨W,x,y,lW,gW,hρ⟩,e⟩:=Ja (g:=KW) (b:=KY) (λk ρ=>∃W x y,W.length<=W1.length+k/\WS N W/\ρ=wSt ns a N f W x y) m.toNat (wSt ns a N f W1 x1 y1) ⟨W1,x1,y1,M7 _,g1,rfl⟩ (λk hk ρ ⟨W,x,y,lW,gW,hρ⟩=>by
  subst hρ;obtain⟨s,es⟩:=Y0 (ns:=ns) (k:=a+k) (by omega);obtain⟨o,ho,eo⟩:=Xc (N:=N) (s:=s) h0;obtain⟨g,hg,eg⟩:=Xc (N:=N) (s:=s / (N.length:Int)) h0;have:=F0 (s / 25);have:=F1 (s / 25);refine⟨_,rfl,_,⟨W++[(o,g,1+s / 25 % f)],some (.i (k:Int)),some (.i s),by rw[O6];show W.length+1<=_;omega,gW.app ho hg (by omega) (by omega),rfl⟩,.inl (ze ⟨wSt ns a N f W (some (.i (k:Int))) (some (.i s)),yi (zu (xs:=[.sc ns,.i (a+k)]) rfl es),so (fP (zw (zp rfl (zp rfl rfl (vc (by omega))) eo) (zw (zp rfl (zp (zp rfl rfl (A6 (by omega) (by omega))) rfl (vc (by omega))) eg) (zw (zp rfl (zp (bu rfl (by decide) (by decide)) rfl (vc (by omega))) rfl) rfl))) (S8 rfl)) (by omega)⟩)⟩)
 subst hρ;exact⟨W,by omega,gW,zY (ze ⟨_,yi (zu (xs:=[.l (N.map .s)]) rfl JO),ze ⟨_,yi (zp (Dk (xs:=[.i 60,.i 60,.i 3,.i 200000000]) rfl (S8 rfl)) (v5 (zu (xs:=[.sc ns,.i a,.i 65521]) rfl eu) (by decide)) ef),ze ⟨_,rfl,ze ⟨_,q1,ze ⟨_,vd (fh er2 R0 (by omega)) e,rfl⟩⟩⟩⟩⟩)⟩
def sr(h:m ρ=.ok (.dt L))(h1:ms ρ=.ok [.s x,.s y])(h2:md ρ=.ok (.i n)):mJ m ms md ρ=.ok (.i ((zK L [sk x,sk y]).getD n)):=by unfold mJ;rw[h,okb];show(ms ρ).bind _=_;rw[h1,okb];show(md ρ).bind (IJ L [sk x,sk y])=_;rw[h2,okb];rfl
def fX(h:ρ[i]?=some (some (.dt L)))(h1:ms ρ=.ok [.s x,.s y])(h2:mv ρ=.ok (.i n))(hl:L.length<100000):cX i ms mv ρ=.ok (.nx (ρ.set i (some (.dt (dput L [sk x,sk y] n))))):=by unfold cX;rw[h2,okb,h,h1];show(if _ then _ else _)=_;exact if_pos (N9 hl (by decide))
def i6{κ α:Type}[DecidableEq κ]{L:List (κ×α)}{k:κ}{v:α}:(dput L k v).length<=L.length+1:=by
 unfold dput;split
 .rw[u8];omega
 .rw[O6];exact M7 _
def Gz:([sk a,sk b]=[sk c,sk d])↔(a=c/\b=d):=by
 constructor
 .intro h;injection h with h1 h2
  injection h2 with h2 _
  exact⟨a0w h1,a0w h2⟩
 .rintro ⟨rfl,rfl⟩;rfl
inductive WkM(N:MD)(W:List Wy)(M:MD):Str->Str->Int->Prop
 |nil {a}:a∈N->WkM N W M a a 0
 |edge {w:Wy}:w∈W->WkM N W M w.1 w.2.1 w.2.2
 |via {a m b u v}:m∈M->WkM N W M a m u->WkM N W M m b v->WkM N W M a b (u+v)
section
variable {N M:MD}{W:List Wy}{L L' L0:Lst}{a b m:Str}{u v:Int}
def WkM.nn(hW:WS N W)(h:WkM N W M a b v):0<=v:=by
 induction h with
 |nil _=>exact a0H _
 |edge hw=>have:=(hW _ hw).2.2.1;omega
 |via _ _ _ i j=>omega
def WkM.ends(hW:WS N W)(h:WkM N W M a b v):a∈N/\b∈N:=by
 induction h with
 |nil h=>exact⟨h,h⟩
 |edge hw=>exact⟨(hW _ hw).1,(hW _ hw).2.1⟩
 |via _ _ _ i j=>exact⟨i.1,j.2⟩
def WkM.split(hM:∀z∈M',z∈M\/z=x)(hW:WS N W)(h:WkM N W M' a b v):(∃u,u<=v/\WkM N W M a b u)\/∃s t,s+t<=v/\WkM N W M a x s/\WkM N W M x b t:=by
 induction h with
 |nil h=>exact .inl ⟨_,a0H _,.nil h⟩
 |edge hw=>exact .inl ⟨_,a0H _,.edge hw⟩
 |via hm _ _ i j=>
  rcases hM _ hm with hm|rfl
  .rcases i with⟨u1,l1,w1⟩|⟨s1,t1,l1,p1,q1⟩<;>rcases j with⟨u2,l2,w2⟩|⟨s2,t2,l2,p2,q2⟩
   .exact .inl ⟨_,by omega,.via hm w1 w2⟩
   .exact .inr ⟨_,_,by omega,.via hm w1 p2,q2⟩
   .exact .inr ⟨_,_,by omega,p1,.via hm q1 w2⟩
   .have:=q1.nn hW;have:=p2.nn hW;exact .inr ⟨_,_,by omega,p1,q2⟩
  .rcases i with⟨u1,l1,w1⟩|⟨s1,t1,l1,p1,q1⟩<;>rcases j with⟨u2,l2,w2⟩|⟨s2,t2,l2,p2,q2⟩
   .exact .inr ⟨_,_,by omega,w1,w2⟩
   .have:=p2.nn hW;exact .inr ⟨_,_,by omega,w1,q2⟩
   .have:=q1.nn hW;exact .inr ⟨_,_,by omega,p1,w2⟩
   .have:=q1.nn hW;have:=p2.nn hW;exact .inr ⟨_,_,by omega,p1,q2⟩
def at2(L:Lst)(a b:Str):Option Int:=zK L [sk a,sk b]
def Snd(N:MD)(W:List Wy)(L:Lst):Prop:=∀a b v,at2 L a b=some v->WkM N W N a b v
def yB(L:Lst)(a b:Str)(v:Int):Prop:=∃u,u<=v/\at2 L a b=some u
def Dwn(L L':Lst):Prop:=∀a b v,at2 L a b=some v->yB L' a b v
def Cmp(N:MD)(W:List Wy)(M:MD)(L:Lst):Prop:=∀a b v,WkM N W M a b v->yB L a b v
def Dwn.refl:Dwn L L:=λ_ _ v h=>⟨v,a0H _,h⟩
def yB.dwn(h:yB L a b v)(d:Dwn L L'):yB L' a b v:=by obtain⟨u,l,e⟩:=h;obtain⟨w,l',e'⟩:=d _ _ _ e;exact⟨w,by omega,e'⟩
def Dwn.trans(d:Dwn L L')(d':Dwn L' L''):Dwn L L'':=λa b v h=>(d a b v h).dwn d'
def xY(L:Lst)(a b:Str)(v:Int):Lst:=dput L [sk a,sk b] (min v ((zK L [sk a,sk b]).getD v))
def Xe:at2 (dput L [sk a,sk b] v) c d=if a=c/\b=d then some v else at2 L c d:=by
 unfold at2;rw[vf];by_cases h:a=c/\b=d
 .rw[if_pos h,if_pos (Gz.mpr h)]
 .rw[if_neg h,if_neg λe=>h (Gz.mp e)]
def bz:Dwn L (xY L a b v):=λc d w h=>by
 unfold xY yB;rw[Xe];by_cases q:a=c/\b=d
 .obtain⟨rfl,rfl⟩:=q;rw[if_pos ⟨rfl,rfl⟩];unfold at2 at h;rw[h];exact⟨_,Int.min_le_right _ _,rfl⟩
 .rw[if_neg q];exact⟨w,a0H _,h⟩
def sv:yB (xY L a b v) a b v:=by unfold xY yB;rw[Xe,if_pos ⟨rfl,rfl⟩];exact⟨_,Int.min_le_left _ _,rfl⟩
def i7(h:Snd N W L)(hw:WkM N W N a b v):Snd N W (xY L a b v):=λc d w e=>by
 unfold xY at e;rw[Xe]at e;split at e
 .rename_i q;obtain⟨rfl,rfl⟩:=q;cases e;cases hq:zK L [sk a,sk b]with
  |none=>rw[Option.getD_none,Int.min_self];exact hw
  |some x=>
   rw[Option.getD_some];rcases Int.le_total v x with l|l
   .rw[Int.min_eq_left l];exact hw
   .rw[Int.min_eq_right l];exact h _ _ _ hq
 .exact h _ _ _ e
def i8:(xY L a b v).length<=L.length+1:=i6
abbrev lSt(N:MD)(W:List Wy)(L:Lst)(p q r s t z:Ny):Sto:=[some (.l (N.map .s)),some (.l (W.map wP)),some (.dt L),p,q,r,s,t,z]
variable {p q r s t z:Ny}
def IS(hl:N.length<=12):∃L p,L.length<=N.length/\Snd N W L/\(∀x∈N,yB L x x 0)/\KI kK kL (N.map .s) (lSt N W [] none q r s t z)=.ok (.nx (lSt N W L p q r s t z)):=by
 obtain⟨ρ',⟨L,p,l,hs,hc,rfl⟩,e⟩:=Ke (g:=kK) (b:=kL) PV.s (λk ρ=>∃L p,L.length<=k/\Snd N W L/\(∀x∈N.take k,yB L x x 0)/\ρ=lSt N W L p q r s t z) N (lSt N W [] none q r s t z) ⟨[],none,M7 _,λ_ _ _ e=>(nomatch(show(none:Nx)=some _ from e)),λx hx=>(nomatch hx),rfl⟩ (λk hk ρ ⟨L,p,l,hs,hc,hρ⟩=>by
  subst hρ;refine⟨_,rfl,_,⟨dput L [sk N[k],sk N[k]] 0,some (.s N[k]),P7 i6 (by omega),λc d w e=>?_,λx hx=>?_,rfl⟩,.inl (fX rfl rfl rfl (by omega))⟩
  .rw[Xe]at e;split at e
   .rename_i h;obtain⟨rfl,rfl⟩:=h;cases e;exact .nil (a0t _)
   .exact hs _ _ _ e
  .unfold yB;rw[Xe];by_cases h:N[k]=x/\N[k]=x
   .rw[if_pos h];exact⟨0,a0H _,rfl⟩
   .rw[if_neg h];rw[a0d hk]at hx;rcases R9.mp hx with hx|hx
    .exact hc x hx
    .have:=O7.mp hx;exact absurd ⟨this.symm,this.symm⟩ h)
 exact⟨L,p,l,hs,λx hx=>hc x (by rw[a0E];exact hx),e⟩
def IT(hl:L0.length<=12)(hW:W.length<=60)(h0:Snd N W L0):∃L q r s,L.length<=L0.length+W.length/\Snd N W L/\Dwn L0 L/\(∀w∈W,yB L w.1 w.2.1 w.2.2)/\KI kM kN (W.map wP) (lSt N W L0 p none none none t z)=.ok (.nx (lSt N W L p q r s t z)):=by
 obtain⟨ρ',⟨L,q,r,s,l,hs,hd,hc,rfl⟩,e⟩:=Ke (g:=kM) (b:=kN) wP (λk ρ=>∃L q r s,L.length<=L0.length+k/\Snd N W L/\Dwn L0 L/\(∀w∈W.take k,yB L w.1 w.2.1 w.2.2)/\ρ=lSt N W L p q r s t z) W (lSt N W L0 p none none none t z) ⟨L0,none,none,none,M7 _,h0,Dwn.refl,λx hx=>(nomatch hx),rfl⟩ (λk hk ρ ⟨L,q,r,s,l,hs,hd,hc,hρ⟩=>by
  subst hρ;refine⟨_,rfl,_,⟨xY L W[k].1 W[k].2.1 W[k].2.2,some (.s W[k].1),some (.s W[k].2.1),some (.i W[k].2.2),P7 i8 (by omega),i7 hs (.edge (a0t _)),hd.trans bz,λx hx=>?_,rfl⟩,.inl (fX rfl rfl (zu (zw rfl (zw (sr rfl rfl rfl) rfl)) rfl) (by omega))⟩;rw[a0d hk]at hx;rcases R9.mp hx with hx|hx
  .exact(hc x hx).dwn bz
  .rw[O7.mp hx];exact sv)
 exact⟨L,q,r,s,l,hs,hd,λx hx=>hc x (by rw[a0E];exact hx),e⟩
end
section
variable {N M:MD}{W:List Wy}{L L' L0:Lst}{a b m:Str}{u v:Int}{p q r s t z:Ny}
def DB(h:Snd N W L)(hm:m∈N)(hl:L.length<100000):∃L' z',L'.length<=L.length+1/\Snd N W L'/\Dwn L L'/\(∀x y,yB L a m x->yB L m b y->yB L' a b (x+y))/\je (lSt N W L p (some (.s a)) (some (.s b)) s (some (.s m)) z)=.ok (.nx (lSt N W L' p (some (.s a)) (some (.s b)) s (some (.s m)) z')):=by
 have e:=qK (ρ:=lSt N W L p (some (.s a)) (some (.s b)) s (some (.s m)) z) (a:=yh (y_ 8 (mOp z1 (rg (zc 2) (zb (zc 4) (zb (zc 7) zq))) (rg (zc 2) (zb (zc 7) (zb (zc 5) zq))))) (cX 2 (zb (zc 4) (zb (zc 5) zq)) (zj aj (zb (zc 8) (zb (mJ (zc 2) (zb (zc 4) (zb (zc 5) zq)) (zc 8)) zq))))) (b:=yN) (JL (dy (n:=false) (ms:=zb (zc 4) (zb (zc 7) zq)) (m:=zc 2) (x:=a) (y:=m) (L:=L) rfl rfl) (dy (n:=false) (ms:=zb (zc 7) (zb (zc 5) zq)) (m:=zc 2) (x:=m) (y:=b) (L:=L) rfl rfl));cases e1:zK L [sk a,sk m]with
 |none=>rw[e1]at e;exact⟨L,z,a0x _,h,Dwn.refl,λx y ⟨_,_,q⟩ _=>(nomatch(e1.symm.trans q)),e⟩
 |some x=>
  cases e2:zK L [sk m,sk b]with
  |none=>rw[e1,e2]at e;exact⟨L,z,a0x _,h,Dwn.refl,λx y _ ⟨_,_,q⟩=>(nomatch(e2.symm.trans q)),e⟩
  |some y=>rw[e1,e2]at e;refine⟨xY L a b (x+y),some (.i (x+y)),i8,i7 h (.via hm (h _ _ _ e1) (h _ _ _ e2)),bz,λx' y' ⟨x1,l1,q1⟩ ⟨y1,l2,q2⟩=>?_,e.trans (ze ⟨lSt N W L p (some (.s a)) (some (.s b)) s (some (.s m)) (some (.i (x+y))),yi (zp (dz rfl rfl e1) (dz rfl rfl e2) rfl),fX rfl rfl (zu (zw rfl (zw (sr rfl rfl rfl) rfl)) rfl) hl⟩)⟩;obtain⟨w,lw,ew⟩:=sv (L:=L) (a:=a) (b:=b) (v:=x+y);cases(e1.symm.trans q1:some x=some x1);cases(e2.symm.trans q2:some y=some y1);exact⟨w,by omega,ew⟩
def IU(h0:Snd N W L0)(hm:m∈N)(hn:N.length<=12)(hl:L0.length<=10000):∃L r' z',L.length<=L0.length+N.length/\Snd N W L/\Dwn L0 L/\(∀b∈N,∀x y,yB L0 a m x->yB L0 m b y->yB L a b (x+y))/\KI kO je (N.map .s) (lSt N W L0 p (some (.s a)) r s (some (.s m)) z)=.ok (.nx (lSt N W L p (some (.s a)) r' s (some (.s m)) z')):=by
 obtain⟨ρ',⟨L,r',z',l,hs,hd,hc,rfl⟩,e⟩:=Ke (g:=kO) (b:=je) PV.s (λk ρ=>∃L r' z',L.length<=L0.length+k/\Snd N W L/\Dwn L0 L/\(∀b∈N.take k,∀x y,yB L0 a m x->yB L0 m b y->yB L a b (x+y))/\ρ=lSt N W L p (some (.s a)) r' s (some (.s m)) z') N (lSt N W L0 p (some (.s a)) r s (some (.s m)) z) ⟨L0,r,z,M7 _,h0,Dwn.refl,λx hx=>(nomatch hx),rfl⟩ (λk hk ρ ⟨L,r',z',l,hs,hd,hc,hρ⟩=>by
  subst hρ;obtain⟨L2,z2,l2,s2,d2,c2,e2⟩:=DB (a:=a) (b:=N[k]) (p:=p) (s:=s) (z:=z') hs hm (by omega);refine⟨_,rfl,_,⟨L2,some (.s N[k]),z2,by omega,s2,hd.trans d2,λb hb x y hx hy=>?_,rfl⟩,.inl e2⟩;rw[a0d hk]at hb;rcases R9.mp hb with hb|hb
  .exact(hc b hb x y hx hy).dwn d2
  .rw[O7.mp hb]at hy ⊢;exact c2 x y (hx.dwn hd) (hy.dwn hd))
 exact⟨L,r',z',l,hs,hd,λx hx=>hc x (by rw[a0E];exact hx),e⟩
def IV(h0:Snd N W L0)(hm:m∈N)(hn:N.length<=12)(hl:L0.length<=5000):∃L q' r' z',L.length<=L0.length+N.length*12/\Snd N W L/\Dwn L0 L/\(∀a∈N,∀b∈N,∀x y,yB L0 a m x->yB L0 m b y->yB L a b (x+y))/\KI kQ kR (N.map .s) (lSt N W L0 p q r s (some (.s m)) z)=.ok (.nx (lSt N W L p q' r' s (some (.s m)) z')):=by
 obtain⟨ρ',⟨L,q',r',z',l,hs,hd,hc,rfl⟩,e⟩:=Ke (g:=kQ) (b:=kR) PV.s (λk ρ=>∃L q' r' z',L.length<=L0.length+k*12/\Snd N W L/\Dwn L0 L/\(∀a∈N.take k,∀b∈N,∀x y,yB L0 a m x->yB L0 m b y->yB L a b (x+y))/\ρ=lSt N W L p q' r' s (some (.s m)) z') N (lSt N W L0 p q r s (some (.s m)) z) ⟨L0,q,r,z,M7 _,h0,Dwn.refl,λx hx=>(nomatch hx),rfl⟩ (λk hk ρ ⟨L,q',r',z',l,hs,hd,hc,hρ⟩=>by
  subst hρ;obtain⟨L2,r2,z2,l2,s2,d2,c2,e2⟩:=IU (a:=N[k]) (p:=p) (r:=r') (s:=s) (z:=z') hs hm hn (by omega);refine⟨_,rfl,_,⟨L2,some (.s N[k]),r2,z2,by omega,s2,hd.trans d2,λa ha b hb x y hx hy=>?_,rfl⟩,.inl (vd (yo rfl) e2)⟩;rw[a0d hk]at ha;rcases R9.mp ha with ha|ha
  .exact(hc a ha b hb x y hx hy).dwn d2
  .rw[O7.mp ha]at hx ⊢;exact c2 b hb x y (hx.dwn hd) (hy.dwn hd))
 exact⟨L,q',r',z',l,hs,hd,λx hx=>hc x (by rw[a0E];exact hx),e⟩
def IW(h0:Snd N W L0)(hW:WS N W)(hn:N.length<=12)(hl:L0.length<=100)(h1:Cmp N W [] L0):∃L q' r' t' z',L.length<=5000/\Snd N W L/\Cmp N W N L/\KI kT kU (N.map .s) (lSt N W L0 p q r s t z)=.ok (.nx (lSt N W L p q' r' s t' z')):=by
 obtain⟨ρ',⟨L,q',r',t',z',l,hs,hc,rfl⟩,e⟩:=Ke (g:=kT) (b:=kU) PV.s (λk ρ=>∃L q' r' t' z',L.length<=100+k*144/\Snd N W L/\Cmp N W (N.take k) L/\ρ=lSt N W L p q' r' s t' z') N (lSt N W L0 p q r s t z) ⟨L0,q,r,t,z,by omega,h0,h1,rfl⟩ (λk hk ρ ⟨L,q',r',t',z',l,hs,hc,hρ⟩=>by
  subst hρ;obtain⟨L2,q2,r2,z2,l2,s2,d2,c2,e2⟩:=IV (m:=N[k]) (p:=p) (q:=q') (r:=r') (s:=s) (z:=z') hs (a0t _) hn (by omega);refine⟨_,rfl,_,⟨L2,q2,r2,some (.s N[k]),z2,by omega,s2,λa b v h=>?_,rfl⟩,.inl (vd (yo rfl) e2)⟩;obtain⟨ha,hb⟩:=h.ends hW;rw[a0d hk]at h;rcases h.split (M:=N.take k) (x:=N[k]) (λz hz=>(R9.mp hz).imp id O7.mp) hW with⟨u,lu,w⟩|⟨s',t',le,w1,w2⟩
  .obtain⟨u',lu',e'⟩:=(hc _ _ _ w).dwn d2;exact⟨u',by omega,e'⟩
  .obtain⟨u',lu',e'⟩:=c2 a ha b hb s' t' (hc _ _ _ w1) (hc _ _ _ w2);exact⟨u',by omega,e'⟩)
 rw[a0E]at hc;exact⟨L,q',r',t',z',by omega,hs,hc,e⟩
def LOk(N:MD)(L:Lst)(F:Str->Ht):Prop:=(∀a∈N,∀b∈N,zK L [sk a,sk b]=zK (F a) (sk b))
def dD(hW:WS N W)(g:Xa o W F)(h:WkM N W N a b v):∀x,zK F (sk a)=some x->∃y,y<=x+v/\zK F (sk b)=some y:=by
 induction h with
 |nil _=>intro x e;exact⟨x,by omega,e⟩
 |edge hw=>intro x e;obtain⟨y,e',l⟩:=g.2 _ hw x e;exact⟨y,l,e'⟩
 |via _ _ _ i j=>intro x e;obtain⟨y,l,e'⟩:=i x e;obtain⟨y',l',e''⟩:=j y e';exact⟨y',by omega,e''⟩
def Xf(hW:WS N W)(g:Xa o W F)(ho:o∈N):∀(n:Nat){z:Str}{y:Int},y.toNat<=n->zK F (sk z)=some y->WkM N W N o z y:=by
 intro n
 induction n with
 |zero=>
  intro z y hn e;by_cases hz:z=o
  .subst hz;cases(g.1.own.symm.trans e);exact .nil ho
  .obtain⟨w,hw,_,x,ex,exy⟩:=g.Dx e hz;have:=(hW w hw).2.2.1;have:=g.1.pos _ _ ex;omega
 |succ n ih=>
  intro z y hn e;by_cases hz:z=o
  .subst hz;cases(g.1.own.symm.trans e);exact .nil ho
  .obtain⟨w,hw,rfl,x,ex,exy⟩:=g.Dx e hz;have h1:=hW w hw;have:=g.1.pos _ _ ex;rw[<- exy];exact .via h1.1 (ih (by omega) ex) (.edge hw)
def Xg(hW:WS N W)(hn:N.length<=12)(hl:W.length<=60)(gF:∀z,Xa z W (F z)):∃L,LOk N L F/\yR [.l (N.map .s),.l (W.map wP)]=.ok (.dt L):=by
 obtain⟨L1,p1,a1,s1,n1,e1⟩:=IS (N:=N) (W:=W) (q:=none) (r:=none) (s:=none) (t:=none) (z:=none) hn;obtain⟨L2,q2,r2,s2',a2,s2,d2,n2,e2⟩:=IT (N:=N) (W:=W) (L0:=L1) (p:=p1) (t:=none) (z:=none) (by omega) hl s1;have c0:Cmp N W [] L2:=λa b v h=>by
  cases h with
  |nil h=>exact(n1 _ h).dwn d2
  |edge hw=>exact n2 _ hw
  |via h _ _=>cases h
 obtain⟨L,q3,r3,t3,z3,_,s3,c3,e3⟩:=IW (p:=p1) (q:=q2) (r:=r2) (s:=s2') (t:=none) (z:=none) s2 hW hn (by omega) c0;refine⟨L,λa ha b hb=>?_,zY (ze ⟨_,rfl,ze ⟨_,vd (yo rfl) e1,ze ⟨_,vd (yo rfl) e2,ze ⟨_,vd (yo rfl) e3,rfl⟩⟩⟩⟩)⟩;cases e:zK L [sk a,sk b]with
 |none=>
  cases e':zK (F a) (sk b)with
  |none=>rfl
  |some y=>obtain⟨u,_,q⟩:=c3 _ _ _ (Xf hW (gF a) ha _ (M7 _) e');cases(e.symm.trans q)
 |some v=>obtain⟨y,l,e'⟩:=dD hW (gF a) (s3 _ _ _ e) 0 (gF a).1.own;obtain⟨u,l',q⟩:=c3 _ _ _ (Xf hW (gF a) ha _ (M7 _) e');cases(e.symm.trans q);rw[e',show y=v by omega]
def below(h:Ht)(y:Int):Nat:=(h.filter λp=>decide (p.2<y)).length
def i9{x y:Int}(l:x<=y):∀{h:Ht},below h x<=below h y
 |[]=>M7 _
 |p::h=>by
  have i:=i9 l (h:=h);unfold below at i ⊢;rw[a0F,a0F];by_cases c:p.2<x
  .rw[if_pos (O0 c),if_pos (O0 (show p.2<y by omega))];exact a1e i
  .rw[if_neg (by rw[N8 c];decide)];split
   .exact a1s i
   .exact i
def i_{x y:Int}(l:x<y):∀{h:Ht}{k:Key},(k,x)∈h->below h x+1<=below h y
 |[],_,e=>by cases e
 |p::h,k,e=>by
  unfold below;rw[a0F,a0F];rcases O5.mp e with e|e
  .subst e;rw[if_neg (by rw[N8 (show ¬x<x by omega)];decide),if_pos (O0 l)];exact a1e (i9 (Int.le_of_lt l))
  .have i:=i_ l e;unfold below at i;by_cases c:p.2<x
   .rw[if_pos (O0 c),if_pos (O0 (show p.2<y by omega))];exact a1e i
   .rw[if_neg (by rw[N8 c];decide)];split
    .exact a1s i
    .exact i
def dE{y:Int}:∀{h:Ht}{k:Key},(k,y)∈h->below h y+1<=h.length
 |[],_,e=>by cases e
 |p::h,k,e=>by
  unfold below;rw[a0F];rcases O5.mp e with e|e
  .subst e;rw[if_neg (by rw[N8 (show ¬y<y by omega)];decide),v4];exact a1e (a2A _ _)
  .have i:=dE e;unfold below at i;split
   .exact a1e i
   .exact a1s i
def dF(hW:WS N W)(g:Xa o W F):∀(n:Nat){z:Str}{y:Int},y.toNat<=n->zK F (sk z)=some y->y<=200000000*(below F y:Int):=by
 intro n
 induction n with
 |zero=>intro z y hn e;have:=g.1.pos _ _ e;omega
 |succ n ih=>
  intro z y hn e;by_cases hz:z=o
  .subst hz;cases(g.1.own.symm.trans e);omega
  .obtain⟨w,hw,rfl,x,ex,exy⟩:=g.Dx e hz;have h1:=hW w hw;have:=g.1.pos _ _ ex;have i:=ih (y:=x) (by omega) ex;have j:=i_ (x:=x) (y:=y) (by omega) (wU ex);omega
def mZ{F:Ht}{o:Str}(hW:WS N W)(g:Xa o W F)(ho:o∈N){z:Str}{y:Int}(e:zK F (sk z)=some y):0<=y/\y+200000000<=200000000*(N.length:Int):=by
 have a:=dF hW g _ (M7 _) e;have b:=dE (wU e);have c:F.length<=N.length:=by
  have:=JN (a:=F.map (·.1)) (b:=N.map sk) g.1.nd (λk hk=>by
   rcases O5.mp (g.1.sub k hk)with rfl|hk
   .exact S9 ho
   .obtain⟨w,hw,rfl⟩:=a0a.mp hk;exact S9 (hW w hw).2.1)
  rw[u8,u8]at this;exact this
 have:=g.1.pos _ _ e;omega
end
abbrev Tp:=Str×Str×Str×Int×Int×Int
def tP(t:Tp):PV:=.t [.s t.1,.s t.2.1,.s t.2.2.1,.i t.2.2.2.1,.i t.2.2.2.2.1,.i t.2.2.2.2.2]
structure TOk(N:MD)(F:Str->Ht)(t:Tp):Prop where
 org:t.2.1∈N
 goal:t.2.2.1∈N
 len:∃y,zK (F t.2.1) (sk t.2.2.1)=some y/\y<=t.2.2.2.2.1-t.2.2.2.1
 st:0<=t.2.2.2.1
 fw:t.2.2.2.1<t.2.2.2.2.1
 fin:t.2.2.2.2.1<=1000000000
 Mw:0<=t.2.2.2.2.2/\t.2.2.2.2.2<=1000000000
def aP:Option Tp->PV
 |none=>.n
 |some t=>tP t
abbrev tSt(ns:Nc)(a:Int)(nm:Str)(P:MD)(L:Lst)(ah:Option Tp)(r:Sto):Sto:=[some (.sc ns),some (.i a),some (.s nm),some (.l (P.map .s)),some (.dt L),some (aP ah)]++r
def DC(ha:0<=a)(h0:0<P.length)(hL:LOk P L F)(hF:∀o∈P,∀z y,zK (F o) (sk z)=some y->0<=y/\y<=800000000)(hO:∀o∈P,zK (F o) (sk o)=some 0)(hA:∀t,ah=some t->TOk P F t):∃t,t.1=nm/\TOk P F t/\jA [.sc ns,.i a,.s nm,.l (P.map .s),.dt L,aP ah]=.ok (tP t):=by
 obtain⟨c1,e1⟩:=Y0 (ns:=ns) (k:=a) ha;obtain⟨c2,e2⟩:=Y0 (ns:=ns) (k:=a+1) (by omega);obtain⟨c3,e3⟩:=Y0 (ns:=ns) (k:=a+2) (by omega);obtain⟨o,ho,eo⟩:=Xc (N:=P) (s:=c1) h0;obtain⟨g0,hg0,eg0⟩:=Xc (N:=P) (s:=c1 / 5) h0;obtain⟨g,y,hg,ey,q10⟩:∃g y,g∈P/\zK L [sk o,sk g]=some y/\sIf (yH (nv true (zb (zc 9) (zb (zc 10) zq)) (zc 4))) (y_ 10 (zc 9)) yN (tSt ns a nm P L ah [some (.i c1),some (.i c2),some (.i c3),some (.s o),some (.s g0),none,none,none])=.ok (.nx (tSt ns a nm P L ah [some (.i c1),some (.i c2),some (.i c3),some (.s o),some (.s g),none,none,none])):=by
  have t:=qK (ρ:=tSt ns a nm P L ah [some (.i c1),some (.i c2),some (.i c3),some (.s o),some (.s g0),none,none,none]) (a:=y_ 10 (zc 9)) (b:=yN) (dy (n:=true) (ms:=zb (zc 9) (zb (zc 10) zq)) (m:=zc 4) (x:=o) (y:=g0) (L:=L) rfl rfl);cases e:zK L [sk o,sk g0]with
  |none=>rw[e]at t;exact⟨o,0,ho,(hL o ho o ho).trans (hO o ho),t⟩
  |some y=>rw[e]at t;exact⟨g0,y,hg0,e,t⟩
 have ey':=(hL o ho g hg).symm.trans ey;have yb:=hF o ho g y ey';obtain⟨mo,hmo,emo⟩:=rV (xs:=[0,c3 % 60,c2 % 7,c3 % 100000000]) (i:=c1 / 25 % 4) (S0 _ (by decide)) (P9 _ (by decide));have mb:0<=mo/\mo<100000000:=by simp only[List.mem_cons,List.not_mem_nil,or_false]at hmo;omega
 have kb:1<=max 1 (y+mo)/\y<=max 1 (y+mo)/\max 1 (y+mo)<=900000000:=by omega
 obtain⟨s0,hs0,es0⟩:=rV (xs:=[c2 % 1440,c2 % 200,c2 % 1000000000]) (i:=c1 / 100 % 3) (S0 _ (by decide)) (P9 _ (by decide));have sb:0<=s0:=by simp only[List.mem_cons,List.not_mem_nil,or_false]at hs0;omega
 obtain⟨s1,s1b,q14⟩:∃s1:Int,0<=s1/\sIf (d9 (yH (mOp (Vo false) (mOp zS (mOp kg (zc 6) (mC (.i 300))) (mC (.i 2))) (mC (.i 1)))) (d9 (yH (mOp (uD true) (zc 5) (mC .n))) (yH (nv false (zb (mOp pIx (zc 5) (mC (.i 2))) (zb (zc 9) zq)) (zc 4))))) (y_ 13 (mOp oE (mOp z1 (mOp z1 (mOp pIx (zc 5) (mC (.i 4))) (rg (zc 4) (zb (mOp pIx (zc 5) (mC (.i 2))) (zb (zc 9) zq)))) (mOp zS (zc 7) (mC (.i 3)))) (mC (.i 1)))) yN (tSt ns a nm P L ah [some (.i c1),some (.i c2),some (.i c3),some (.s o),some (.s g),some (.i mo),some (.i (max 1 (y+mo))),some (.i s0)])=.ok (.nx (tSt ns a nm P L ah [some (.i c1),some (.i c2),some (.i c3),some (.s o),some (.s g),some (.i mo),some (.i (max 1 (y+mo))),some (.i s1)])):=by
  have d1:=iN (ρ:=tSt ns a nm P L ah [some (.i c1),some (.i c2),some (.i c3),some (.s o),some (.s g),some (.i mo),some (.i (max 1 (y+mo))),some (.i s0)]) (a:=mOp zS (mOp kg (zc 6) (mC (.i 300))) (mC (.i 2))) (n:=1) (Dl rfl (by decide) (by decide) (by decide));generalize decide (c1 / 300 % 2=1)=d at d1;cases d with
  |false=>exact⟨s0,sb,qK (fQ d1)⟩
  |true=>
   cases ah with
   |none=>exact⟨s0,sb,qK (JL d1 (fQ rfl))⟩
   |some t=>
    have T:=hA t rfl;have i1:=dy (n:=false) (ms:=zb (mOp pIx (zc 5) (mC (.i 2))) (zb (zc 9) zq)) (m:=zc 4) (x:=t.2.2.1) (y:=o) (L:=L) (ρ:=tSt ns a nm P L (some t) [some (.i c1),some (.i c2),some (.i c3),some (.s o),some (.s g),some (.i mo),some (.i (max 1 (y+mo))),some (.i s0)]) rfl rfl;cases e:zK L [sk t.2.2.1,sk o]with
    |none=>rw[e]at i1;exact⟨s0,sb,qK (JL d1 (JL (x:=true) rfl i1))⟩
    |some v=>rw[e]at i1;have vb:=hF _ T.goal o v ((hL _ T.goal o ho).symm.trans e);have:=T.fw;have:=T.st;exact⟨t.2.2.2.2.1+v+c2 % 3-1,by omega,(qK (JL d1 (JL (x:=true) rfl i1))).trans (yi (zp (zp (zp (x:=.i t.2.2.2.2.1) rfl (dz rfl rfl e) rfl) (v5 rfl (by decide)) rfl) rfl rfl))⟩
 have s2b:0<=min s1 (1000000000-(max 1 (y+mo)))/\min s1 (1000000000-(max 1 (y+mo)))+(max 1 (y+mo))<=1000000000:=by omega
 refine⟨(nm,o,g,(min s1 (1000000000-(max 1 (y+mo)))),(min s1 (1000000000-(max 1 (y+mo))))+(max 1 (y+mo)),c3 / 7 % 1000000001),rfl,⟨ho,hg,⟨y,ey',by show y<=(min s1 (1000000000-(max 1 (y+mo))))+(max 1 (y+mo))-(min s1 (1000000000-(max 1 (y+mo))));omega⟩,s2b.1,by show(min s1 (1000000000-(max 1 (y+mo))))<(min s1 (1000000000-(max 1 (y+mo))))+(max 1 (y+mo));omega,s2b.2,⟨S0 _ (by decide),by have:=P9 (c3 / 7) (show(0:Int)<1000000001 by decide);show c3 / 7 % 1000000001<=1000000000;omega⟩⟩,zY (ze ⟨_,yi (zu (xs:=[.sc ns,.i a]) rfl e1),ze ⟨_,yi (zu (xs:=[.sc ns,.i (a+1)]) rfl e2),ze ⟨_,yi (zu (xs:=[.sc ns,.i (a+2)]) rfl e3),ze ⟨_,yi (zp rfl (zp rfl (zu (xs:=[.l (P.map .s)]) rfl JO) (vc (by omega))) eo),ze ⟨_,yi (zp rfl (zp (bu rfl (by decide) (by decide)) (zu (xs:=[.l (P.map .s)]) rfl JO) (vc (by omega))) eg0),ze ⟨_,q10,ze ⟨_,yi (zp (Dk (zw rfl (zw (v5 rfl (by decide)) (zw (v5 rfl (by decide)) (zw (zp (y:=.i 100000000) rfl rfl (vc (by decide))) rfl)))) (S8 rfl)) (Dl rfl (by decide) (by decide) (by decide)) emo),ze ⟨_,yi (zu (zw rfl (zw (zp (dz rfl rfl ey) rfl rfl) rfl)) rfl),ze ⟨_,yi (zp (Dk (zw (v5 rfl (by decide)) (zw (v5 rfl (by decide)) (zw (zp (y:=.i 1000000000) rfl rfl (vc (by decide))) rfl))) (S8 rfl)) (Dl rfl (by decide) (by decide) (by decide)) es0),ze ⟨_,q14,ze ⟨_,yi (zu (zw rfl (zw (zp (x:=.i 1000000000) rfl rfl rfl) rfl)) rfl),JM (fP (zw rfl (zw rfl (zw rfl (zw rfl (zw (zp rfl rfl rfl) (zw (zp (bu rfl (by decide) (by decide)) (y:=.i 1000000001) rfl (vc (by decide))) rfl)))))) (S8 rfl))⟩⟩⟩⟩⟩⟩⟩⟩⟩⟩⟩)⟩
def xZ(ha:0<=a)(hQ:Q.length<=100)(h0:0<P.length)(hL:LOk P L F)(hF:∀o∈P,∀z y,zK (F o) (sk z)=some y->0<=y/\y<=800000000)(hO:∀o∈P,zK (F o) (sk o)=some 0):∃T:List Tp,T.map (·.1)=Q/\(∀t∈T,TOk P F t)/\jB [.sc ns,.i a,.l (Q.map .s),.l (P.map .s),.dt L]=.ok (.l (T.map tP)):=by
 obtain⟨ρ',⟨T,x,y,hT,gT,hρ⟩,e⟩:=Ja (g:=Jy) (b:=Jz) (λk ρ=>∃(T:List Tp)(x y:Ny),T.map (·.1)=Q.take k/\(∀t∈T,TOk P F t)/\ρ=[some (.sc ns),some (.i a),some (.l (Q.map .s)),some (.l (P.map .s)),some (.dt L),some (.l (T.map tP)),x,y]) Q.length [some (.sc ns),some (.i a),some (.l (Q.map .s)),some (.l (P.map .s)),some (.dt L),some (.l []),none,none] ⟨[],none,none,rfl,λx hx=>(nomatch hx),rfl⟩ (λk hk ρ ⟨T,x,y,hT,gT,hρ⟩=>by
  subst hρ;have lT:T.length=k:=by have:=T6 List.length hT;rw[u8,a0c]at this;omega
  obtain⟨ah,hA,q⟩:∃ah:Option Tp,(∀t,ah=some t->TOk P F t)/\sIf (yH (mOp pGt (zc 6) (mC (.i 0)))) (y_ 7 (mOp pIx (zc 5) (mOp zS (zj zz (zb (zc 0) (zb (mOp z1 (mOp z1 (zc 1) (mOp Y2 (mC (.i 3)) (zc 6))) (mC (.i 1))) (zb (mC (.i 65479)) zq)))) (zc 6)))) yN [some (.sc ns),some (.i a),some (.l (Q.map .s)),some (.l (P.map .s)),some (.dt L),some (.l (T.map tP)),some (.i (k:Int)),some .n]=.ok (.nx [some (.sc ns),some (.i a),some (.l (Q.map .s)),some (.l (P.map .s)),some (.dt L),some (.l (T.map tP)),some (.i (k:Int)),some (aP ah)]):=by
   have t:=qK (ρ:=[some (.sc ns),some (.i a),some (.l (Q.map .s)),some (.l (P.map .s)),some (.dt L),some (.l (T.map tP)),some (.i (k:Int)),some .n]) (a:=y_ 7 (mOp pIx (zc 5) (mOp zS (zj zz (zb (zc 0) (zb (mOp z1 (mOp z1 (zc 1) (mOp Y2 (mC (.i 3)) (zc 6))) (mC (.i 1))) (zb (mC (.i 65479)) zq)))) (zc 6)))) (b:=yN) (W_ (a:=zc 6) (x:=(k:Int)) (n:=0) rfl);by_cases c:(k:Int)>0
   .rw[O0 c]at t;obtain⟨s,_,es⟩:=Zf (ns:=ns) (k:=a+3*(k:Int)+1) (p:=65479) (by omega) (by decide);have s0:=S0 s (show(k:Int)≠0 by omega);have s1:=P9 s c;refine⟨some (T[(s % (k:Int)).toNat]'(by omega)),λt ht=>by cases ht;exact gT _ (a0t _),t.trans (yi (zp rfl (zp (zu (xs:=[.sc ns,.i (a+3*(k:Int)+1),.i 65479]) (zw rfl (zw (zp (zp rfl (zp rfl rfl (Uv (by decide) (by decide))) rfl) rfl rfl) rfl)) es) rfl (vc c)) ?_))⟩;rw[mW s0 (by rw[u8];omega),a0s];rfl
   .rw[N8 c]at t;exact⟨none,λt ht=>(nomatch ht),t⟩
  obtain⟨t,t1,gt,et⟩:=DC (ns:=ns) (a:=a+3*(k:Int)) (nm:=Q[k]) (ah:=ah) (by omega) h0 hL hF hO hA;have e2:o9 5 (zj jA (zb (zc 0) (zb (mOp z1 (zc 1) (mOp Y2 (mC (.i 3)) (zc 6))) (zb (mOp pIx (zc 2) (zc 6)) (zb (zc 3) (zb (zc 4) (zb (zc 7) zq))))))) [some (.sc ns),some (.i a),some (.l (Q.map .s)),some (.l (P.map .s)),some (.dt L),some (.l (T.map tP)),some (.i (k:Int)),some (aP ah)]=.ok (.nx [some (.sc ns),some (.i a),some (.l (Q.map .s)),some (.l (P.map .s)),some (.dt L),some (.l ((T++[t]).map tP)),some (.i (k:Int)),some (aP ah)]):=by
   have ix:pIx (.l (Q.map .s)) (.i (k:Int))=.ok (.s Q[k]):=by rw[mW (by omega) (by rw[u8];omega),a0s];rfl
   refine(i5 (xs:=T.map tP) rfl (zu (zw rfl (zw (zp rfl (zp rfl rfl (Uv (by decide) (by decide))) rfl) (zw (zp rfl rfl ix) rfl))) et) (by rw[u8];omega)).trans ?_;rw[show T.map tP++[tP t]=(T++[t]).map tP by rw[R4];rfl];rfl
  refine⟨_,rfl,_,⟨T++[t],some (.i (k:Int)),some (aP ah),?_,λt' ht=>?_,rfl⟩,.inl (ze ⟨_,rfl,ze ⟨_,q,e2⟩⟩)⟩
  .rw[R4,hT,a0d hk];show _++[t.1]=_;rw[t1]
  .rcases R9.mp ht with h|h
   .exact gT _ h
   .rw[O7.mp h];exact gt)
 subst hρ;rw[a0E]at hT;exact⟨T,hT,gT,zY (ze ⟨_,rfl,ze ⟨_,vd (fh (zw (zu (xs:=[.l (Q.map .s)]) rfl JO) rfl) (by omega) (by omega)) (by rw[Int.toNat_natCast];exact e),rfl⟩⟩)⟩
def J8(T:List Tp):List (Key×PV):=T.map λt=>(sk t.1,tP t)
def Xh(h:z∉T.map (·.1)):zK (J8 T) (sk z)=none:=by
 cases e:zK (J8 T) (sk z)with
 |none=>rfl
 |some x=>obtain⟨t,ht,e2⟩:=a0a.mp (wU e);cases e2;exact absurd (S9 ht) h
def sx(nd:(T.map (·.1)).Nodup)(h:t∈T):zK (J8 T) (sk t.1)=some (tP t):=by
 induction T with
 |nil=>cases h
 |cons u T ih=>
  rw[N5]at nd;obtain⟨n1,n2⟩:=a0b.mp nd;show zK ((sk u.1,tP u)::J8 T) (sk t.1)=_;rw[zT];rcases O5.mp h with rfl|h
  .rw[if_pos rfl]
  .rw[if_neg λe=>n1 (by rw[a0w e];exact S9 h)];exact ih n2 h
def m4(hz:Nm z)(hB:zK B (sk z)=none):zF [.s z,.d B]=.ok (.s z):=by refine zY (ze ⟨_,qt (zu (xs:=[.s z]) rfl (r8 hz)),ze ⟨_,(qK (x:=false) (yE (zp (x:=.s z) (y:=.d B) rfl rfl ?_))).trans (show _=Out.ok (Fw.nx [some (.s z),some (.d B)])from rfl),rfl⟩⟩);show Out.ok (PV.b (xor false (zK B (sk z)).isSome))=_;rw[hB];rfl
def Ku(h1:0<=m)(h2:m<=1000000000):zA [.i m,.i 0]=.ok (.i m):=by refine zY (ze ⟨_,(qK (fL (x:=false) (y:=false) (yE (zp (x:=.i m) (y:=.i 0) rfl rfl ?_)) ((W_ (x:=m) rfl).trans (by rw[N8 (by omega)])))).trans (show _=Out.ok (Fw.nx [some (.i m),some (.i 0)])from rfl),rfl⟩);show Out.ok (PV.b (decide (m<0)))=_;rw[N8 (by omega)]
section
variable {N:MD}{W:List Wy}{F:Str->Ht}{t:Tp}{T:List Tp}
def x3(h:TOk N F t)(hn:Nm t.1)(hB:zK B (sk t.1)=none):qd [roP N W F,tP t,.d B]=.ok .n:=by
 obtain⟨ho,hg,⟨y,ey,ly⟩,s0,fw,f1,q0,q1⟩:=h;refine rZ rfl (ze ⟨_,qt (zu (xs:=[.s t.1,.d B]) rfl (m4 hn hB)),ze ⟨_,yi (iU (N:=N) (W:=W) (F:=F) rfl (xs:=[.s t.2.1,.s t.2.2.1]) rfl (by decide +kernel) (by decide +kernel) (by decide +kernel) ((UL ho hg).trans (by rw[ey];rfl))),ze ⟨_,qt (zu (xs:=[.i t.2.2.2.1,.i 0]) rfl (Ku s0 (by omega))),ze ⟨_,qt (zu (xs:=[.i t.2.2.2.2.1,.i 0]) rfl (Ku (by omega) f1)),ze ⟨_,qt (zu (xs:=[.i t.2.2.2.2.2,.i 0]) rfl (Ku q0 q1)),ze ⟨[some (roP N W F),some (tP t),some (.d B),some (.i y)],(qK (x:=false) (yE (zp (x:=.i t.2.2.2.2.1) (y:=.i t.2.2.2.1) rfl rfl ?_))).trans rfl,ze ⟨[some (roP N W F),some (tP t),some (.d B),some (.i y)],(qK (x:=false) rfl).trans rfl,(qK (x:=false) (yE (zp (x:=.i (t.2.2.2.2.1-t.2.2.2.1)) (y:=.i y) rfl rfl ?_))).trans rfl⟩⟩⟩⟩⟩⟩⟩)
 .show Out.ok (PV.b (decide (t.2.2.2.2.1<=t.2.2.2.1)))=_;rw[N8 (by omega)]
 .show Out.ok (PV.b (decide (t.2.2.2.2.1-t.2.2.2.1<y)))=_;rw[N8 (by omega)]
def lh(t:Tp):XA:=(t.2.2.2.1,t.2.2.2.2.1,t.1)
def bA:∀{T:List Tp},Ki zt (T.map tP)=some (T.map lh)
 |[]=>rfl
 |t::T=>by
  have e:zt [tP t]=.ok (.t [.i t.2.2.2.1,.i t.2.2.2.2.1,.s t.1]):=zY (JM (fP rfl (S8 rfl)));show(match zt [tP t]with
   |.ok (.t [.i a,.i b,.s c])=>(Ki zt (T.map tP)).map ((a,b,c)::·)
   |_=>none)=_
  rw[e];show(Ki zt (T.map tP)).map _=_;rw[bA];rfl
def kr(T:List Tp):List Tp:=(xo (T.map lh)).map λi=>T.getD i ("","","",0,0,0)
def lj(nd:(T.map (·.1)).Nodup)(hl:T.length<64):XE zt (T.map tP)=.ok (.l ((kr T).map tP)):=by
 unfold XE;rw[if_pos (by rw[u8];exact hl),bA];have nk:(T.map lh).Nodup:=by
  have:((T.map lh).map λk=>k.2.2)=T.map (·.1):=by rw[R7];rfl
  rw[<- this]at nd;exact List.Pairwise.of_map (S:=(·≠·)) (λk:XA=>k.2.2) (λa b h e=>h (by rw[e])) nd
 show(if(T.map lh).Nodup then _ else _)=_;rw[if_pos nk];unfold kr;rw[R7];congr 2;refine a0C λi hi=>?_;have:=a0u.mp ((YV (T.map lh)).1.mem_iff.mp hi);rw[u8]at this;show(T.map tP).getD i .n=tP (T.getD i _);rw[a0f,a0f,P2,N6 this];rfl
end
def ga0{α:Type}{A:List α}{x y:α}:(A++[x,y])[A.length]?=some x:=by simp
def ga1{α:Type}{A:List α}{x y:α}:(A++[x,y])[A.length+1]?=some y:=by simp
def sa0{α:Type}{A:List α}{x y z:α}:(A++[x,y]).set A.length z=A++[z,y]:=by simp
def sa1{α:Type}{A:List α}{x y z:α}:(A++[x,y]).set (A.length+1) z=A++[x,z]:=by simp
def dG{G:AH}{n:Nat}:∀{kvs:MY},bM (jN G (n+1)) (vK kvs)=some kvs
 |[]=>rfl
 | (k,x)::kvs=>by show((jN G (n+1) (.v x)).bind λy=>(bM (jN G (n+1)) (vK kvs)).map ((k,y)::·))=_;rw[dG];rfl
def Mr(h0:Kf bs ρ=none)(h1:J7 G bs ρ=some r)(h2:m r=.ok x)(hi:imm x=true):hP bs m ρ G=.ok (.v x) G:=by unfold hP;rw[h0,h1];dsimp only;rw[h2];dsimp only;rw[if_pos hi]
def lq(h:m ρ G=.ok x G'):mG m ρ G=.nx ρ G':=by unfold mG;rw[h];rfl
def bB(hv:mv ρ G=.ok y G1)(ho:mo ρ G1=.ok (.g k) G2)(hk:G2[k]?=some (.o c fs))(hc:c∈cs)(hl:fs.length<1000):aM cs f mo mv ρ G=.nx ρ (G2.set k (.o c (WA f y fs))):=by
 unfold aM;rw[hv];show((mo ρ G1).fw _)=_;rw[ho];show(match G2[k]? with
  |some (.o c fs)=>if c∈cs/\fs.length<1000 then HFw.nx ρ (G2.set k (.o c (WA f y fs)))else .wall
  |_=>.wall)=_
 rw[hk];dsimp only;rw[if_pos ⟨hc,hl⟩]
def sA(hv:mv ρ G=.ok y G)(ho:mo ρ G=.ok (.g k) G)(hz:mk ρ G=.ok (.v z) G)(hk:G[k]?=some (.d kvs))(hq:pk z=some q)(hl:kvs.length<100000):CW mo mk mv ρ G=.nx ρ (G.set k (.d (dput kvs q y))):=by
 unfold CW;rw[hv];show((mo ρ G).fw _)=_;rw[ho];show((mk ρ G).fw _)=_;rw[hz];show(match G[k]?,pk z with
  |some (.d kvs),some q=>if kvs.length<sizeLine then HFw.nx ρ (G.set k (.d (dput kvs q y)))else .wall
  |_,_=>.wall)=_
 rw[hk,hq];dsimp only;rw[if_pos (N9 hl (by decide))]
def DD(h:m ρ G=.ok (.g k) G)(hk:G[k]?=some (.o c fs))(hc:c∈cs)(hf:fs.lookup f=some z):FO cs f m ρ G=.ok z G:=by
 unfold FO;rw[h];show(match G[k]? with
  |some (.o c fs)=>if c∈cs then match fs.lookup f with
   |some z=>HX.ok z G
   |none=>.wall else .wall
  |_=>.wall)=_
 rw[hk];dsimp only;rw[if_pos hc,hf]
def DE{α:Type}{x:α}{fs:List (Str×α)}:((f,x)::fs).lookup f=some x:=by simp
def x4{α:Type}{x:α}{fs:List (Str×α)}(h:(f==g)=false):((g,x)::fs).lookup f=fs.lookup f:=by simp[List.lookup,h]
section
variable {N:MD}{W:List Wy}{F:Str->Ht}{A:AH}{T P:List Tp}{ro:PV}
def tFs(ro:PV)(j:Nat):List (Str×HV):=[("roads",.v ro),("by_name",.g j)]
def tG(A:AH)(ro:PV)(T:List Tp):AH:=A++[.o 10 (tFs ro (A.length+1)),.d (vK (J8 T))]
def lz(h:G[j]?=some (.d (vK (J8 T)))):jN G (n+2) (.g j)=some (.d (J8 T)):=by unfold jN;rw[h];show(bM (jN G (n+1)) (vK (J8 T))).map PV.d=_;rw[dG];rfl
def GA:jN (tG A ro T) 8 (.g A.length)=some (.o 10 [("roads",ro),("by_name",.d (J8 T))]):=by unfold jN tG;rw[ga0];show(bM (jN _ 7) (tFs ro (A.length+1))).map (PV.o 10)=_;show(Option.map (PV.o 10) ((jN _ 7 (.v ro)).bind λy=>(((jN _ 7 (.g (A.length+1))).bind λy=>((some []).map ((("by_name":Str),y)::·))).map ((("roads":Str),y)::·))))=_;rw[lz (T:=T) ga1];rfl
def x5(h:t.1∉P.map (·.1)):dput (vK (J8 P)) (sk t.1) (.v (tP t))=vK (J8 (P++[t])):=by unfold vK;rw[bx];congr 1;unfold dput;rw[kh,Xh h];unfold J8;rw[R4];rfl
def x6:∀{R P:List Tp}{o:Option HV},(∀t∈R,TOk N F t/\Nm t.1)->((P++R).map (·.1)).Nodup->(P++R).length<=40->∃o',Xy jf yD ((R.map tP).map .v) [some (.g A.length),some (.v (roP N W F)),some (.v T0),o] (tG A (roP N W F) P)=.nx [some (.g A.length),some (.v (roP N W F)),some (.v T0),o'] (tG A (roP N W F) (P++R)):=by
 intro R
 induction R with
 |nil=>intro P o _ _ _;rw[P4];exact⟨o,rfl⟩
 |cons t R ih=>
  intro P o hR nd hl;have ea:P++[t]++R=P++t::R:=by rw[T9];rfl
  obtain⟨o',e'⟩:=ih (P:=P++[t]) (o:=some (.v (tP t))) (λu hu=>hR u (M8 _ hu)) (by rw[ea];exact nd) (by rw[ea];exact hl);rw[ea]at e';refine⟨o',?_⟩;have hz:t.1∉P.map (·.1):=λh=>by rw[R4,N5]at nd;exact(a0p.mp nd).2.2 _ h _ M3 rfl
  have hp:P.length<=40:=by rw[O6]at hl;omega
  obtain⟨h1,h2⟩:=hR t M3;have ef:Wf [10] "by_name" (zc 0) [some (.o 10 [("roads",roP N W F),("by_name",.d (J8 P))]),some (roP N W F),none,some (tP t)]=.ok (.d (J8 P)):=by show(if 10∈[10]then wu (List.lookup ("by_name":Str) [("roads",roP N W F),("by_name",PV.d (J8 P))])else .wall)=_;rw[if_pos M3,qH (by decide +kernel),Wi];rfl
  have e1:hP [true,true,false,true] (zj qd (zb (zc 1) (zb (zc 3) (zb (Wf [10] "by_name" (zc 0)) zq)))) [some (.g A.length),some (.v (roP N W F)),some (.v T0),some (.v (tP t))] (tG A (roP N W F) P)=.ok (.v .n) (tG A (roP N W F) P):=
   Mr rfl (ny GA (ny rfl (iP (ny rfl Hh)))) (zu (zw rfl (zw rfl (zw ef rfl))) (x3 (W:=W) h1 h2 (Xh hz))) rfl
  have e2:CW (FO [10] "by_name" (Y5 0)) (hP [false,false,false,true] (mOp pIx (zc 3) (mC (.i 0)))) (Y5 3) [some (.g A.length),some (.v (roP N W F)),some (.v T0),some (.v (tP t))] (tG A (roP N W F) P)=.nx [some (.g A.length),some (.v (roP N W F)),some (.v T0),some (.v (tP t))] (tG A (roP N W F) (P++[t])):=by refine(sA (y:=.v (tP t)) (k:=A.length+1) (z:=.s t.1) (q:=sk t.1) rfl (DD rfl ga0 M3 (by unfold tFs;rw[x4 (by decide +kernel),DE])) (bw rfl rfl) ga1 rfl (by unfold vK J8;rw[u8,u8];omega)).trans ?_;unfold tG;rw[sa1,x5 hz]
  have eb:yD [some (.g A.length),some (.v (roP N W F)),some (.v T0),some (.v (tP t))] (tG A (roP N W F) P)=.nx [some (.g A.length),some (.v (roP N W F)),some (.v T0),some (.v (tP t))] (tG A (roP N W F) (P++[t])):=zM (lq e1) e2;show(match yD [some (.g A.length),some (.v (roP N W F)),some (.v T0),some (.v (tP t))] (tG A (roP N W F) P)with
   |.nx ρ2 G2=>Xy jf yD ((R.map tP).map .v) ρ2 G2
   |.ct ρ2 G2=>Xy jf yD ((R.map tP).map .v) ρ2 G2
   |.bk ρ2 G2=>.nx ρ2 G2
   |.rt v G2=>.rt v G2
   |.exc c fs G2=>.exc c fs G2
   |.wall=>.wall)=_
  rw[eb];exact e'
def Xz(T:List Tp):PV:=.l ((kr T).map λt=>.s t.1)
def Hi(A:AH)(ro:PV)(T:List Tp):AH:=A++[.o 10 [("roads",.v ro),("by_name",.g (A.length+1)),("order",.v (Xz T))],.d (vK (J8 T))]
def yt(ro:PV)(T:List Tp):PV:=.o 10 [("roads",ro),("by_name",.d (J8 T)),("order",Xz T)]
def Xi:(kr T).length=T.length:=by unfold kr;rw[u8,(YV (T.map lh)).1.length_eq,T4,u8]
def x8(hT:∀t∈T,TOk N F t/\Nm t.1)(nd:(T.map (·.1)).Nodup)(hl:T.length<=40):yS [.g A.length,.v (roP N W F),.v (.l (T.map tP))] (A++[.o 10 []])=.ok (.v .n) (Hi A (roP N W F) T):=by
 obtain⟨o',e4⟩:=x6 (N:=N) (W:=W) (F:=F) (A:=A) (T0:=.l (T.map tP)) (R:=T) (P:=[]) (o:=none) hT nd hl;rw[a0A]at e4;have g0:(A++[Cell.o 10 []])[A.length]?=some (.o 10 []):=by simp
 have e1:mG (hP [false,false,true] (zj yr (zb (zc 2) (zb (mC (.i 40)) zq)))) [some (.g A.length),some (.v (roP N W F)),some (.v (.l (T.map tP))),none] (A++[.o 10 []])=.nx [some (.g A.length),some (.v (roP N W F)),some (.v (.l (T.map tP))),none] (A++[.o 10 []]):=lq (bw rfl (zu (xs:=[.l (T.map tP),.i 40]) rfl (fU JO (by omega))));have e2:aM [10] "roads" (Y5 0) (Y5 1) [some (.g A.length),some (.v (roP N W F)),some (.v (.l (T.map tP))),none] (A++[.o 10 []])=.nx [some (.g A.length),some (.v (roP N W F)),some (.v (.l (T.map tP))),none] (A++[.o 10 [("roads",.v (roP N W F))]]):=by refine(bB rfl rfl g0 M3 (by decide)).trans ?_;rw[show(A++[Cell.o 10 []]).set A.length (.o 10 (WA "roads" (.v (roP N W F)) []))=A++[.o 10 [("roads",.v (roP N W F))]] by simp[WA]]
 have g1:(A++[Cell.o 10 [("roads",.v (roP N W F))]]++[.d []])[A.length]?=some (.o 10 [("roads",.v (roP N W F))]):=by simp
 have e3:aM [10] "by_name" (Y5 0) (hF [] pD) [some (.g A.length),some (.v (roP N W F)),some (.v (.l (T.map tP))),none] (A++[.o 10 [("roads",.v (roP N W F))]])=.nx [some (.g A.length),some (.v (roP N W F)),some (.v (.l (T.map tP))),none] (tG A (roP N W F) []):=by
  refine(bB (y:=.g (A++[Cell.o 10 [("roads",.v (roP N W F))]]).length) (G1:=A++[Cell.o 10 [("roads",.v (roP N W F))]]++[.d []]) rfl rfl g1 M3 (by show 1<1000;decide)).trans ?_;have e:WA "by_name" (.g (A++[Cell.o 10 [("roads",.v (roP N W F))]]).length) [("roads",.v (roP N W F))]=tFs (roP N W F) (A.length+1):=by rw[O6];show(if(("roads":Str)="by_name")then _ else _)=_;rw[if_neg (by decide +kernel)];rfl
  rw[e,show A++[Cell.o 10 [("roads",.v (roP N W F))]]++[.d []]=A++[.o 10 [("roads",.v (roP N W F))],.d []] by rw[T9];rfl,sa0];rfl
 have ls:lcP kW kX kY ((kr T).map tP) [none] []=.ok (Xz T):=
  Kc tP (λt=>PV.s t.1) (λρ=>∃o,ρ=[o]) _ _ ⟨none,rfl⟩ (λt _ ρ ⟨o,ho⟩=>by subst ho;exact⟨_,rfl,⟨_,rfl⟩,zp rfl rfl rfl⟩) (by rw[Xi];omega)
 have e5:aM [10] "order" (Y5 0) (hP [false,false,true] (mLC (yn (iq zt (zb (zc 2) zq))) [none] kW kX kY)) [some (.g A.length),some (.v (roP N W F)),some (.v (.l (T.map tP))),o'] (tG A (roP N W F) T)=.nx [some (.g A.length),some (.v (roP N W F)),some (.v (.l (T.map tP))),o'] (Hi A (roP N W F) T):=by
  refine(bB (y:=.v (Xz T)) (bw rfl (cN (yo (show iq zt (zb (zc 2) zq) [none,none,some (.l (T.map tP)),none]=_ from lj nd (by omega))) ls)) rfl ga0 M3 (by show 2<1000;decide)).trans ?_;have e:WA "order" (.v (Xz T)) (tFs (roP N W F) (A.length+1))=([("roads",.v (roP N W F)),("by_name",.g (A.length+1)),("order",.v (Xz T))]:List (Str×HV)):=by show(if(("roads":Str)="order")then _ else _::(if(("by_name":Str)="order")then _ else _))=_;rw[if_neg (by decide +kernel),if_neg (by decide +kernel)];rfl
  unfold Hi;rw[e,sa0]
 have ev:kl [some (.g A.length),some (.v (roP N W F)),some (.v (.l (T.map tP))),none] (A++[.o 10 []])=.nx [some (.g A.length),some (.v (roP N W F)),some (.v (.l (T.map tP))),o'] (Hi A (roP N W F) T):=
  zM e1 (zM e2 (zM e3 (zM e4 e5)))
 show(match kl [some (.g A.length),some (.v (roP N W F)),some (.v (.l (T.map tP))),none] (A++[.o 10 []])with
  |.nx _ G'=>HX.ok (HV.v .n) G'
  |.rt x G'=>.ok x G'
  |.exc c fs G'=>.exc c fs G'
  |_=>.wall)=_
 rw[ev]
def DF(h:G[k]?=some (.o 10 [("roads",.v ro),("by_name",.g j),("order",.v (Xz T))]))(h2:G[j]?=some (.d (vK (J8 T)))):jN G (n+3) (.g k)=some (yt ro T):=by unfold jN;rw[h];show(Option.map (PV.o 10) ((jN _ (n+2) (.v ro)).bind λy=>(((jN _ (n+2) (.g j)).bind λy=>((((jN _ (n+2) (.v (Xz T))).bind λy=>((some []).map ((("order":Str),y)::·)))).map ((("by_name":Str),y)::·))).map ((("roads":Str),y)::·))))=_;rw[lz (T:=T) h2];rfl
end
def bC(h:p ρ=.exc c fs):yh p q ρ=.exc c fs:=by unfold yh;rw[h];rfl
def VU{fr:Bool}{n:Nat}{ms:MS}{xs:MX}{c:Nat}{fs:MZ}(h:ms (xs.map some++List.replicate (n-xs.length) none)=.exc c fs):ZZ fr n ms xs=.exc c fs:=by unfold ZZ;rw[h]
def fY(h:m ρ=.exc c fs):y_ i m ρ=.exc c fs:=by unfold y_;rw[h];rfl
def DG(h:m1 ρ=.exc c fs)(hc:c∈cs)(h2:m2 (ρ.set j (some (.x c fs)))=.ok (.rt x)):FC cs m1 j m2 ρ=.ok (.rt x):=by unfold FC;rw[h];dsimp only;rw[if_pos hc,h2]
section
variable {N:MD}{W:List Wy}{F:Str->Ht}{T:List Tp}{t u:Tp}{ro:PV}{L:Lst}{z:Str}
def dH(h:m ρ=.ok (yt ro T)):Wf [10] "by_name" m ρ=.ok (.d (J8 T)):=by unfold Wf;rw[h,okb];show(if 10∈[10]then wu (List.lookup ("by_name":Str) [("roads",ro),("by_name",PV.d (J8 T)),("order",Xz T)])else .wall)=_;rw[if_pos M3,qH (by decide +kernel),Wi];rfl
def x9(h:m ρ=.ok (yt ro T)):Wf [10] "roads" m ρ=.ok ro:=by unfold Wf;rw[h,okb];show(if 10∈[10]then wu (List.lookup ("roads":Str) [("roads",ro),("by_name",PV.d (J8 T)),("order",Xz T)])else .wall)=_;rw[if_pos M3,Wi];rfl
def Xj(nd:(T.map (·.1)).Nodup)(ht:t∈T):zN [yt ro T,.s t.1]=.ok (tP t):=by
 have b:=dH (m:=zc 0) (ρ:=[some (yt ro T),some (.s t.1)]) (ro:=ro) (T:=T) rfl;have e:=sx nd ht;refine zY (ze ⟨_,(qK (x:=false) (yE (zp (x:=.s t.1) rfl b ?_))).trans (show _=Out.ok (Fw.nx [some (yt ro T),some (.s t.1)])from rfl),JM (zp b (y:=.s t.1) rfl ?_)⟩)
 .show Out.ok (PV.b (xor true (zK (J8 T) (sk t.1)).isSome))=_;rw[e];rfl
 .show wu (zK (J8 T) (sk t.1))=_;rw[e];rfl
def dI(hz:z∉T.map (·.1)):zN [yt ro T,.s z]=.exc 7 [("name",.s z)]:=by have b:=dH (m:=zc 0) (ρ:=[some (yt ro T),some (.s z)]) (ro:=ro) (T:=T) rfl;refine VU (bC ((qK (x:=true) (yE (zp (x:=.s z) rfl b ?_))).trans rfl));show Out.ok (PV.b (xor true (zK (J8 T) (sk z)).isSome))=_;rw[Xh hz];rfl
def JQ(ha:a ρ=.ok (yt ro T))(hm:ms ρ=.ok xs):QL [(10,f)] "trip" a ms ρ=f (yt ro T::xs):=by unfold QL;rw[ha,okb];show(if(List.lookup ("trip":Str) [("roads",ro),("by_name",PV.d (J8 T)),("order",Xz T)]).isSome=true then Out.wall else(ms ρ).bind λxs=>f (yt ro T::xs))=_;rw[qH (by decide +kernel),qH (by decide +kernel),qH (by decide +kernel),pJ,if_neg (by intro z;cases z),hm,okb]
def IX(F:Str->Ht)(t u:Tp):PV:=D4 ((zK (F t.2.2.1) (sk u.2.1)).map λy=>u.2.2.2.1-t.2.2.2.2.1-y)
def GB(nd:(T.map (·.1)).Nodup)(hT:∀t∈T,TOk N F t)(ht:t∈T)(hu:u∈T):X3 [yt (roP N W F) T,.s t.1,.s u.1]=.ok (IX F t u):=by
 have e3:y_ 3 (QL [(10,zN)] "trip" (zc 0) (zb (zc 1) zq)) [some (yt (roP N W F) T),some (.s t.1),some (.s u.1),none,none,none]=.ok (.nx [some (yt (roP N W F) T),some (.s t.1),some (.s u.1),some (tP t),none,none]):=yi ((JQ (xs:=[.s t.1]) rfl rfl).trans (Xj nd ht));have e4:y_ 4 (QL [(10,zN)] "trip" (zc 0) (zb (zc 2) zq)) [some (yt (roP N W F) T),some (.s t.1),some (.s u.1),some (tP t),none,none]=.ok (.nx [some (yt (roP N W F) T),some (.s t.1),some (.s u.1),some (tP t),some (tP u),none]):=yi ((JQ (xs:=[.s u.1]) rfl rfl).trans (Xj nd hu));have e5:y_ 5 (QL [(11,zG)] "length" (Wf [10] "roads" (zc 0)) (zb (mOp pIx (zc 3) (mC (.i 2))) (zb (mOp pIx (zc 4) (mC (.i 1))) zq))) [some (yt (roP N W F) T),some (.s t.1),some (.s u.1),some (tP t),some (tP u),none]=.ok (.nx [some (yt (roP N W F) T),some (.s t.1),some (.s u.1),some (tP t),some (tP u),some (D4 (zK (F t.2.2.1) (sk u.2.1)))]):=
  yi (iU (N:=N) (W:=W) (F:=F) (x9 rfl) (xs:=[.s t.2.2.1,.s u.2.1]) rfl (by decide +kernel) (by decide +kernel) (by decide +kernel) (UL (hT t ht).goal (hT u hu).org))
 unfold IX;cases e:zK (F t.2.2.1) (sk u.2.1)with
 |none=>rw[e]at e5;exact zY (ze ⟨_,e3,ze ⟨_,e4,ze ⟨_,e5,az ((qK (x:=true) rfl).trans rfl)⟩⟩⟩)
 |some y=>rw[e]at e5;exact zY (ze ⟨_,e3,ze ⟨_,e4,ze ⟨_,e5,ze ⟨_,(qK (x:=false) rfl).trans rfl,JM (zp (zp (x:=.i u.2.2.2.1) (y:=.i t.2.2.2.2.1) rfl rfl rfl) (y:=.i y) rfl rfl)⟩⟩⟩⟩)
def GC(hz:z∉T.map (·.1)):X3 [yt ro T,.s z,.s w]=.exc 7 [("name",.s z)]:=
 VU (bC (fY ((JQ (xs:=[.s z]) rfl rfl).trans (dI hz))))
def GD(nd:(T.map (·.1)).Nodup)(ht:t∈T)(hz:z∉T.map (·.1)):X3 [yt ro T,.s t.1,.s z]=.exc 7 [("name",.s z)]:=
 VU (ze ⟨[some (yt ro T),some (.s t.1),some (.s z),some (tP t),none,none],yi ((JQ (xs:=[.s t.1]) rfl rfl).trans (Xj nd ht)),bC (fY ((JQ (xs:=[.s z]) rfl rfl).trans (dI hz)))⟩)
def BD(h:X3 [yt ro T,.s a,.s b]=.exc 7 [("name",.s z)]):qk [yt ro T,.s a,.s b]=.exc 7 [("name",.s z)]:=VU (bC (fY (m:=zj X3 (zb (zc 0) (zb (zc 1) (zb (zc 2) zq)))) h))
def dJ(h:qk [yt ro T,.s a,.s b]=.exc 7 [("name",.s z)]):yK [yt ro T,.s a,.s b,.s z]=.ok (.b true):=by
 refine zY (az (DG (c:=7) (fs:=[("name",.s z)]) ?_ (by decide) (JM (fO (x:=true) (y:=true) ?_ (fO (x:=true) (y:=true) ?_ (zp (x:=.s z) (y:=.s z) ?_ rfl ?_))))))
 .show(g6 qk (zb (zc 0) (zb (zc 1) (zb (zc 2) zq))) [some (yt ro T),some (.s a),some (.s b),some (.s z),none]).bind _=_;show(qk [yt ro T,.s a,.s b]).bind _=_;rw[h];rfl
 .rfl
 .rfl
 .show(if 7∈[1,4,5,7,8,9]then wu (List.lookup ("name":Str) [("name",PV.s z)])else .wall)=_;rw[if_pos (by decide),Wi];rfl
 .rw[Ik,O0 rfl];rfl
end
def m5(k:Nat):Str:=("t":Str)++Str.ofString (toString (k:Int))
def lC:∀k:Fin 18,(Str.ofString (toString (k.val:Int))).length<=5/\((k.val:Int).natAbs.log2<1920)/\∀j:Fin 18,m5 k.val=m5 j.val->k=j:=by decide +kernel
def DH{ρ:Sto}{k:Nat}(hk:k<18)(h:zc 2 ρ=.ok (.i (k:Int))):mOp z1 (mC (.s "t")) (zj D0 (zb (zc 2) zq)) ρ=.ok (.s (m5 k)):=by obtain⟨a,b,_⟩:=lC ⟨k,hk⟩;exact zp rfl (zu (zw h rfl) (if_pos b)) (Mp (n:=100) (by show 1+_<=100;exact P7 (a2L a 1) (by decide)) (by decide))
def dM{N:MD}(hn:N.length<=16):∃a b:Str,a∉N/\b∉N/\ye [.l (N.map .s)]=.ok (.l [.s a,.s b]):=by
 obtain⟨ρ',⟨o,hρ⟩,e⟩:=Ja (g:=wB) (b:=wC) (λk ρ=>∃o,ρ=[some (.l (N.map .s)),some (.l ((((List.range k).map m5).filter λz=>decide (z∉N)).map .s)),o]) (N.length+2) [some (.l (N.map .s)),some (.l []),none] ⟨none,rfl⟩ (λk hk ρ ⟨o,hρ⟩=>by
  subst hρ;refine⟨_,rfl,_,⟨some (.i (k:Int)),rfl⟩,.inl ?_⟩;have c:=DH (k:=k) (ρ:=[some (.l (N.map .s)),some (.l ((((List.range k).map m5).filter λz=>decide (z∉N)).map .s)),some (.i (k:Int))]) (by omega) rfl;refine(qK (x:=xor true (decide (m5 k∈N))) (yE (zp (y:=.l (N.map .s)) c rfl Du))).trans ?_;rw[List.range_succ,R4,List.filter_append];by_cases h:m5 k∈N
  .rw[O0 h,if_neg (by decide),show List.filter (λz=>decide (z∉N)) ([k].map m5)=[] by simp[h],P4];rfl
  .rw[N8 h,if_pos (by decide),show List.filter (λz=>decide (z∉N)) ([k].map m5)=[m5 k] by simp[h],R4];exact i5 rfl c (by rw[u8];refine a0L (a2A _ _) ?_;rw[u8,T4];omega))
 subst hρ;have nd:((List.range (N.length+2)).map m5).Nodup:=nodup_range λj k hj hk e=>T6 Fin.val ((lC ⟨j,by omega⟩).2.2 ⟨k,by omega⟩ e);have ln:((List.range (N.length+2)).map m5).length=N.length+2:=by rw[u8,T4]
 generalize(List.range (N.length+2)).map m5=C at nd ln e;have l1:(C.filter λz=>decide (z∈N)).length<=N.length:=JN (nd.filter _) λx hx=>S6 (a0Z.mp hx).2;have l2:∀C:List Str,(C.filter λz=>decide (z∈N)).length+(C.filter λz=>decide (z∉N)).length=C.length:=λC=>by
  induction C with
  |nil=>rfl
  |cons x C ih=>
   rw[a0F,a0F,v4];by_cases h:x∈N
   .rw[if_pos (O0 h),if_neg (by rw[N8 (λq=>q h)];decide),v4];omega
   .rw[if_neg (by rw[N8 h];decide),if_pos (O0 h),v4];omega
 have l3:=l2 C;have hm:∀x∈C.filter λz=>decide (z∉N),x∉N:=λx hx=>S6 (a0Z.mp hx).2;generalize C.filter (λz=>decide (z∉N))=D at e l3 hm
 match D,e,l3,hm with
 |[],_,l3,_=>rw[a1h]at l3;omega
 |[_],_,l3,_=>rw[a08]at l3;omega
 |a::b::D,e,_,hm=>refine⟨a,b,hm a M3,hm b (M8 _ M3),zY (ze ⟨_,rfl,ze ⟨_,vd (fh (n:=(N.length:Int)+2) (zw (zp (zu (xs:=[.l (N.map .s)]) rfl JO) rfl rfl) rfl) (by omega) (by omega)) (by rw[show((N.length:Int)+2).toNat=N.length+2 by omega];exact e),JM ?_⟩⟩)⟩;show Out.ok (PV.l (cG ((a::b::D).map PV.s) none (some 2)))=_;rw[dB (by decide)];rfl
def fZ(h:hm (xs.map some++List.replicate (n-xs.length) none) G=.rt x G'):tU n hm xs G=.ok x G':=by unfold tU;rw[h]
section
variable {N:MD}{W:List Wy}{F:Str->Ht}{T:List Tp}{t u:Tp}{ro:PV}
def vp:(kr T).Perm T:=by have h:=(YV (T.map lh)).1.map λi=>T.getD i ("","","",0,0,0);refine h.trans (.of_eq ?_);rw[u8];refine List.ext_getElem (by rw[u8,T4]) λi h1 h2=>?_;rw[a0s,a1l];simp[h2]
def lnk(F:Str->Ht)(t u:Tp):Bool:=match zK (F t.2.2.1) (sk u.2.1)with
 |some y=>decide (t.2.2.2.2.1+y<=u.2.2.2.1)
 |none=>false
def Xk(nd:(T.map (·.1)).Nodup)(hT:∀t∈T,TOk N F t)(ht:t∈T)(hu:u∈T):qk [yt (roP N W F) T,.s t.1,.s u.1]=.ok (.b (lnk F t u)):=by
 have g:=GB (W:=W) nd hT ht hu;unfold IX at g;unfold lnk;cases e:zK (F t.2.2.1) (sk u.2.1)with
 |none=>rw[e]at g;exact zY (ze ⟨_,yi (zu (xs:=[yt (roP N W F) T,.s t.1,.s u.1]) rfl g),JM rfl⟩)
 |some y=>rw[e]at g;refine zY (ze ⟨_,yi (zu (xs:=[yt (roP N W F) T,.s t.1,.s u.1]) rfl g),JM ((fO (x:=true) (y:=decide (u.2.2.2.1-t.2.2.2.2.1-y ≥ 0)) rfl rfl).trans ?_)⟩);rw[a2I];congr 3;exact propext ⟨λh=>by omega,λh=>by omega⟩
def bN(F:Str->Ht)(T:List Tp)(t:Tp):List Str:=((kr T).filter (lnk F t)).map (·.1)
def sC(nd:(T.map (·.1)).Nodup)(hT:∀t∈T,TOk N F t)(hl:T.length<=40)(ht:t∈T):yf [yt (roP N W F) T,.s t.1,Xz T]=.ok (.l ((bN F T t).map .s)):=by
 refine zY (JM (cN (yo (xs:=(kr T).map λt=>.s t.1) rfl) ((Wk (λu:Tp=>PV.s u.1) (lnk F t) (λu=>.s u.1) (λρ=>∃o,ρ=[o,some (yt (roP N W F) T),some (.s t.1)]) _ _ [] ⟨none,rfl⟩ (λu hu ρ ⟨o,ho⟩=>?_) (by rw[Xi];show 0+_<=_;omega)).trans ?_)))
 .subst ho;exact⟨_,rfl,⟨_,rfl⟩,yE (zu (xs:=[yt (roP N W F) T,.s t.1,.s u.1]) rfl (Xk nd hT ht (vp.mem_iff.mp hu))),λ_=>rfl⟩
 .unfold bN;rw[R7];rfl
def sD(nd:(T.map (·.1)).Nodup):((kr T).map (·.1)).Nodup:=((vp (T:=T)).map (·.1)).nodup_iff.mpr nd
def x_(h:m ρ=.ok (yt ro T)):Wf [10] "order" m ρ=.ok (Xz T):=by unfold Wf;rw[h,okb];show(if 10∈[10]then wu (List.lookup ("order":Str) [("roads",ro),("by_name",PV.d (J8 T)),("order",Xz T)])else .wall)=_;rw[if_pos M3,qH (by decide +kernel),qH (by decide +kernel),Wi];rfl
def sE:zW [yt ro T]=.ok (Xz T):=zY (JM (zu (zw (x_ rfl) rfl) rfl))
def lD{U:List Tp}{g:Tp->PV}(nd:(U.map (·.1)).Nodup)(h:t∈U):zK (U.map λt=>(sk t.1,g t)) (sk t.1)=some (g t):=by
 induction U with
 |nil=>cases h
 |cons u U ih=>
  rw[N5]at nd ⊢;obtain⟨n1,n2⟩:=a0b.mp nd;rw[zT];rcases O5.mp h with rfl|h
  .rw[if_pos rfl]
  .rw[if_neg λe=>n1 (by rw[a0w e];exact S9 h)];exact ih n2 h
def BE{U:List Tp}(nd:(U.map (·.1)).Nodup)(ht:t∈U)(hu:u∈U)(e:t.1=u.1):t=u:=by
 induction U with
 |nil=>cases ht
 |cons x U ih=>
  rw[N5]at nd;obtain⟨n1,n2⟩:=a0b.mp nd;rcases O5.mp ht with e1|h1<;>rcases O5.mp hu with e2|h2
  .rw[e1,e2]
  .exact absurd (by rw[<- e1,e];exact S9 h2) n1
  .exact absurd (by rw[<- e2,<- e];exact S9 h1) n1
  .exact ih n2 h1 h2
def Aa:hP [true] (QL [(10,zW),(11,yq)] "names" (zc 0) zq) [some (.v (yt (roP N W F) T)),none] G=.ok (.v (Xz T)) G:=by refine bw rfl ?_;show(if(List.lookup ("names":Str) [("roads",roP N W F),("by_name",PV.d (J8 T)),("order",Xz T)]).isSome=true then Out.wall else zW [yt (roP N W F) T])=_;rw[qH (by decide +kernel),qH (by decide +kernel),qH (by decide +kernel),pJ,if_neg (by intro z;cases z)];exact sE
abbrev rw1(F:Str->Ht)(T:List Tp)(t:Tp):PV:=.t [.s t.1,.l ((bN F T t).map .s)]
def GF:∀{l:MD},cR (l.map .s)=true
 |[]=>rfl
 |_::l=>by show(true&&cR (l.map .s))=true;rw[GF];rfl
def Ab(nd:(T.map (·.1)).Nodup)(hT:∀t∈T,TOk N F t)(hl:T.length<=40):bh [.v (yt (roP N W F) T)] G=.ok (.g (G.length+T.length)) ((G++(kr T).map λt=>Cell.l ((bN F T t).map λz=>.v (.s z)))++[.d (dlK G.length ((kr T).map (rw1 F T)))]):=by
 have e2:=Kc (g:=YY) (e:=YZ) (λt:Tp=>PV.s t.1) (rw1 F T) (λρ=>∃o,ρ=[o,some (yt (roP N W F) T),some (Xz T)]) (kr T) [none,some (yt (roP N W F) T),some (Xz T)] ⟨none,rfl⟩ (λt ht ρ ⟨o,ho⟩=>by
  subst ho;refine⟨_,rfl,⟨_,rfl⟩,?_⟩;show(zj yf _ _).bind (kI (.s t.1))=_;rw[zu (xs:=[yt (roP N W F) T,.s t.1,Xz T]) rfl (sC nd hT hl (vp.mem_iff.mp ht))];show kI (.s t.1) (.l ((bN F T t).map .s))=_;show(if cR ((bN F T t).map .s)=true then _ else _)=_;rw[if_pos GF]) (by rw[Xi];omega)
 have e3:hDL [true,true] (mLC (yn (zc 1)) [none,some 0,some 1] YY Kt YZ) [some (.v (yt (roP N W F) T)),some (.v (Xz T))] G=.ok (.g (G.length+T.length)) ((G++(kr T).map λt=>Cell.l ((bN F T t).map λz=>.v (.s z)))++[.d (dlK G.length ((kr T).map (rw1 F T)))]):=by unfold hDL;show(match mLC (yn (zc 1)) [none,some 0,some 1] YY Kt YZ [some (yt (roP N W F) T),some (Xz T)]with | .ok x=>xF G x|_=>.wall)=_;rw[cN (yo rfl) e2];show(if(((kr T).map (rw1 F T)).map pkK).Nodup then _ else _)=_;rw[if_pos (by rw[R7];exact sD nd),u8,Xi,R7,R7];congr 3;refine a0C λt _=>?_;show Cell.l (((bN F T t).map PV.s).map HV.v)=_;rw[R7];rfl
 exact fZ (zM (qe Aa) (fT e3))
end
def dN:∀{a:MD},uE (gQ 7) (a.map .s) (a.map .s)=some true
 |[]=>rfl
 |x::a=>by show G5 (some (x==x)) (uE (gQ 7) (a.map .s) (a.map .s))=_;rw[dN,a0V];rfl
def LF{a:MD}:Vo true (.l (a.map .s)) (.l (a.map .s))=.ok (.b false):=by rw[Il,dN];rfl
def bD(h:ms ρ G=.ok xs G1)(hf:f xs G1=o):fi f ms ρ G=o:=by unfold fi;rw[h];exact hf
def sF(hi:ρ[i]?=some (some (.g k)))(hk:G[k]?=some (.d kvs))(h:Xy g b ((kvs.map λkx=>kP kx.1).map .v) ρ (G.set k (.z kvs))=.nx ρ' G')(hz:G'[k]?=some (.z kvs)):mK i g b ρ G=.nx ρ' (G'.set k (.d kvs)):=by unfold mK;rw[hi];dsimp only;rw[hk];dsimp only;rw[h];show(match G'[k]? with|some (.z kvs)=>HFw.nx ρ' (G'.set k (.d kvs))|_=>.wall)=_;rw[hz]
def sG{g:HMG}{b:HMS}{J:ZL->AH->Prop}:∀{xs:List HV}{ρ:ZL}{G:AH},J ρ G->(∀x∈xs,∀ρ G,J ρ G->∃ρ1,g x ρ=some ρ1/\∃ρ2 G2,b ρ1 G=.nx ρ2 G2/\J ρ2 G2)->∃ρ' G',J ρ' G'/\Xy g b xs ρ G=.nx ρ' G'
 |[],ρ,G,h,_=>⟨ρ,G,h,rfl⟩
 |x::xs,ρ,G,h,hs=>by obtain⟨ρ1,e1,ρ2,G2,e2,h2⟩:=hs x M3 ρ G h;obtain⟨ρ',G',h',e'⟩:=sG (xs:=xs) h2 λy hy=>hs y (M8 _ hy);refine⟨ρ',G',h',?_⟩;unfold Xy;rw[e1];dsimp only;rw[e2];exact e'
section
variable {N:MD}{W:List Wy}{F:Str->Ht}{T:List Tp}{t u:Tp}{ro:PV}
abbrev f6(F:Str->Ht)(T:List Tp):List (Key×PV):=(kr T).map λt=>(sk t.1,.l ((bN F T t).map .s))
abbrev UM(F:Str->Ht)(T:List Tp):List (Key×HV):=vK (f6 F T)
def Ms{G:AH}{z:MD}{k n:Nat}(h:G[k]?=some (.l (z.map λz=>.v (.s z)))):jN G (n+2) (.g k)=some (.l (z.map .s)):=by
 unfold jN;rw[h];show(u9 (jN G (n+1)) (z.map λz=>.v (.s z))).map PV.l=_;rw[show(z.map λz=>HV.v (PV.s z))=(z.map PV.s).map HV.v by rw[R7];rfl];have:∀{xs:MX},u9 (jN G (n+1)) (xs.map .v)=some xs:=λ{xs}=>by
  induction xs with
  |nil=>rfl
  |cons x xs ih=>show((jN G (n+1) (.v x)).bind λy=>(u9 (jN G (n+1)) (xs.map .v)).map (y::·))=_;rw[ih];rfl
 rw[this];rfl
def GG{G:AH}{n:Nat}:∀{U:List Tp}{m:Nat},(∀(i:Nat) t,U[i]?=some t->G[m+i]?=some (.l ((bN F T t).map λz=>.v (.s z))))->bM (jN G (n+2)) (dlK m (U.map (rw1 F T)))=some (U.map λt=>(sk t.1,.l ((bN F T t).map .s)))
 |[],_,_=>rfl
 |t::U,m,h=>by show((jN G (n+2) (.g m)).bind λy=>(bM (jN G (n+2)) (dlK (m+1) (U.map (rw1 F T)))).map ((sk t.1,y)::·))=_;rw[Ms (show G[m]?=_ from h 0 t rfl),GG (U:=U) (m:=m+1) λi t e=>by rw[show m+1+i=m+(i+1) by omega];exact h (i+1) t e];rfl
def dO(hf:G[f]?=some (.d (dlK m ((kr T).map (rw1 F T)))))(h:∀(i:Nat) t,(kr T)[i]?=some t->G[m+i]?=some (.l ((bN F T t).map λz=>.v (.s z)))):jN G (n+3) (.g f)=some (.d (f6 F T)):=by unfold jN;rw[hf];show(bM (jN G (n+2)) (dlK m ((kr T).map (rw1 F T)))).map PV.d=_;rw[GG h];rfl
def sH(hd:G[d]?=some (.d (UM F T))\/G[d]?=some (.z (UM F T))):jN G (n+2) (.g d)=some (.d (f6 F T)):=by
 unfold jN;rcases hd with h|h
 .rw[h];show(bM (jN G (n+1)) (vK (f6 F T))).map PV.d=_;rw[dG];rfl
 .rw[h];show(bM (jN G (n+1)) (vK (f6 F T))).map PV.d=_;rw[dG];rfl
def GH(nd:(T.map (·.1)).Nodup)(h:t∈kr T):pIx (.d (f6 F T)) (.s t.1)=.ok (.l ((bN F T t).map .s)):=by show wu (zK (f6 F T) (sk t.1))=_;rw[lD (sD nd) h];rfl
def LH:((UM F T).map λkx=>kP kx.1).map HV.v=(kr T).map λt=>HV.v (.s t.1):=by unfold UM f6 vK;rw[R7,R7,R7];rfl
def DI{U:List Tp}:∀{m i:Nat},(U.map (·.1)).Nodup->U[i]?=some t->zK (dlK m (U.map (rw1 F T))) (sk t.1)=some (.g (m+i)):=by
 induction U with
 |nil=>intro m i _ h;rw[List.getElem?_nil]at h;cases h
 |cons u U ih=>
  intro m i nd h;rw[N5]at nd;obtain⟨n1,n2⟩:=a0b.mp nd;show zK ((sk u.1,HV.g m)::dlK (m+1) (U.map (rw1 F T))) (sk t.1)=_;rw[zT];cases i with
  |zero=>rw[a1o]at h;cases h;rw[if_pos rfl];rfl
  |succ i=>rw[P6]at h;rw[if_neg λe=>n1 (by rw[a0w e];exact S9 (a0y h)),ih n2 h,show m+1+i=m+(i+1) by omega]
def sI(nd:(T.map (·.1)).Nodup)(hT:∀t∈T,TOk N F t)(hl:T.length<=40)(hd:G[d]?=some (.d (UM F T))):∃G',Zd [.v (yt (roP N W F) T),.g d] G=.ok (.v (.b true)) G'/\G'[d]?=some (.d (UM F T)):=by
 have dl:=(N7.mp hd).1;have lo:(kr T).length=T.length:=Xi;obtain⟨f,hf⟩:∃f,f=G.length+T.length:=⟨_,rfl⟩;obtain⟨G1,hG1⟩:∃G1,G1=(G++(kr T).map λt=>Cell.l ((bN F T t).map λz=>.v (.s z)))++[.d (dlK G.length ((kr T).map (rw1 F T)))]:=⟨_,rfl⟩;have e2:=Ab (W:=W) (G:=G) nd hT hl;rw[<- hf,<- hG1]at e2;have ll:(G++(kr T).map λt=>Cell.l ((bN F T t).map λz=>.v (.s z))).length=f:=by rw[O6,u8,lo,hf]
 have l1:G1.length=f+1:=by rw[hG1,O6,ll];rfl
 have g_d:G1[d]?=some (.d (UM F T)):=by rw[hG1,T9,T5 dl];exact hd
 have g_f:G1[f]?=some (.d (dlK G.length ((kr T).map (rw1 F T)))):=by rw[hG1,a0P (by rw[ll];exact M7 _),ll,Nat.sub_self];rfl
 have g_r:∀(i:Nat) t,(kr T)[i]?=some t->G1[G.length+i]?=some (.l ((bN F T t).map λz=>.v (.s z))):=λi t e=>by have hi:i<(kr T).length:=(N7.mp e).1;rw[hG1,T5 (by rw[ll];omega),a0P (by omega),show G.length+i-G.length=i by omega,P2,e];rfl
 have df:d≠f:=by omega
 have tv:∀(o:Option HV),Kf [false,true,true] [some (.v (yt (roP N W F) T)),some (.g d),some (.g f),o]=none:=λ_=>rfl;have r_f:=dO (n:=5) g_f g_r;have r_d:=sH (n:=6) (.inl g_d);have lk:(f6 F T).map (λkx=>kP kx.1)=((kr T).map (·.1)).map .s:=by unfold f6;rw[R7,R7];rfl
 have i1:hIf (hPT [false,true,true] (mOr (tQ (yH (mUn (Cr [(.dict,true)]) (zc 2)))) (yH (mOp (Vo true) (zj qv (zb (zc 2) zq)) (zj qv (zb (zc 1) zq)))))) (ib (hP [] (mC (.b false)))) Wt [some (.v (yt (roP N W F) T)),some (.g d),some (.g f),none] G1=.nx [some (.v (yt (roP N W F) T)),some (.g d),some (.g f),none] G1:=by refine(fR (fS (b:=false) rfl (iP (ny r_d (ny r_f (LD Hh)))) (fL (x:=false) (y:=false) rfl (yE (zp (zu (xs:=[.d (f6 F T)]) rfl (show _=Out.ok (PV.l (((kr T).map (·.1)).map .s))from by rw[<- lk];rfl)) (zu (xs:=[.d (f6 F T)]) rfl (show _=Out.ok (PV.l (((kr T).map (·.1)).map .s))from by rw[<- lk];rfl)) LF))))).trans rfl
 have sd:∀{H:AH}{c:Cell},d<H.length->(H.set d c)[d]?=some c:=λh=>P5 h;have sn:∀{H:AH}{c:Cell}{j:Nat},j≠d->(H.set d c)[j]?=H[j]?:=λh=>P0 (Ne.symm h);obtain⟨ρ3,G3,⟨⟨o3,h3⟩,h3'⟩,e3⟩:=sG (g:=JE) (b:=JF) (J:=λρ G=>(∃o,ρ=[some (.v (yt (roP N W F) T)),some (.g d),some (.g f),o])/\G=G1.set d (.z (UM F T))) (xs:=(kr T).map λt=>HV.v (.s t.1)) ⟨⟨none,rfl⟩,rfl⟩ (λx hx ρ H ⟨⟨o,ho⟩,hH⟩=>by
  subst ho hH;obtain⟨t,ht,rfl⟩:=a0a.mp hx;have q_f:=dO (F:=F) (T:=T) (n:=5) (G:=G1.set d (.z (UM F T))) (f:=f) (m:=G.length) (by rw[sn (Ne.symm df)];exact g_f) (λi t e=>by rw[sn (by omega)];exact g_r i t e);have q_d:=sH (F:=F) (T:=T) (n:=6) (G:=G1.set d (.z (UM F T))) (d:=d) (.inr (sd (by omega)));have x1:∀{a b:ME}{ρ:Sto},a ρ=.ok (.d (f6 F T))->b ρ=.ok (.s t.1)->mOp pIx a b ρ=.ok (.l ((bN F T t).map .s)):=λh1 h2=>zp h1 h2 (GH nd ht);refine⟨_,rfl,_,_,(fR (fS (b:=false) rfl (iP (ny q_d (ny q_f (ny rfl Hh)))) (fL (x:=false) (y:=false) (rU (x:=true) (yE ?_)) (yE (zp (x1 rfl rfl) (x1 rfl rfl) LF))))).trans rfl,⟨_,rfl⟩,rfl⟩;show(mOp pIx (zc 2) (zc 3) _).bind _=_;rw[x1 rfl rfl];rfl)
 subst h3 h3';have f1:=sF (i:=1) (k:=d) rfl g_d (by rw[LH];exact e3) (sd (by omega));rw[List.set_set]at f1;have g1d:G1.set d (.d (UM F T))=G1:=by
  refine List.ext_getElem? λj=>?_;by_cases h:j=d
  .subst h;rw[sd (by omega)];exact g_d.symm
  .rw[sn h]
 rw[g1d]at f1;obtain⟨ρ4,G4,⟨⟨o4,h4⟩,h4l,h4d,h4f,h4r⟩,e4⟩:=sG (g:=JG) (b:=JH) (J:=λρ H=>(∃o,ρ=[some (.v (yt (roP N W F) T)),some (.g d),some (.g f),o])/\H.length=f+1/\H[d]?=some (.z (UM F T))/\H[f]?=some (.d (dlK G.length ((kr T).map (rw1 F T))))/\∀i,i<(kr T).length->∃xs,H[G.length+i]?=some (.l xs)) (xs:=(kr T).map λt=>HV.v (.s t.1)) (G:=G1.set d (.z (UM F T))) (ρ:=[some (.v (yt (roP N W F) T)),some (.g d),some (.g f),o3]) ⟨⟨o3,rfl⟩,by rw[P1];exact l1,sd (by omega),by rw[sn (Ne.symm df)];exact g_f,λi hi=>⟨_,by rw[sn (by omega)];exact g_r i _ (N6 hi)⟩⟩ (λx hx ρ H ⟨⟨o,ho⟩,a1,a2,a3,a4⟩=>by
  subst ho;obtain⟨t,ht,rfl⟩:=a0a.mp hx;obtain⟨i,hi,et⟩:=List.getElem_of_mem ht;obtain⟨xs,ex⟩:=a4 i hi;have eg:zK (dlK G.length ((kr T).map (rw1 F T))) (sk t.1)=some (.g (G.length+i)):=DI (sD nd) (by rw[<- et];exact N6 hi);refine⟨_,rfl,[some (.v (yt (roP N W F) T)),some (.g d),some (.g f),some (.v (.s t.1))],H.set (G.length+i) (.l []),?_,⟨_,rfl⟩,by rw[P1];exact a1,by rw[P0 (by omega)];exact a2,by rw[P0 (by omega)];exact a3,λj hj=>?_⟩
  .show Hc (hIx (Y5 2) (Y5 3)) [some (.v (yt (roP N W F) T)),some (.g d),some (.g f),some (.v (.s t.1))] H=_;have ei:hIx (Y5 2) (Y5 3) [some (.v (yt (roP N W F) T)),some (.g d),some (.g f),some (.v (.s t.1))] H=.ok (.g (G.length+i)) H:=by
    show(match ixH H (.g f) (.v (.s t.1))with|some z=>HX.ok z H|none=>.wall)=_;have:ixH H (.g f) (.v (.s t.1))=some (.g (G.length+i)):=by show(match H[f]? with|some (.l xs)=>_|some (.d kvs)=>_|some (.z kvs)=>_|_=>_)=_;rw[a3];exact eg
    rw[this]
   unfold Hc;rw[ei];show(match H[G.length+i]? with|some (.l _)=>HFw.nx _ (H.set (G.length+i) (.l []))|_=>.wall)=_;rw[ex]
  .by_cases c:i=j
   .subst c;exact⟨[],P5 (by omega)⟩
   .obtain⟨ys,ey⟩:=a4 j hj;exact⟨ys,by rw[P0 (by omega)];exact ey⟩)
 subst h4;have f2:=sF (i:=1) (k:=d) rfl g_d (by rw[LH];exact e4) h4d;have e5:CZ (Y5 2) [some (.v (yt (roP N W F) T)),some (.g d),some (.g f),o4] (G4.set d (.d (UM F T)))=.nx [some (.v (yt (roP N W F) T)),some (.g d),some (.g f),o4] ((G4.set d (.d (UM F T))).set f (.d [])):=by show(match(G4.set d (.d (UM F T)))[f]? with|some (.d _)=>HFw.nx _ ((G4.set d (.d (UM F T))).set f (.d []))|_=>.wall)=_;rw[sn (Ne.symm df),h4f]
 refine⟨(G4.set d (.d (UM F T))).set f (.d []),fZ (zM (qe (bD (xs:=[.v (yt (roP N W F) T)]) rfl e2)) (zM i1 (zM f1 (zM f2 (zM e5 (fT (bw rfl rfl))))))),?_⟩;rw[P0 (Ne.symm df)];exact sd (by omega)
end
def lE{g:HMG}{b:HMS}{G:AH}{J:ZL->Prop}:∀{xs:List HV}{ρ:ZL},J ρ->(∀x∈xs,∀ρ,J ρ->∃ρ1,g x ρ=some ρ1/\∃ρ2,b ρ1 G=.nx ρ2 G/\J ρ2)->∃ρ',J ρ'/\Xy g b xs ρ G=.nx ρ' G
 |[],ρ,h,_=>⟨ρ,h,rfl⟩
 |x::xs,ρ,h,hs=>by obtain⟨ρ1,e1,ρ2,e2,h2⟩:=hs x M3 ρ h;obtain⟨ρ',h',e'⟩:=lE (xs:=xs) h2 λy hy=>hs y (M8 _ hy);refine⟨ρ',h',?_⟩;unfold Xy;rw[e1];dsimp only;rw[e2];exact e'
def lF(h0:Kf bs ρ=some r)(h1:mi r=.ok xs)(h:Xy g b (xs.map .v) ρ G=o):fm bs mi g b ρ G=o:=by unfold fm;rw[h0];dsimp only;rw[h1];exact h
def IY(h0:Wv G bs ρ=some r)(h2:m r=.ok x):hW bs m ρ G=.ok (.v x) G:=by unfold hW;rw[h0];dsimp only;rw[h2]
def jS(W:List Wy):List Wy:=W.map λw=>(w.1,w.2.1,1+w.2.2 / 2)
def f7(h:WS P W):WS P (jS W):=λw hw=>by obtain⟨u,hu,rfl⟩:=a0a.mp hw;obtain⟨a,b,c,d⟩:=h u hu;exact⟨a,b,by show 1<=1+u.2.2 / 2;omega,by show 1+u.2.2 / 2<=_;omega⟩
def DJ(h:WS P W)(k:WkM P W M a b v):∃u,u<=v/\WkM P (jS W) M a b u:=by
 induction k with
 |nil h=>exact⟨0,a0H _,.nil h⟩
 |@edge w hw=>have:=(h w hw).2.2.1;exact⟨1+w.2.2 / 2,by omega,WkM.edge (w:=(w.1,w.2.1,1+w.2.2 / 2)) (S9 (f:=λw:Wy=>((w.1,w.2.1,1+w.2.2 / 2):Wy)) hw)⟩
 |via hm _ _ i j=>obtain⟨x,lx,kx⟩:=i;obtain⟨y,ly,ky⟩:=j;exact⟨x+y,by omega,.via hm kx ky⟩
def GI(h:WS P W)(gF:∀z,Xa z W (F z))(gF2:∀z,Xa z (jS W) (F2 z))(k:TOk P F t):TOk P F2 t:=by obtain⟨ho,hg,⟨y,ey,ly⟩,a,b,c,d⟩:=k;obtain⟨u,lu,ku⟩:=DJ h (Xf h (gF t.2.1) ho _ (M7 _) ey);obtain⟨y2,l2,e2⟩:=dD (f7 h) (gF2 t.2.1) ku 0 (gF2 t.2.1).1.own;exact⟨ho,hg,⟨y2,e2,by omega⟩,a,b,c,d⟩
def rok(hW:WS P W)(nd:P.Nodup)(hP:∀z∈P,Nm z)(h1:P.length<=5)(h2:W.length<=13):ROk P W:=by constructor<;>first|exact nd|exact hP|omega|exact hW.ok
section
variable {N:MD}{W:List Wy}{F:Str->Ht}{T U V:List Tp}{t u:Tp}{ro:PV}{L:Lst}
def UN(hL:LOk N L F)(h1:t.2.2.1∈N)(h2:u.2.1∈N):qc [tP t,tP u,.dt L]=.ok (.b (lnk F t u)):=by
 have el:=hL _ h1 _ h2;have i1:=qK (ρ:=[some (tP t),some (tP u),some (.dt L)]) (a:=ZM (mC (.b false))) (b:=yN) (dy (n:=true) (ms:=zb (mOp pIx (zc 0) (mC (.i 2))) (zb (mOp pIx (zc 1) (mC (.i 1))) zq)) (m:=zc 2) (x:=t.2.2.1) (y:=u.2.1) (L:=L) rfl rfl);rw[el]at i1;unfold lnk;cases e:zK (F t.2.2.1) (sk u.2.1)with
 |none=>rw[e]at i1;exact zY (az i1)
 |some y=>rw[e]at i1 el;exact zY (ze ⟨_,i1,JM (zp (zp (x:=.i t.2.2.2.2.1) rfl (dz rfl rfl el) rfl) (y:=.i u.2.2.2.1) rfl rfl)⟩)
def BF:(kr T).Pairwise λa b=>D3.kle (lh a) (lh b):=by
 unfold kr;rw[List.pairwise_map];have g:∀i,(T.map lh).getD i (0,0,"")=lh (T.getD i ("","","",0,0,0)):=λi=>by rw[a0f,a0f,P2];cases T[i]?<;>rfl
 exact(YV (T.map lh)).2.imp λ{i j} h=>by rw[g,g]at h;exact h
def GJ(nd:(T.map (·.1)).Nodup)(h:V.Perm T):kr V=kr T:=by refine a2d (λa b ha hb h1 h2=>?_) BF BF (vp.trans (h.trans vp.symm));have e:=PyProof.Rows.KeyOrd.kle_antisymm h1 h2;exact BE nd (h.mem_iff.mp (vp.mem_iff.mp ha)) (vp.mem_iff.mp hb) (T6 (λk:XA=>k.2.2) e)
def lG:∀{T:List Tp},Ki (rL 1 jg) (T.map tP)=some (T.map lh)
 |[]=>rfl
 |t::T=>by
  have e:rL 1 jg [tP t]=.ok (.t [.i t.2.2.2.1,.i t.2.2.2.2.1,.s t.1]):=by show(match jg [some (tP t)]with | .ok y=>Out.ok y|_=>.wall)=_;rw[show jg [some (tP t)]=.ok (.t [.i t.2.2.2.1,.i t.2.2.2.2.1,.s t.1])from fP rfl (S8 rfl)]
  show(match rL 1 jg [tP t]with
   |.ok (.t [.i a,.i b,.s c])=>(Ki (rL 1 jg) (T.map tP)).map ((a,b,c)::·)
   |_=>none)=_
  rw[e];show(Ki (rL 1 jg) (T.map tP)).map _=_;rw[lG];rfl
def Ac(nd:(T.map (·.1)).Nodup)(hl:T.length<64):XE (rL 1 jg) (T.map tP)=.ok (.l ((kr T).map tP)):=by refine Eq.trans ?_ (lj nd hl);unfold XE;rw[lG,bA]
def sJ(h5:ρ[5]?=some (some (.v (.l (T.map tP)))))(nd:(T.map (·.1)).Nodup)(hl:T.length<64):iu (rL 1 jg) (Wr (Y5 5) Bd) ρ (.y true::G)=.ok (.v (.l ((kr T).map tP))) (.y false::G):=by
 unfold iu;have e:Wr (Y5 5) Bd ρ (.y true::G)=.ok [.v (.l (T.map tP))] (.y true::G):=by show(match ρ[5]? with|some (some x)=>HX.ok x (Cell.y true::G)|_=>.wall).bind _=_;rw[h5];rfl
 rw[e];show(match XE (rL 1 jg) (T.map tP)with | .ok z=>HX.ok (HV.v z) (Cell.y false::G)|_=>.wall)=_;rw[Ac nd hl]
abbrev duA(F:Str->Ht)(U A:List Tp):List (Key×PV):=A.map λt=>(sk t.1,.l (((U.filter (lnk F t)).map (·.1)).map .s))
def DK(h:kr V=U):f6 F V=duA F U U:=by unfold f6 duA bN;rw[h]
def Ad(h:z∉A.map (·.1)):zK (duA F U A) (sk z)=none:=by
 cases e:zK (duA F U A) (sk z)with
 |none=>rfl
 |some x=>obtain⟨t,ht,e2⟩:=a0a.mp (wU e);cases e2;exact absurd (S9 ht) h
def DL(h:t.1∉A.map (·.1)):dput (vK (duA F U A)) (sk t.1) (.v (.l (((U.filter (lnk F t)).map (·.1)).map .s)))=vK (duA F U (A++[t])):=by unfold vK;rw[bx];congr 1;unfold dput;rw[kh,Ad h];unfold duA;rw[R4];rfl
def GK(nd:((A++[t]).map (·.1)).Nodup):pIx (.d (duA F U (A++[t]))) (.s t.1)=.ok (.l (((U.filter (lnk F t)).map (·.1)).map .s)):=by show wu (zK (duA F U (A++[t])) (sk t.1))=_;unfold duA;rw[lD nd (O3 _ M3)];rfl
def GL(nd:(U.map (·.1)).Nodup)(hu:u∈U):decide (u.1∈(U.filter (lnk F t)).map (·.1))=lnk F t u:=by
 cases e:lnk F t u with
 |true=>exact O0 (S9 (a0Z.mpr ⟨hu,e⟩))
 |false=>refine N8 λh=>?_;obtain⟨v,hv,ev⟩:=a0a.mp h;obtain⟨h1,h2⟩:=a0Z.mp hv;rw[BE nd h1 hu ev,e]at h2;cases h2
end
section
variable {ns:Nc}{P:MD}{W:List Wy}{F F2:Str->Ht}{L L2:Lst}{n:Nat}{U V:List Tp}{t u:Tp}{r2:PV}
abbrev l12(ns:Nc)(P:MD)(W:List Wy)(L:Lst)(n:Nat)(U V:List Tp)(ta tb:PV)(L2:Lst)(r:ZL):ZL:=[some (.v (.sc ns)),some (.v (.l (P.map .s))),some (.v (.l (W.map wP))),some (.v (.dt L)),some (.v (.i (n:Int))),some (.v (.l (U.map tP))),some (.v (.l (V.map tP))),some (.v ta),some (.v (.l ((jS W).map wP))),some (.v (.dt L2)),some (.v tb),some (.g 1)]++r
abbrev gA(F:Str->Ht)(U A:List Tp):AH:=[.y false,.d (vK (duA F U A))]
def LJ:Vo true (.b b) (.b b)=.ok (.b false):=by cases b<;>rfl
def DM(ndU:(U.map (·.1)).Nodup)(hV:kr V=U)(ndV:(V.map (·.1)).Nodup)(mV:∀t,t∈V↔t∈U)(hT:∀t∈U,TOk P F t)(hT2:∀t∈U,TOk P F2 t)(hL:LOk P L F)(hL2:LOk P L2 F2)(hl:U.length<=40)(ht:t∈U)(nA:((A++[t]).map (·.1)).Nodup)(lA:A.length<=40):
  ∃x' y',Ze (l12 ns P W L n U V (yt (roP P W F) V) (yt (roP P (jS W) F2) U) L2 [some (.v (tP t)),x,y,none]) (gA F U A)=.nx (l12 ns P W L n U V (yt (roP P W F) V) (yt (roP P (jS W) F2) U) L2 [some (.v (tP t)),x',y',none]) (gA F U (A++[t])):=by
 have hz:t.1∉A.map (·.1):=λh=>by rw[R4]at nA;exact(a0p.mp nA).2.2 _ h _ M3 rfl
 have c1:=Wk (g:=bj) (c:=bo) (e:=bp) tP (lnk F t) (λu=>.s u.1) (λρ=>∃o,ρ=[o,some (tP t),some (.dt L)]) U [none,some (tP t),some (.dt L)] [] ⟨none,rfl⟩ (λu hu ρ ⟨o,ho⟩=>by
  subst ho;exact⟨_,rfl,⟨_,rfl⟩,yE (zu (xs:=[tP t,tP u,.dt L]) rfl (UN hL (hT t ht).goal (hT u hu).org)),λ_=>rfl⟩) (by show 0+_<=_;omega)
 rw[a0A,show((U.filter (lnk F t)).map λu=>PV.s u.1)=((U.filter (lnk F t)).map (·.1)).map .s by rw[R7];rfl]at c1;have e1:CW (Y5 11) (hP [false,false,false,false,false,false,false,false,false,false,false,false,true] (mOp pIx (zc 12) (mC (.i 0)))) (hP [false,false,false,true,false,true,false,false,false,false,false,false,true] (mLC (yn (zc 5)) [none,some 12,some 3] bj bo bp)) (l12 ns P W L n U V (yt (roP P W F) V) (yt (roP P (jS W) F2) U) L2 [some (.v (tP t)),x,y,none]) (gA F U A)=.nx (l12 ns P W L n U V (yt (roP P W F) V) (yt (roP P (jS W) F2) U) L2 [some (.v (tP t)),x,y,none]) (gA F U (A++[t])):=by refine(sA (y:=.v (.l (((U.filter (lnk F t)).map (·.1)).map .s))) (k:=1) (z:=.s t.1) (q:=sk t.1) (bw rfl (cN (yo rfl) c1)) rfl (bw rfl rfl) rfl rfl (by unfold vK duA;rw[u8,u8];omega)).trans ?_;rw[DL hz];rfl
 obtain⟨ρ2,⟨x2,y2,rfl⟩,e2⟩:=lE (g:=iL) (b:=iM) (G:=gA F U (A++[t])) (J:=λρ=>∃x y,ρ=l12 ns P W L n U V (yt (roP P W F) V) (yt (roP P (jS W) F2) U) L2 [some (.v (tP t)),x,y,none]) (xs:=(U.map tP).map .v) (ρ:=l12 ns P W L n U V (yt (roP P W F) V) (yt (roP P (jS W) F2) U) L2 [some (.v (tP t)),x,y,none]) ⟨x,y,rfl⟩ (λv hv ρ ⟨x,y,hρ⟩=>by
  subst hρ;obtain⟨p,hp,rfl⟩:=a0a.mp hv;obtain⟨u,hu,rfl⟩:=a0a.mp hp;have k1:=Xk (W:=W) ndV (λt h=>hT t ((mV t).mp h)) ((mV t).mpr ht) ((mV u).mpr hu);have k2:=Xk (W:=jS W) ndU hT2 ht hu;have rd:jN (gA F U (A++[t])) 8 (.g 1)=some (.d (duA F U (A++[t]))):=by unfold jN;show(bM (jN _ 7) (vK (duA F U (A++[t])))).map PV.d=_;rw[dG];rfl
  refine⟨_,rfl,_,zM (qe (bw rfl (zu (xs:=[yt (roP P W F) V,.s t.1,.s u.1]) rfl k1))) (zM ((fR (fS (b:=false) rfl (iP (iP (iP (iP (iP (iP (iP (iP (iP (iP (iP (ny rd (ny rfl (ny rfl (ny rfl (LD Hh)))))))))))))))) (fL (x:=false) (y:=false) rfl (yE (zp (x:=.b (lnk F t u)) (y:=.b (lnk F t u)) rfl (zp (x:=.s u.1) rfl (zp rfl rfl (GK nA)) (Du.trans (by rw[GL ndU hu,a09]))) LJ))))).trans rfl) ((fR (iO (b:=false) rfl (yE (zp (zu (xs:=[yt (roP P (jS W) F2) U,.s t.1,.s u.1]) rfl k2) (zu (xs:=[tP t,tP u,.dt L2]) rfl (UN hL2 (hT2 t ht).goal (hT2 u hu).org)) LJ)))).trans rfl)),⟨_,_,rfl⟩⟩)
 exact⟨x2,y2,zM e1 (lF rfl (yo rfl) e2)⟩
def Ae(ndU:(U.map (·.1)).Nodup)(hV:kr V=U)(ndV:(V.map (·.1)).Nodup)(mV:∀t,t∈V↔t∈U)(hT:∀t∈U,TOk P F t)(hT2:∀t∈U,TOk P F2 t)(hL:LOk P L F)(hL2:LOk P L2 F2)(hl:U.length<=40):∀{R A:List Tp}{w x y:Option HV},A++R=U->
  ∃w' x' y',Xy JI Ze ((R.map tP).map .v) (l12 ns P W L n U V (yt (roP P W F) V) (yt (roP P (jS W) F2) U) L2 [w,x,y,none]) (gA F U A)=.nx (l12 ns P W L n U V (yt (roP P W F) V) (yt (roP P (jS W) F2) U) L2 [w',x',y',none]) (gA F U U):=by
 intro R
 induction R with
 |nil=>intro A w x y h;rw[P4]at h;subst h;exact⟨w,x,y,rfl⟩
 |cons t R ih=>
  intro A w x y h;have ea:A++[t]++R=U:=by rw[T9];exact h
  have nA:((A++[t]).map (·.1)).Nodup:=by rw[<- ea,R4]at ndU;exact(a0p.mp ndU).1
  have la:A.length+(R.length+1)=U.length:=by rw[<- h,O6];rfl
  obtain⟨x1,y1,e1⟩:=DM (ns:=ns) (W:=W) (n:=n) (x:=x) (y:=y) ndU hV ndV mV hT hT2 hL hL2 hl (by rw[<- h];exact O3 _ M3) nA (by omega);obtain⟨w',x',y',e2⟩:=ih (A:=A++[t]) (w:=some (.v (tP t))) (x:=x1) (y:=y1) ea;refine⟨w',x',y',?_⟩;show(match Ze (l12 ns P W L n U V (yt (roP P W F) V) (yt (roP P (jS W) F2) U) L2 [some (.v (tP t)),x,y,none]) (gA F U A)with
   |.nx ρ2 G2=>Xy JI Ze ((R.map tP).map .v) ρ2 G2
   |.ct ρ2 G2=>Xy JI Ze ((R.map tP).map .v) ρ2 G2
   |.bk ρ2 G2=>.nx ρ2 G2
   |.rt v G2=>.rt v G2
   |.exc c fs G2=>.exc c fs G2
   |.wall=>.wall)=_
  rw[e1];exact e2
end
def sL(h:Wv G bs ρ=some r):Wv G (false::bs) (x::ρ)=some (none::r):=by unfold Wv;rw[h];rfl
def Mu(hy:sres G x=some y)(h:Wv G bs ρ=some r):Wv G (true::bs) (some x::ρ)=some (some y::r):=by unfold Wv;rw[hy,h];rfl
def BG:∀{kvs:MY},ig (vK kvs)=some kvs
 |[]=>rfl
 | (k,x)::kvs=>by show(ig (vK kvs)).map ((k,x)::·)=_;rw[BG];rfl
def Af(h1:m1 ρ G=.ok (.v (.b true)) G1)(h2:m2 ρ G1=o):xy m1 m2 ρ G=o:=by unfold xy;rw[h1];show(if(true:Bool)=true then m2 ρ G1 else HX.ok (HV.v (PV.b false)) G1)=_;rw[if_pos rfl];exact h2
def Mv(h0:Kf bs ρ=some r)(h2:m r=.ok x)(hc:xb x=some c):hF bs m ρ G=.ok (.g G.length) (G++[c]):=by unfold hF;rw[h0];dsimp only;rw[h2];dsimp only;rw[hc]
def BH(h1:m ρ=.ok x)(h2:lo ρ=.ok l)(h3:hi ρ=.ok h):mSl pSl m lo hi ρ=pSl x l h:=by unfold mSl;rw[h1,okb,h2];show((hi ρ).bind λh=>pSl x l h)=_;rw[h3];rfl
def sO(h:m ρ=.ok (.i i)):vC m ρ=.ok (some i):=by unfold vC;rw[h];rfl
def BI(hT:∀t∈T,TOk P F t/\Nm t.1)(nd:(T.map (·.1)).Nodup)(hl:T.length<=40):mkV 10 yS [roP P W F,.l (T.map tP)]=.ok (yt (roP P W F) T):=by
 show(match yS [.g 0,.v (roP P W F),.v (.l (T.map tP))] [.o 10 []]with
  |.ok (.v .n) G=>(match jN G 8 (.g 0)with
   |some z=>Out.ok z
   |none=>.wall)
  |.exc c fs _=>.exc c fs
  |_=>.wall)=_
 rw[show yS [.g 0,.v (roP P W F),.v (.l (T.map tP))] [.o 10 []]=_ from x8 (A:=[]) hT nd hl];dsimp only;rw[DF (ro:=roP P W F) (T:=T) (j:=1) rfl rfl]
abbrev l5(ns:Nc)(P:MD)(W:List Wy)(L:Lst)(n:Nat)(U:List Tp)(r:ZL):ZL:=[some (.v (.sc ns)),some (.v (.l (P.map .s))),some (.v (.l (W.map wP))),some (.v (.dt L)),some (.v (.i (n:Int))),some (.v (.l (U.map tP)))]++r
def DN(lU:U.length=n)(l12:n<=12)(em:zz [.sc ns,.i 12,.i 65519]=.ok (.i m)):∃V:List Tp,V.Perm U/\
  hIf (hPT [true] (yH (mOp (Vo false) (mOp zS (mOp kg (zj zz (zb (zc 0) (zb (mC (.i 12)) (zb (mC (.i 65519)) zq)))) (mC (.i 5))) (mC (.i 2))) (mC (.i 1))))) (KN 6 (hP [false,false,false,false,true,true] (mOp mz (mSl pSl (zc 5) (vC (mOp kg (zc 4) (mC (.i 2)))) ao) (mSl pSl (zc 5) ao (vC (mOp kg (zc 4) (mC (.i 2)))))))) Wt (l5 ns P W L n U (some (.v (.l (U.reverse.map tP)))::List.replicate 9 none)) G=.nx (l5 ns P W L n U (some (.v (.l (V.map tP)))::List.replicate 9 none)) G:=by
 have t:=iO (G:=G) (bs:=[true]) (ρ:=l5 ns P W L n U (some (.v (.l (U.reverse.map tP)))::List.replicate 9 none)) rfl (iN (n:=1) (v5 (n:=2) (bu (n:=5) (zu (f:=zz) (ms:=zb (zc 0) (zb (mC (.i 12)) (zb (mC (.i 65519)) zq))) (xs:=[.sc ns,.i 12,.i 65519]) rfl em) (by decide) (by decide)) (by decide)));by_cases h:m / 5 % 2=1
 .rw[O0 h]at t;refine⟨U.drop (n / 2)++U.take (n / 2),List.perm_append_comm.trans (.of_eq (List.take_append_drop ..)),(IP t).trans (qe (bw rfl ?_))⟩;have e1:(((n:Int)) / 2).toNat=n / 2:=by omega
  have c1:cG (U.map tP) (some ((n:Int) / 2)) none=(U.map tP).drop (n / 2):=by rw[iZ (by omega) (by rw[u8];omega),e1]
  have c2:cG (U.map tP) none (some ((n:Int) / 2))=(U.map tP).take (n / 2):=by rw[dB (by omega),e1]
  have d2:=bu (a:=zc 4) (ρ:=[none,none,none,none,some (.i (n:Int)),some (.l (U.map tP)),none,none,none,none,none,none,none,none,none,none]) (x:=(n:Int)) (n:=2) rfl (by decide) (by decide);refine zp (x:=.l ((U.map tP).drop (n / 2))) (y:=.l ((U.map tP).take (n / 2))) ?_ ?_ ?_
  .exact(BH (m:=zc 5) (hi:=ao) (x:=.l (U.map tP)) rfl (sO d2) rfl).trans (T6 (λz=>Out.ok (PV.l z)) c1)
  .exact(BH (m:=zc 5) (lo:=ao) (x:=.l (U.map tP)) rfl rfl (sO d2)).trans (T6 (λz=>Out.ok (PV.l z)) c2)
  .show(if _<=sizeLine then Out.ok (PV.l ((U.map tP).drop (n / 2)++(U.map tP).take (n / 2)))else .wall)=_;rw[if_pos (P7 (show _<=100 by rw[a0U,a0c,u8];omega) (by decide)),R4,a2J,a1v]
 .rw[N8 h]at t;exact⟨U.reverse,List.reverse_perm U,(fR t).trans rfl⟩
def Ag(ns:Nc)(_:ns.length<=k):∃G,Bz [.v (.sc ns)] [.y true]=.ok (.v (.b true)) G:=by
 obtain⟨m1,p1,e1⟩:=Zf (ns:=ns) (k:=2) (p:=65449) (by decide) (by decide);obtain⟨m2,p2,e2⟩:=Zf (ns:=ns) (k:=11) (p:=65521) (by decide) (by decide);obtain⟨m3,p3,e3⟩:=Zf (ns:=ns) (k:=12) (p:=65519) (by decide) (by decide);obtain⟨P,lP,ndP,nmP,eP⟩:=dC (ns:=ns) (a:=0) (n:=(2+m1 % 4).toNat) (by decide) (by omega);rw[a1M (by omega)]at eP;obtain⟨W,lW,wsW,eW⟩:=xX (ns:=ns) (a:=3) (N:=P) (by decide) (by omega) (by omega);have R:=rok wsW ndP nmP (by omega) (by omega);obtain⟨F,kF⟩:=Xd R;have gF:=λz=>(kF z).1;obtain⟨L,hL,eL⟩:=Xg wsW (by omega) (by omega) gF;obtain⟨n,n2,en⟩:∃n:Nat,n<=12/\max (m2 % 4) ((min (ns.length:Int) 49-11) / 3)=(n:Int):=⟨(max (m2 % 4) ((min (ns.length:Int) 49-11) / 3)).toNat,by omega,by omega⟩;obtain⟨Q,lQ,ndQ,hQ,eQ⟩:=dC (ns:=ns) (a:=11) (n:=n) (by decide) (by omega);have far:∀o∈P,∀z y,zK (F o) (sk z)=some y->0<=y/\y<=800000000:=λo ho z y e=>by have:=mZ wsW (gF o) ho e;omega
 obtain⟨T,nT,hT0,eT⟩:=xZ (ns:=ns) (a:=13) (Q:=Q) (P:=P) (by decide) (by omega) (by omega) hL far (λo _=>(gF o).1.own);have lT:T.length=n:=by rw[<- lQ,<- nT,u8]
 have ndT:(T.map (·.1)).Nodup:=by rw[nT];exact ndQ
 obtain⟨U,hU⟩:∃U,kr T=U:=⟨_,rfl⟩;have pU:U.Perm T:=by rw[<- hU];exact vp
 have lU:U.length=n:=by rw[pU.length_eq,lT]
 have ndU:(U.map (·.1)).Nodup:=(pU.map (·.1)).nodup_iff.mpr ndT;have hT:∀t∈U,TOk P F t:=λt ht=>hT0 t (pU.mem_iff.mp ht);have nmU:∀t∈U,Nm t.1:=λt ht=>hQ _ (by rw[<- nT];exact S9 (pU.mem_iff.mp ht));obtain⟨V,pV,eV⟩:=DN (ns:=ns) (P:=P) (W:=W) (L:=L) (U:=U) (G:=[.y false]) lU n2 e3;have mV:∀t,t∈V↔t∈U:=λt=>pV.mem_iff;have ndV:(V.map (·.1)).Nodup:=(pV.map (·.1)).nodup_iff.mpr ndU;have lV:V.length=n:=by rw[pV.length_eq,lU]
 have oV:kr V=U:=by rw[GJ ndT (pV.trans pU),hU]
 have R2:=rok (f7 wsW) ndP nmP (by omega) (by unfold jS;rw[u8];omega);obtain⟨F2,kF2⟩:=Xd R2;have gF2:=λz=>(kF2 z).1;obtain⟨L2,hL2,eL2⟩:=Xg (f7 wsW) (by omega) (by unfold jS;rw[u8];omega) gF2;have hT2:∀t∈U,TOk P F2 t:=λt ht=>GI wsW gF gF2 (hT t ht);have i1:=si R (λz=>(kF z).2);have i2:=si R2 (λz=>(kF2 z).2);have t1:=BI (W:=W) (T:=V) (λt ht=>⟨hT t ((mV t).mp ht),nmU t ((mV t).mp ht)⟩) ndV (by omega);have t2:=BI (W:=jS W) (T:=U) (λt ht=>⟨hT2 t ht,nmU t ht⟩) ndU (by omega);obtain⟨a,b,ha,hb,es⟩:=dM (N:=U.map (·.1)) (by rw[u8];omega);have mN:∀z,z∈V.map (·.1)↔z∈U.map (·.1):=λz=>(pV.map (·.1)).mem_iff;have ha':a∉V.map (·.1):=λh=>ha ((mN a).mp h);have hb':b∉V.map (·.1):=λh=>hb ((mN b).mp h);have s8:lcP iI iJ iK (W.map wP) [none] []=.ok (.l ((jS W).map wP)):=by unfold jS;rw[R7];exact Kc wP (λw=>wP (w.1,w.2.1,1+w.2.2 / 2)) (λρ=>∃o,ρ=[o]) _ _ ⟨none,rfl⟩ (λw _ ρ ⟨o,ho⟩=>by subst ho;exact⟨_,rfl,⟨_,rfl⟩,fP (zw rfl (zw rfl (zw (zp rfl (bu (x:=w.2.2) rfl (by decide) (by decide)) rfl) rfl))) (S8 rfl)⟩) (by omega)
 have q4:KN 4 (hP [true] (zj DZ (zb (mOp zS (zj zz (zb (zc 0) (zb (mC (.i 11)) (zb (mC (.i 65521)) zq)))) (mC (.i 4))) (zb (mOp kg (mOp oE (zj aj (zb (zj Us (zb (zc 0) zq)) (zb (mC (.i 49)) zq))) (mC (.i 11))) (mC (.i 3))) zq)))) ([some (.v (.sc ns)),some (.v (.l (P.map .s))),some (.v (.l (W.map wP))),some (.v (.dt L))]++List.replicate 12 none) [.y true]=.nx ([some (.v (.sc ns)),some (.v (.l (P.map .s))),some (.v (.l (W.map wP))),some (.v (.dt L)),some (.v (.i (n:Int)))]++List.replicate 11 none) [.y true]:=by rw[<- en];exact qe (bw rfl (zu (zw (v5 (zu (xs:=[.sc ns,.i 11,.i 65521]) rfl e2) (by decide)) (zw (bu (zp (zu (zw (zu (xs:=[.sc ns]) rfl rfl) (zw rfl rfl)) rfl) rfl rfl) (by decide) (by decide)) rfl)) rfl))
 obtain⟨w,x,y,el⟩:=Ae (ns:=ns) (W:=W) (n:=n) ndU oV ndV mV hT hT2 hL hL2 (by omega) (R:=U) (A:=[]) (w:=none) (x:=none) (y:=none) (a0A _);have lk:(duA F U U).map (λkx=>kP kx.1)=(U.map (·.1)).map .s:=by unfold duA;rw[R7,R7];rfl
 have q15:KN 15 (hW [false,false,false,false,false,false,false,false,false,false,false,true] (zj ye (zb (zj qv (zb (zc 11) zq)) zq))) (l12 ns P W L n U V (yt (roP P W F) V) (yt (roP P (jS W) F2) U) L2 [w,x,y,none]) (gA F U U)=.nx (l12 ns P W L n U V (yt (roP P W F) V) (yt (roP P (jS W) F2) U) L2 [w,x,y,some (.v (.l [.s a,.s b]))]) (gA F U U):=by
  have hs:Wv (gA F U U) [false,false,false,false,false,false,false,false,false,false,false,true] (l12 ns P W L n U V (yt (roP P W F) V) (yt (roP P (jS W) F2) U) L2 [w,x,y,none])=some [none,none,none,none,none,none,none,none,none,none,none,some (.d (duA F U U)),none,none,none,none]:=by refine sL (sL (sL (sL (sL (sL (sL (sL (sL (sL (sL (Mu (y:=.d (duA F U U)) ?_ rfl)))))))))));show(ig (vK (duA F U U))).map PV.d=_;rw[BG];rfl
  have hd:qv [.d (duA F U U)]=.ok (.l ((U.map (·.1)).map .s)):=by show Out.ok (PV.l ((duA F U U).map λkx=>kP kx.1))=_;rw[lk]
  exact qe (IY hs (zu (zw (zu (xs:=[.d (duA F U U)]) rfl hd) rfl) es))
 have n1:=dJ (BD (GC (ro:=roP P W F) hb' (w:=a)));have q17:hIf (hPT [false,false,false,false,true,true,false,true,false,false,false,false,false,false,false,true] (d9 (yH (mOp pGt (zc 4) (mC (.i 0)))) (tQ (yH (zj yK (zb (zc 7) (zb (mOp pIx (mOp pIx (zc 5) (mC (.i 0))) (mC (.i 0))) (zb (mOp pIx (zc 15) (mC (.i 0))) (zb (mOp pIx (zc 15) (mC (.i 0))) zq))))))))) (ib (hP [] (mC (.b false)))) Wt (l12 ns P W L n U V (yt (roP P W F) V) (yt (roP P (jS W) F2) U) L2 [w,x,y,some (.v (.l [.s a,.s b]))]) (gA F U U)=.nx (l12 ns P W L n U V (yt (roP P W F) V) (yt (roP P (jS W) F2) U) L2 [w,x,y,some (.v (.l [.s a,.s b]))]) (gA F U U):=by
  refine(fR (iO (b:=false) rfl ?_)).trans rfl;by_cases h0:0<n
  .have h0':0<U.length:=by omega
   have n2:=dJ (BD (GD (ro:=roP P W F) ndV ((mV _).mpr (a0t h0')) ha'));have x0:pIx (.l (U.map tP)) (.i ((0:Nat):Int))=.ok (tP U[0]):=by rw[mW (by omega) (by rw[u8];omega),a0s];rfl
   exact JL (x:=true) (y:=false) ((W_ (x:=(n:Int)) rfl).trans (by rw[O0 (by omega)])) (rU (x:=true) (yE (zu (xs:=[yt (roP P W F) V,.s U[0].1,.s a,.s a]) (zw rfl (zw (zp (zp rfl rfl x0) rfl rfl) (zw rfl (zw rfl rfl)))) n2)))
  .exact fQ ((W_ (x:=(n:Int)) rfl).trans (by rw[N8 (by omega)]))
 have hd:(gA F U U)[1]?=some (.d (UM F V)):=by unfold UM;rw[DK oV];rfl
 obtain⟨G1,g1,d1⟩:=sI (W:=W) ndV (λt ht=>hT t ((mV t).mp ht)) (by omega) hd;obtain⟨G2,g2,d2⟩:=sI (W:=W) ndV (λt ht=>hT t ((mV t).mp ht)) (by omega) d1;have fin:rT ([some (.v (.sc ns))]++List.replicate 15 none) [.y true]=.rt (.v (.b true)) G2:=
  zM (qe (bw rfl (zu (zw rfl (zw rfl (zw (zp rfl (v5 (zu (xs:=[.sc ns,.i 2,.i 65449]) rfl e1) (by decide)) rfl) rfl))) eP))) (zM (qe (bw rfl (zu (zw rfl (zw rfl (zw rfl rfl))) eW))) (zM (qe (bw rfl (zu (zw rfl (zw rfl rfl)) eL))) (zM q4 (zM (qe (bw rfl (zu (zw rfl (zw rfl (zw (zu (xs:=[.sc ns,.i 11,.i (n:Int)]) rfl eQ) (zw rfl (zw rfl rfl))))) eT))) (zM (qe ((sJ (T:=T) (G:=[]) rfl ndT (by omega)).trans (by rw[hU]))) (zM (qe (bw (x:=.l (U.reverse.map tP)) rfl (zu (xs:=[.l (U.map tP)]) rfl (by rw[List.map_reverse];rfl)))) (zM eV (zM (qe (bw rfl (zu (xs:=[roP P W F,.l (V.map tP)]) (zw (zu rfl i1) (zw rfl rfl)) t1))) (zM (qe (bw rfl (cN (yo rfl) s8))) (zM (qe (bw rfl (zu (zw rfl (zw rfl rfl)) eL2))) (zM (qe (bw rfl (zu (xs:=[roP P (jS W) F2,.l (U.map tP)]) (zw (zu rfl i2) (zw rfl rfl)) t2))) (zM (qe (Mv (c:=.d []) rfl rfl rfl)) (zM (lF (g:=JI) (b:=Ze) rfl (yo rfl) el) (zM q15 (zM ((fR (iO (b:=false) rfl (rU (x:=true) (yE (zu (xs:=[yt (roP P W F) V,.s b,.s a,.s b]) rfl n1))))).trans rfl) (zM q17 (fT (Af (bD rfl g1) (bD rfl g2)))))))))))))))))))
 exact⟨G2,fZ fin⟩
end NCS
structure IsE{α:Type}(a b:α):Prop where
 e:a=b
def sP(K:Nj)(Pt:Addr):Sp:=λvs H Q _=>∃(a:Addr)(ns:Nc),vs=[.ref a]/\H Pt=some (.tbl #[])/\SqL K H a (ns.map V.int)/\ns.length<=63/\∀H',Q (.bl true) H'
def all_mk{l:W.OpenLaw}{w:M_}{K:Nj}{h:Heap}{mg:Mz}{fa zH yy z_ yT qx yz qw zE yc yx qg qh YG Xs JV Vd YN Vj JY j6 Qq j4 Zy wg ke j5 YC qF jj vy jD wj j3 QB vt jK wI ZF Qn ZJ jL k8 jM sW UT Qu jm jn wH dY Vi Qr gq bF gc:Addr}{Am:Ng}{lK:Nn}{YL Xu JX Vf YI Vg JW ZI Qo ZH ZG QA j_ ZD YE ZC vv vw wD Qm ZE Qs vx Qv wG ZK Qp ZA QD YM Qy tJ UW QF YH YK wF d0 Vc QE bG:Na}{Aj:Np}{dW Qt Zx QG lJ US lI dS UU d7 YD JZ:Tok}{Al:Value}(X:K.In h)(G:h.Ns mainGlobals mg)(hfa:mg "law"=some (.ref fa))
  (fD:W.nsIn K mainGlobals "LIMIT"=some (some (.int 1000000000 dW)))
  (Ya:W.nsIn K mainGlobals "NAME_SIGNS"=some (some (.str "abcdefghijklmnopqrstuvwxyz0123456789" Qt)))
  (vN:W.nsIn K mainGlobals "LONGEST_NAME"=some (some (.int 12 Zx)))
  (Yb:W.nsIn K mainGlobals "MOST_TRIPS"=some (some (.int 40 QG)))
  (KO:W.nsIn K mainGlobals "NAME"=some (some (.int 0 lJ)))
  (Jo:W.nsIn K mainGlobals "ORIGIN"=some (some (.int 1 US)))
  (c5:W.nsIn K mainGlobals "GOAL"=some (some (.int 2 lI)))
  (QU:W.nsIn K mainGlobals "START"=some (some (.int 3 dS)))
  (w8:W.nsIn K mainGlobals "FINISH"=some (some (.int 4 UU)))
  (fE:W.nsIn K mainGlobals "SEATS"=some (some (.int 5 d7)))
  (w_:W.nsIn K mainGlobals "MOST_PLACES"=some (some (.int 12 YD)))
  (QV:W.nsIn K mainGlobals "MOST_WAYS"=some (some (.int 60 JZ)))
  (Yc:NsR K "FleetError" zH)
  (Jp:NsR K "BadName" yy)
  (QW:NsR K "BadNumber" z_)
  (WI:NsR K "TooMany" yT)
  (fF:NsR K "Twice" qx)
  (WJ:NsR K "NoPlace" yz)
  (fG:NsR K "NoWay" qw)
  (VP:NsR K "NoTrip" zE)
  (Kp:NsR K "Backward" yc)
  (WK:NsR K "TooFast" yx)
  (aW:NsR K "Table" qg)
  (aX:NsR K "Roads" qh)
  (Yd:NsN K "ValueError")
  (rO:NsN K "bool")
  (c6:NsN K "dict")
  (qb:NsN K "isinstance")
  (Kq:NsN K "len")
  (jP:NsN K "list")
  (xI:NsN K "max")
  (mM:NsN K "min")
  (Ye:NsN K "range")
  (Kr:NsN K "reversed")
  (VQ:NsN K "sorted")
  (xJ:NsN K "str")
  (z7:DfN K "_law_cell_at" wV YG YL)
  (yV:DfN K "_law_mix" WB Xs Xu)
  (yP:DfN K "_law_names" QR JV JX)
  (kn:DfN K "_law_ways" Kj Vd Vf)
  (z8:DfN K "_law_lengths" wW YN YI)
  (YX:DfN K "_law_trip" Kk Vj Vg)
  (jx:DfN K "_law_trips" QS JY JW)
  (m8:XMk K yT j6)
  (Qx:Fun K "__init__" "TooMany.__init__" vE j6 ZI)
  (qM:DfN K "check_most" Z0 Qq Qo)
  (m6:XMk K yy j4)
  (QC:Fun K "__init__" "BadName.__init__" vF j4 ZH)
  (jG:DfN K "checked_name" vG Zy ZG)
  (Ak:XMk K qx wg)
  (Vl:Fun K "__init__" "Twice.__init__" Z1 wg QA)
  (yp:DfN K "checked_new_name" qT ke j_)
  (m7:XMk K yz j5)
  (Qw:Fun K "__init__" "NoPlace.__init__" vH j5 ZD)
  (yQ:DfN K "check_place" wX YC YE)
  (Ud:W.findIn K (.ref qh) "length"=some (some (.ref qF)))
  (wm:Fun K "length" "Roads.length" vI qF ZC)
  (d3:XMk K z_ jj)
  (Zz:Fun K "__init__" "BadNumber.__init__" jU jj vv)
  (z6:DfN K "checked_number" jV vy vw)
  (gj:XMk K yc jD)
  (YF:Fun K "__init__" "Backward.__init__" kE jD wD)
  (An:XMk K qw wj)
  (Vk:Fun K "__init__" "NoWay.__init__" Z2 wj Qm)
  (nh:XMk K yx j3)
  (Qz:Fun K "__init__" "TooFast.__init__" vJ j3 ZE)
  (vg:DfN K "check_trip" Z3 QB Qs)
  (yW:DfN K "place_in_order" jW vt vx)
  (dU:W.findIn K (.ref qg) "__init__"=some (some (.ref jK)))
  (Vh:Fun K "__init__" "Table.__init__" Z4 jK Qv)
  (qU:DfN K "_law_strangers" kG wI wG)
  (jH:DfN K "check_places" vL ZF ZK)
  (vh:DfN K "check_ways" Z5 Qn Qp)
  (y3:DfN K "heights_from" vM ZJ ZA)
  (dX:W.findIn K (.ref qh) "__init__"=some (some (.ref jL)))
  (Ve:Fun K "__init__" "Roads.__init__" Z6 jL QD)
  (tE:XMk K zE k8)
  (JU:Fun K "__init__" "NoTrip.__init__" wY k8 YM)
  (d4:W.findIn K (.ref qg) "trip"=some (some (.ref jM)))
  (YJ:Fun K "trip" "Table.trip" Z7 jM Qy)
  (xK:DfN K "gap" Dg sW tJ)
  (kj:DfN K "linked" aO UT UW)
  (jQ:DfN K "_law_nobody" Z8 Qu QF)
  (bK:W.findIn K (.ref qg) "names"=some (some (.ref jm)))
  (Zm:Fun K "names" "Table.names" wZ jm YH)
  (bL:W.findIn K (.ref qh) "names"=some (some (.ref jn)))
  (Zn:Fun K "names" "Roads.names" w4 jn YK)
  (yC:DfN K "linked_behind" kH wH wF)
  (Ks:DfN K "links" fC dY d0)
  (qj:DfN K "_law_told" Kl Vi Vc)
  (jR:DfN K "_law_behind" Z9 Qr QE)
  (fH:DfN K "law" Dh gq bG)
  (gm:ZQ K yy)
  (gk:XIs K yy)
  (gr:Catch K yy zH true)
  (VF:W.takerIn K yy "name"=some none)
  (VA:W.findIn K (.ref yy) "name"=some none)
  (bI:ZQ K z_)
  (bH:XIs K z_)
  (bJ:Catch K z_ zH true)
  (QZ:W.takerIn K z_ "value"=some none)
  (f_:ZQ K yT)
  (gg:XIs K yT)
  (gw:Catch K yT zH true)
  (Vy:W.takerIn K yT "most"=some none)
  (sU:ZQ K qx)
  (sZ:XIs K qx)
  (sY:Catch K qx zH true)
  (Uh:W.takerIn K qx "name"=some none)
  (Ug:W.findIn K (.ref qx) "name"=some none)
  (gi:ZQ K yz)
  (gh:XIs K yz)
  (gu:Catch K yz zH true)
  (VE:W.takerIn K yz "name"=some none)
  (VC:W.findIn K (.ref yz) "name"=some none)
  (sV:ZQ K qw)
  (tI:XIs K qw)
  (sX:Catch K qw zH true)
  (Vz:W.takerIn K qw "origin"=some none)
  (Ua:W.takerIn K qw "goal"=some none)
  (m9:ZQ K zE)
  (m_:XIs K zE)
  (ng:Catch K zE zH true)
  (Xo:W.takerIn K zE "name"=some none)
  (Xn:W.findIn K (.ref zE) "name"=some none)
  (d5:ZQ K yc)
  (dZ:XIs K yc)
  (d6:Catch K yc zH true)
  (Kv:W.takerIn K yc "name"=some none)
  (Kx:W.findIn K (.ref yc) "name"=some none)
  (gd:ZQ K yx)
  (gp:XIs K yx)
  (gf:Catch K yx zH true)
  (VD:W.takerIn K yx "name"=some none)
  (VB:W.findIn K (.ref yx) "name"=some none)
  (tH:Cls K qg)
  (tD:W.makesIn K qg=true)
  (tw:W.keepIn K (.ref qg)=true)
  (Kw:W.findIn K (.ref qg) "by_name"=some none)
  (Xt:W.findIn K (.ref qg) "order"=some none)
  (Xp:W.findIn K (.ref qg) "roads"=some none)
  (Xr:W.isFn K (.ref jm)=true)
  (Ui:W.isFn K (.ref jM)=true)
  (Ub:W.isFn K (.ref jK)=true)
  (sT:Cls K qh)
  (tF:W.makesIn K qh=true)
  (s_:W.keepIn K (.ref qh)=true)
  (Ky:W.findIn K (.ref qh) "lengths"=some none)
  (VG:W.findIn K (.ref qh) "places"=some none)
  (Ue:W.findIn K (.ref qh) "ways"=some none)
  (Vx:W.isFn K (.ref qF)=true)
  (Xq:W.isFn K (.ref jn)=true)
  (Uc:W.isFn K (.ref jL)=true)
  (qW:W.kitOne K (.ref yy) (.type "ValueError")=some true)
  (qX:W.kitOne K (.ref z_) (.type "ValueError")=some true)
  (qY:W.kitOne K (.ref yT) (.type "ValueError")=some true)
  (qZ:W.kitOne K (.ref qx) (.type "ValueError")=some true)
  (q_:W.kitOne K (.ref yz) (.type "ValueError")=some true)
  (ja:W.kitOne K (.ref qw) (.type "ValueError")=some true)
  (jb:W.kitOne K (.ref zE) (.type "ValueError")=some true)
  (jc:W.kitOne K (.ref yc) (.type "ValueError")=some true)
  (jd:W.kitOne K (.ref yx) (.type "ValueError")=some true)
  (vO:d_ K yy zE)
  (vP:d_ K z_ zE)
  (vQ:d_ K yT zE)
  (vR:d_ K qx zE)
  (vS:d_ K yz zE)
  (vT:d_ K qw zE)
  (vU:Lq K zE zE)
  (vV:d_ K yc zE)
  (vW:d_ K yx zE)
  (Yi:W.kitOne K (.type "dict") (.type "dict")=some true)
  (Yj:W.kitOne K (.type "list") (.type "list")=some true)
  (Yk:W.kitOne K (.type "bool") (.type "bool")=some true)
  (QX:W.kitOne K (.type "int") (.type "bool")=some false)
  (iF:IsE bG.code (.ref bF))
  (lk_tab:IsE (K.lookup bF) (some ⟨Al,Aj,.fields lK,Am⟩))
  (ix_tab:IsE (lK[11]?) (some (.ref gc)))
  (nt_tab:W.noTabs K=true)
  : ∃(fd:Na)(c Pt:Addr),W.tabIn K "law"=some (c,Pt)/\W.noTabs K=true/\(∀(s:MH)(v:Value),BindsTo s fd ⟨[v],[]⟩ [("_law_script",v)])/\∀base:Heap,K.In base->base.Ns mainGlobals mg->Dc base mg c Pt->y8 l.prog w K mg base (CXe l.prog w) 10 fa fd ["_law_script"] (sP K Pt):=by
 have e:gq=fa:=by have e:=hfa.symm.trans (a0g X G fH.1);injection e with e;injection e with e;exact e.symm
 subst e;have T:Txt K mg ⟨zH,yy,z_,yT,qx,yz,qw,zE,yc,yx,qg,qh,YG,Xs,JV,Vd,YN,Vj,JY,j6,Qq,j4,Zy,wg,ke,j5,YC,qF,jj,vy,jD,wj,j3,QB,vt,jK,wI,ZF,Qn,ZJ,jL,k8,jM,sW,UT,Qu,jm,jn,wH,dY,Vi,Qr,gq,bF,gc,YL,Xu,JX,Vf,YI,Vg,JW,ZI,Qo,ZH,ZG,QA,j_,ZD,YE,ZC,vv,vw,wD,Qm,ZE,Qs,vx,Qv,wG,ZK,Qp,ZA,QD,YM,Qy,tJ,UW,QF,YH,YK,wF,d0,Vc,QE,bG,dW,Qt,Zx,QG,lJ,US,lI,dS,UU,d7,YD,JZ⟩:=⟨⟨a0g X G fD,a0g X G Ya,a0g X G vN,a0g X G Yb,a0g X G KO,a0g X G Jo,a0g X G c5,a0g X G QU⟩,⟨a0g X G w8,a0g X G fE,a0g X G w_,a0g X G QV,a0g X G Yc,a0g X G Jp,a0g X G QW,a0g X G WI⟩,⟨a0g X G fF,a0g X G WJ,a0g X G fG,a0g X G VP,a0g X G Kp,a0g X G WK,a0g X G aW,a0g X G aX⟩,⟨a0n X G Yd,a0n X G rO,a0n X G c6,a0n X G qb,a0n X G Kq,a0n X G jP,a0n X G xI,a0n X G mM⟩,⟨a0n X G Ye,a0n X G Kr,a0n X G VQ,a0n X G xJ,yI X G z7 bn2,yI X G yV bn3,yI X G yP bn3,yI X G kn bn3⟩,⟨yI X G z8 bn2,yI X G YX bn6,yI X G jx bn5,Qx,Qx.binds bn2,yI X G qM bn2,QC,QC.binds bn2⟩,⟨yI X G jG bn1,Vl,Vl.binds bn2,yI X G yp bn2,Qw,Qw.binds bn2,yI X G yQ bn2,wm⟩,⟨wm.binds bn3,Zz,Zz.binds bn2,yI X G z6 bn2,YF,YF.binds bn2,Vk,Vk.binds bn3⟩,⟨Qz,Qz.binds bn2,yI X G vg bn3,yI X G yW bn1,Vh,Vh.binds bn3,yI X G qU bn1,yI X G jH bn1⟩,⟨yI X G vh bn2,yI X G y3 bn2,Ve,Ve.binds bn3,JU,JU.binds bn2,YJ,YJ.binds bn2⟩,⟨yI X G xK bn3,yI X G kj bn3,yI X G jQ bn4,Zm,Zm.binds bn1,Zn,Zn.binds bn1,yI X G yC bn3⟩,⟨yI X G Ks bn1,yI X G qj bn2,yI X G jR bn3,yI X G fH bn1,gm,gk,m6,gr⟩,⟨VF,VA,bI,bH,d3,bJ,QZ,f_⟩,⟨gg,m8,gw,Vy,sU,sZ,Ak,sY⟩,⟨Uh,Ug,gi,gh,m7,gu,VE,VC⟩,⟨sV,tI,An,sX,Vz,Ua,m9,m_⟩,⟨tE,ng,Xo,Xn,d5,dZ,gj,d6⟩,⟨Kv,Kx,gd,gp,nh,gf,VD,VB⟩,⟨tH,Kw,Xt,Xp,⟨bK,Xr,Zm.kp⟩,⟨d4,Ui,YJ.kp⟩,⟨tD,dU,Ub,tw⟩,sT⟩,⟨Ky,VG,Ue,⟨Ud,Vx,wm.kp⟩,⟨bL,Xq,Zn.kp⟩,⟨tF,dX,Uc,s_⟩,qW,qX⟩,⟨qY,qZ,q_,ja,jb,jc,jd,vO⟩,⟨vP,vQ,vR,vS,vT,vU,vV,vW⟩,⟨Yi,Yj,Yk,QX,iF.e⟩⟩;have eb:∀(s:MH)(v:Value),BindsTo s bG ⟨[v],[]⟩ [("_law_script",v)]:=by obtain⟨_,_,_,_,_,_,_,_,_,rfl,_,_⟩:=fH.2.ex;exact λs v=>.of_eq rfl
 have tb:W.tabIn K "law"=some (bF,gc):=by obtain⟨_,_,_,_,_,_,_,_,_,rfl,lk,_⟩:=fH.2.ex;exact F4 fH.1 lk iF.e lk_tab.e ix_tab.e
 refine⟨_,_,_,tb,nt_tab,eb,λbase _ _ TB=>(Gq T TB).imp λvs H Q E ⟨p,ns,e,hT,hS,hl,k⟩=>?_⟩;subst e;exact xE (W:=WW K _) hT hS (Ag ns hl) k
def walk{l:W.OpenLaw}{q:MV}{loose:MD}{XP:(Str->Option Value)->Heap->Prop}{YP:World->Heap->Prop}{d d':DefRec}{K:Params->W.Frag}(hn:l.most=some 63)(hdf:d.params.defaults=[])
  (hY:∀(w:M_)(h:Heap),YP w h->(K w.params).In h) (hy:(PyProof.Rows.recsOf q).find? (λe=>e.name==("law":Str))=some d')
  (F:∀(w:M_)(mg:Mz)(fa:Addr)(h:Heap),(K w.params).In h->h.Ns mainGlobals mg->mg d.name=some (.ref fa)->
   ∃(fd:Na)(c Pt:Addr),W.tabIn (K w.params) "law"=some (c,Pt)/\W.noTabs (K w.params)=true/\(∀(s:MH)(u:Value),BindsTo s fd ⟨[u],[]⟩ [("_law_script",u)])/\∀base:Heap,(K w.params).In base->base.Ns mainGlobals mg->Dc base mg c Pt->y8 l.prog w (K w.params) mg base (CXe l.prog w) 10 fa fd ["_law_script"] (sP (K w.params) Pt)):
  W.WalkO q loose XP YP l.row.toRowW d [] (λf vs=>PySem.call f vs):=
 L2.xB (n:=63) (k:=10) (x:="_law_script") (CX:=λw=>CXe l.prog w) (sp:=λw=>sP (K w.params)) hn (by decide) hdf ⟨rfl,by decide,by decide⟩ hY hy F (λ_ _ H a ns hl hO hS=>⟨a,ns,rfl,hO.1,hS,hl,λ_=>rfl⟩) λ_ _ _ _ _ z=>Wm z
end K24
open PySem PySem.W PyProof.Rows
namespace PySem.W.Fast
def tw8093324937694571364:=()
def tw709859181521378064:=()
def tw2429531353873758527:=()
def tw6638419077629986319:=()
def tw2095920167238892789:=()
def tw2329047285300667924:=()
def tw17088383922039466231:=()
def tw16035639278550795724:=()
def tw6880473633015260906:=()
def tw12766152451910057851:=()
def tw11571541638829756552:=()
def tw16231429269539383942:=()
def tw11570869091273719542:=()
def tw5450855574961620131:=()
def tw8978283551675830347:=()
def tw2590132103545920432:=()
def tw14029399719333094764:=()
def tw17035940394719566800:=()
def tw7557239877302480959:=()
def tw2080252080146090438:=()
def tw4250873981343256577:=()
def tw10600662356503954607:=()
def tw4936638402639478847:=()
def tw16529841375099690048:=()
def tw3472412203168448747:=()
def tw9064999072813430028:=()
def tw15987235224046039543:=()
def tw3553899959530438444:=()
def tw8434630699763232508:=()
def tw5782310382454128334:=()
def tw17813794002880247097:=()
def tw7992114499194267460:=()
def tw3712502328996976357:=()
def tw8882971974046193871:=()
def tw8773054008767487989:=()
def tw1641445770843612601:=()
def tw3276733973850796640:=()
def tw1932061570390652463:=()
def tw8695853083213830111:=()
def tw2453949540353488875:=()
def tw7937862121488396492:=()
def tw6267792920989459010:=()
def tw13351236826247090259:=()
def tw6563098481841346062:=()
def tw658784001753057714:=()
def tw8089944800167959955:=()
def tw13477713579580861250:=()
def tw7381415062944023294:=()
def tw11992164908569925974:=()
def tw4549096376094159805:=()
def tw359116413273266420:=()
def tw14562400472474018884:=()
def tw18331484446925371638:=()
def tw13671954841890518932:=()
def tw8521195565026278051:=()
def tw447868315095870429:=()
def tw5655153430628255187:=()
def tw14796193869853297486:=()
def tw18089506181604694100:=()
def tw11649541293696425440:=()
def tw17849602473125674180:=()
def tw5679712090061939058:=()
def tw16140811250485669285:=()
def tw9812210496705402606:=()
def tw11794142527623096117:=()
def tw10343584565029738392:=()
def tw9653737672490146277:=()
end PySem.W.Fast
set_option maxRecDepth 100000 in
set_option maxHeartbeats 0 in
theorem PySem.Challenge.cw_fleetpath_k24_links_holds : PySem.Challenge.rw_fleetpath_k24_links.Holds := by
 w_on;o_law;k_head;(case hw=>w_witness2)
 k_fill
 refine K24.walk (l:=PySem.Challenge.rw_fleetpath_k24_links) rfl rfl (λw h Y=>PySem.W.km_in_of Y) rfl ?F
 case F=>
  intro w mg fa h KX G hmg;refine' K24.all_mk KX G hmg ?_ ?_ ?_ ?_ ?_ ?_ ?_ ?_ ?_ ?_ ?_ ?_ ?_ ?_ ?_ ?_ ?_ ?_ ?_ ?_ ?_ ?_ ?_ ?_ ?_ ?_ ?_ ?_ ?_ ?_ ?_ ?_ ?_ ?_ ?_ ?_ ?_ ?_ ?_ ?_ ?_ ?_ ?_ ?_ ?_ ?_ ?_ ?_ ?_ ?_ ?_ ?_ ?_ ?_ ?_ ?_ ?_ ?_ ?_ ?_ ?_ ?_ ?_ ?_ ?_ ?_ ?_ ?_ ?_ ?_ ?_ ?_ ?_ ?_ ?_ ?_ ?_ ?_ ?_ ?_ ?_ ?_ ?_ ?_ ?_ ?_ ?_ ?_ ?_ ?_ ?_ ?_ ?_ ?_ ?_ ?_ ?_ ?_ ?_ ?_ ?_ ?_ ?_ ?_ ?_ ?_ ?_ ?_ ?_ ?_ ?_ ?_ ?_ ?_ ?_ ?_ ?_ ?_ ?_ ?_ ?_ ?_ ?_ ?_ ?_ ?_ ?_ ?_ ?_ ?_ ?_ ?_ ?_ ?_ ?_ ?_ ?_ ?_ ?_ ?_ ?_ ?_ ?_ ?_ ?_ ?_ ?_ ?_ ?_ ?_ ?_ ?_ ?_ ?_ ?_ ?_ ?_ ?_ ?_ ?_ ?_ ?_ ?_ ?_ ?_ ?_ ?_ ?_ ?_ ?_ ?_ ?_ ?_ ?_ ?_ ?_ ?_ ?_ ?_
  all_goals try(first|((first|refine'⟨?_,L2.AF ?_ ?_ ?_⟩|refine' L2.AF ?_ ?_ ?_|refine' K24.F8 ?_ ?_ ?_ ?_ ?_)<;>try first|k_is|kernel_rfl)|(show _=_;first|k_is|kernel_rfl)|(first|refine⟨?_,?_,?_,?_,?_⟩|refine⟨?_,?_,?_,?_⟩|refine⟨?_,?_,?_⟩)<;>first|k_is|kernel_rfl)
  all_goals try(refine K24.IsE.mk ?_;first|k_is|rfl)
#print axioms PySem.Challenge.cw_fleetpath_k24_links_holds

