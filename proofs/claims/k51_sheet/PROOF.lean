import PyProof.Rows.All
import Wide.All
import OpenK.AllK
import Wide.FinOn
import Lean
import PyProof.EqAt
import PyProof.EqKinds
import PyProof.TupleCall
import PyProof.NeKinds
import PyProof.Rows.CountFlat
import PyProof.Rows.SumAny
import PyProof.Rows.Range3
import KE.KEqDict
import KE.KRevIter
import PyProof.DictIter
import PyProof.DictWalks
import PyProof.IsiH_list
import KE.KDictOf
import PyProof.Rows.SetFrom
import PyProof.Conv_int_bool
import PyProof.Rows.StrNews
import PyProof.CallStr
import PyProof.Rows.StrMeet
import PyProof.FitsReplace
import PyProof.MeetsStr3
import PyProof.Rows.StrSplitAre
import PyProof.StrLawsIn
import PyProof.ReprLen
import PyProof.StrLawsChain
import KE.IntTextLaws
import PyProof.Rows.StrClose5
import KE.KSortTup
import PyProof.Rows.SortKey
import PyProof.DictUpdate
import KE.KDictSum
import PyProof.WalksEnum
import PyProof.EnumMake
import PyProof.ZipIter
import PyProof.Rows.EnumRows
import PyProof.Rows.ZipForRows
import PyProof.Rows.FactsT2
import PyProof.Rows.SortStr
import PyProof.TupleIter
import KE.KLam
import PySem.Challenge.RW_fleetpath_k51_sheet
set_option compiler.extract_closed false
set_option bootstrap.genMatcherCode false
set_option genInjectivity false
set_option genSizeOf false
set_option genSizeOfSpec false
set_option Elab.async false
set_option linter.all false
set_option maxRecDepth 100000
noncomputable section
def f8:=@PySem.wpAny_bind
def u8:=@Option.map_eq_some_iff
def v4:=@List.length_map
def S0:=@List.length_cons
def S4:=@List.mem_cons_self
def S5:=@PySem.Heap.get?_push_of_some
def S6:=@List.mem_cons_of_mem
def S7:=@Nat.le_refl
def S8:=@PySem.wpAny_pure
def S9:=@List.length_append
def T1:=@PySem.Heap.lt_size
def T2:=@List.map_cons
def T4:=@List.getElem?_eq_getElem
def T5:=@decide_eq_true
def T6:=@Nat.le_of_ble_eq_true
def T7:=@Bool.false_ne_true
def T8:=@Nat.lt_of_lt_of_le
def T9:=@List.getElem?_eq_some_iff
def a0a:=@decide_eq_false
def a0b:=@List.size_toArray
def a0c:=@List.mem_append_right
def a0d:=@Option.bind_eq_some_iff
def a0e:=@Nat.ne_of_lt
def a0f:=@List.mem_cons
def a0g:=@List.getElem?_set_ne
def a0h:=@List.append_nil
def a0i:=@PySem.Heap.get?_push_size
def a0j:=@List.mem_singleton
def a0k:=@List.getElem?_map
def a0l:=@List.getElem?_set_self
def a0m:=@List.map_append
def a0n:=@Int.emod_lt_of_pos
def a0o:=@Nat.le_trans
def a0p:=@List.getElem?_cons_succ
def a0q:=@PySem.Heap.get?_update_other
def a0r:=@List.getElem?_append_left
def a0s:=@Int.emod_nonneg
def a0t:=@beq_iff_eq
def a0u:=@List.lookup_cons
def a0v:=@List.length_set
def a0w:=@List.append_assoc
def a0x:=@Option.some.inj
def a0y:=@Nat.zero_le
def a0z:=@Classical.choose_spec
def a0A:=@PySem.wpAny_mono
def a0B:=@List.mem_append
def a0C:=@PySem.W.mg_of
def a0D:=@List.length_range
def a0E:=@beq_eq_false_iff_ne
def a0F:=@congrArg
def a0G:=@of_decide_eq_true
def a0H:=@PySem.wpAny_holding
def a0I:=@Option.isSome_iff_exists
def a0J:=@List.length_take
def a0K:=@List.getElem_map
def a0L:=@List.take_succ_eq_append_getElem
def a0M:=@PySem.sizeLine_eq
def a0N:=@List.getElem_mem
def a0O:=@List.any_cons
def a0P:=@List.mem_map
def a0Q:=@List.drop_eq_getElem_cons
def a0R:=@PySem.Heap.get?_update_self
def a0S:=@PySem.wpAny_Call_Name_kw
def a0T:=@PySem.tupleKind_room_in1
def a0U:=@List.map_map
def a0V:=@List.filter_cons
def a0W:=@PySem.W.mg_none_of
def a0X:=@Nat.lt_irrefl
def a0Y:=@List.mem_range
def a0Z:=@List.replicate_succ
def a00:=@List.getElem?_append_right
def a01:=@List.getD_eq_getElem?_getD
def a02:=@PySem.F.slot_dict_get
def a03:=@Nat.le_succ
def a04:=@List.nodup_cons
def a05:=@List.nil_append
def a06:=@Option.isSome_map
def a07:=@List.getElem?_replicate
def a08:=@Nat.lt_succ_self
def a09:=@List.length_drop
def a1a:=@Bool.and_eq_true
def a1b:=@List.take_length
def a1c:=@PySem.wpAny_call
def a1d:=@Int.le_refl
def a1e:=@Nat.ne_of_gt
def a1f:=@PySem.codeAny_mono
def a1g:=@Nat.lt_of_le_of_lt
def a1h:=@PySem.wpAny_passesOwn
def a1i:=@List.length_replicate
def a1j:=@List.foldl_cons
def a1k:=@Nat.not_lt_zero
def a1l:=@List.flatten_cons
def a1m:=@List.mem_append_left
def a1n:=@PySem.Heap.size_push
def a1o:=@List.all_eq_true
def a1p:=@PySem.mem_of_lookup
def a1q:=@Array.length_toList
def a1r:=@List.map_congr_left
def a1s:=@List.mem_map_of_mem
def a1t:=@PySem.F.plainAttrs_list
def a1u:=@PySem.Paired.length
def a1v:=@PySem.wpAny_standAt
def a1w:=@Bool.true_xor
def a1x:=@PySem.wpAny_execs_nil
def a1y:=@PySem.W.callWith_K
def a1z:=@List.find?_cons
def a1A:=@Sum.inr.inj
def a1B:=@PySem.Calls.callWith_builtin
def a1C:=@PySem.F.entry_dict_get
def a1D:=@PySem.wpAny_truthy_bool
def a1E:=@List.nodup_append
def a1F:=@PySem.wpAny_loadPart
def a1G:=@PyProof.Rows.callWith_type1
def a1H:=@List.mem_of_getElem?
def a1I:=@PySem.codeAny_call_builtin
def a1J:=@beq_self_eq_true
def a1K:=@Nat.succ_le_succ
def a1L:=@PySem.wpAny_attempt
def a1M:=@Array.getElem?_eq_some_iff
def a1N:=@Nat.le_of_lt
def a1O:=@PySem.Calls.spliced_cons
def a1P:=@PySem.W.looks_findIn
def a1Q:=@List.getElem_range
def a1R:=@PySem.wpAny_typeOf
def a1S:=@of_decide_eq_false
def a1T:=@Bool.false_xor
def a1U:=@List.mem_singleton_self
def a1V:=@PySem.wpAny_newObj_type
def a1W:=@Nat.lt_succ_of_lt
def a1X:=@Nat.le_succ_of_le
def a1Y:=@Int.toNat_natCast
def a1Z:=@decide_eq_true_eq
def a10:=@PySem.W.cellsFrom_some
def a11:=@List.take_of_length_le
def a12:=@Bool.true_and
def a13:=@List.map_take
def a14:=@List.sum_cons
def a15:=@PySem.wpAny_isInstance
def a16:=@List.length_singleton
def a17:=@PySem.builtinLookup_eq_fast
def a18:=@PySem.plainObj_wpAny_Assign_Attribute
def a19:=@Nat.le_of_eq
def a2a:=@PySem.Calls.evalArgs_plain
def a2b:=@List.length_nil
def a2c:=@Nat.lt_trans
def a2d:=@List.getElem?_append
def a2e:=@List.mem_of_mem_take
def a2f:=@List.filterMap_cons
def a2g:=@PySem.W.plainGet_of
def a2h:=@PySem.Heap.get?_update_ne
def a2i:=@Int.toNat_of_nonneg
def a2j:=@List.dropLast_concat_getLast
def a2k:=@PySem.W.looks_mroIn
def a2l:=@PySem.wpAny_field
def a2m:=@PySem.Calls.Name_function_global
def a2n:=@PySem.wpAny_newFunctionEnv_cells
def a2o:=@List.all_cons
def a2p:=@Array.perm_iff_toList_perm
def a2q:=@PyProof.Rows.listUpdate_at
def a2r:=@List.nodup_iff_pairwise_ne
def a2s:=@PySem.Within.cons
def a2t:=@PySem.Calls.spliced_nil
def a2u:=@Nat.le_of_succ_le
def a2v:=@PySem.call_meets
def a2w:=@List.getElem?_eq_none_iff
def a2x:=@List.pairwise_iff_getElem
def a2y:=@Classical.byContradiction
def a2z:=@PySem.wpAny_eqBool_int
def a2A:=@PySem.wpAny_execs_cons
def a2B:=@PySem.wpAny_lookBehind
def a2C:=@PySem.pastItsLine_dict
def a2D:=@PySem.call_meetsIn
def a2E:=@PySem.wpAny_mkText
def a2F:=@PySem.wpAny_comprehension_free
def a2G:=@PySem.F.slot_list_append
def a2H:=@PySem.F.type_list_append
def a2I:=@List.drop_length
def a2J:=@Nat.zero_lt_succ
def a2K:=@Nat.succ_lt_succ
def a2L:=@Nat.sub_self
def a2M:=@PyProof.Rows.KeyOrd.kle_trans
def a2N:=@PyProof.Rows.KeyOrd.klt_asymm
def a2O:=@List.eq_of_mem_replicate
def a2P:=@PySem.F.args_dict_get_2
def a2Q:=@PySem.F.args_dict_get_3
def a2R:=@PySem.F.plainAttrs_dict
def a2S:=@PySem.F.slot_list_count
def a2T:=@List.of_mem_zip
def a2U:=@PySem.pushCells_keeps
def a2V:=@PySem.wpAny_specialOf
def a2W:=@PySem.typeLookup_type
def a2X:=@PySem.wpAny_updateSeq
def a2Y:=@PyProof.Rows.subscriptTail_builtinR
def a2Z:=@Array.getElem?_eq_none
def a20:=@PySem.wpAny_of_eq
def a21:=@PySem.F.type_dict_get
def a22:=@PySem.wpAny_setField
def a23:=@PySem.W.methodCall_KW
def a24:=@PySem.getitemInPython_of_ne
def a25:=@Bool.and_false
def a26:=@List.getElem?_toArray
def a27:=@List.length_filter_le
def a28:=@List.set_getElem_self
def a29:=@PySem.wpAny_load
def a3a:=@Array.mem_toList_iff
def a3b:=@Bool.and_eq_true_iff
def a3c:=@PySem.wpAny_letTemporaryGo
def a3d:=@PySem.wpAny_rule
def a3e:=@PySem.Around.under_plainId
def a3f:=@List.getLast?_concat
def a3g:=@List.map_drop
def a3h:=@PySem.plainId_quiet
def a3i:=@Nat.add_le_add_left
def a3j:=@PySem.SeqAt.EqAt.int_str
def a3k:=@PySem.SeqAt.EqAt.str_int
def a3l:=@Array.append_assoc
def a3m:=@List.mem_filterMap
def a3n:=@Array.find?_toList
def a3o:=@PySem.wpAny_nsSet1
def a3p:=@PySem.wpAny_evalAll_cons
def a3q:=@PySem.seqIndex_neg
def a3r:=@List.map_nil
def a3s:=@PySem.wpAny_getItem_heap
def a3t:=@PySem.Code.quiet_builtin
def a3u:=@Nat.zero_add
def a3v:=@Array.forIn_toList
def a3w:=@Array.append_empty
def a3x:=@List.filter_append
def a3y:=@PySem.seqIndex_of
def a3z:=@PySem.W.looks_clsIn
def a3A:=@PySem.wpAny_throw
def a3B:=@eq_false
section
open PySem PySem.Spec PyProof.Rows PySem.W
abbrev Sl:=(Str->Option Value)
abbrev Sm:=(List (Addr×Obj))
abbrev Sn:=List Str
abbrev So:=List Nat
abbrev Sq:=(Value->Shared->Prop)
abbrev Sr:=(Addr->Prop)
abbrev Ss:=Shared
abbrev Su:=List Bool
abbrev Sv:=List Value
abbrev Sw:=List Expr
abbrev Sy:=Expr
abbrev Sz:=PySem.W.Frag
abbrev SA:=(Nat->Addr)
abbrev SG:=Program
abbrev SI:=World
abbrev SJ:=List (Option Nat)
abbrev SK:=FuncData
abbrev SQ:=Around
abbrev SS:=List Int
abbrev SU:=W.Frag
abbrev SV:=Frag
abbrev SX:=Array (Option Value)
abbrev SY:=List Stmt
abbrev S_:=(List (Str×Addr))
abbrev Tc:=(List (Str×NameKind))
abbrev Td:=Array Value
abbrev Te:=Option Addr
abbrev Tf:=Stmt
abbrev Tg:=List Addr
abbrev Th:=Array Nat
abbrev Tj:=(List (Str×Value))
abbrev Tr:=Option Int
abbrev Tt:=(Str->Option NameKind)
abbrev Tv:=(Nat->Nat->Bool)
abbrev Tx:=(Nat->Prop)
abbrev Tz:=Option Expr
abbrev TC:=(Value->Option Bool)
abbrev TF:=(Nat->Value)
end
abbrev TL:List Nat:=[0,0,0,0,0,0]
abbrev TN:List Nat:=[0,0,0,0,0,0,0,0,0,0,0,0,0,0,0,0,0]
namespace L2
open PySem PySem.Spec PyProof.Rows
abbrev Key:=Sum Int Str
abbrev Ti:=List Key
abbrev To:=(List (Key×Value))
abbrev Tq:=(List (List Key×Int))
def lM:Key->Value->Bool
 |.inl k,v=>Value.isInt k v
 |.inr x,v=>Value.isStrOf x v
def Rt(w:SI):Key->Int
 |.inl k=>hashInt k
 |.inr x=>hashStr w x
def qc:∀{k:Key}{v:Value},lM k v=true->(∃i t,k=Sum.inl i/\v=Value.int i t)\/(∃x t,k=Sum.inr x/\v=Value.str x t)
 |.inl i,v,h=>by obtain⟨t,e⟩:=Value.isInt_shape (k:=i) (v:=v) h;exact .inl ⟨i,t,rfl,e⟩
 |.inr x,v,h=>by obtain⟨t,e⟩:=Value.isStrOf_shape (x:=x) (v:=v) h;exact .inr ⟨x,t,rfl,e⟩
def tQ(i:Int)(t:Tok):lM (.inl i) (.int i t)=true:=by simp[lM,Value.isInt]
def tR(x:Str)(t:Tok):lM (.inr x) (.str x t)=true:=by simp[lM,Value.isStrOf]
def Ia(a b:Int):decide ((Sum.inl a:Key)=Sum.inl b)=(a==b):=by
 by_cases e:a=b
 .subst e;simp
 .have h:¬(Sum.inl a:Key)=Sum.inl b:=λq=>e (Sum.inl.inj q);rw[a0a h];exact(a0E.mpr e).symm
def Ib(a b:Str):decide ((Sum.inr a:Key)=Sum.inr b)=decide (a=b):=by
 by_cases e:a=b
 .subst e;simp
 .have h:¬(Sum.inr a:Key)=Sum.inr b:=λq=>e (a1A q);rw[a0a h,a0a e]
def Ic(a:Int)(b:Str):decide ((Sum.inl a:Key)=Sum.inr b)=false:=a0a (λq=>nomatch q)
def Ie(a:Str)(b:Int):decide ((Sum.inr a:Key)=Sum.inl b)=false:=a0a (λq=>nomatch q)
def yJ(prog:SG)(w:SI):PySem.KeyKind prog w Key where
 is:=lM
 hash:=Rt w
 inj:=λv a b ha hb=>by
  rcases qc ha with⟨i,t,rfl,rfl⟩|⟨x,t,rfl,rfl⟩
  .rcases qc hb with⟨j,u,rfl,e⟩|⟨y,u,rfl,e⟩
   .injection e with e1 _;rw[e1]
   .exact nomatch e
  .rcases qc hb with⟨j,u,rfl,e⟩|⟨y,u,rfl,e⟩
   .exact nomatch e
   .injection e with e1 _;rw[e1]
 byValue:=λk v h=>by rcases qc h with⟨i,t,rfl,rfl⟩|⟨x,t,rfl,rfl⟩<;>rfl
 pyHash:=λhv h=>by
  rcases qc hv with⟨i,t,rfl,rfl⟩|⟨x,t,rfl,rfl⟩
  .exact wpAny_pyHash_int h
  .exact wpAny_pyHash_str h
 eqBool:=λhu hv h=>by
  rcases qc hu with⟨i,t,rfl,rfl⟩|⟨x,t,rfl,rfl⟩
  .rcases qc hv with⟨j,u,rfl,rfl⟩|⟨y,u,rfl,rfl⟩
   .rw[Ia]at h;exact a2z h
   .rw[Ic]at h;exact a3j i t y u _ _ _ _ h
  .rcases qc hv with⟨j,u,rfl,rfl⟩|⟨y,u,rfl,rfl⟩
   .rw[Ie]at h;exact a3k x t j u _ _ _ _ h
   .rw[Ib]at h;exact wpAny_eqBool_str h
 «strs»:=λk x t v h=>by
  rcases qc h with⟨i,u,rfl,e⟩|⟨y,u,rfl,e⟩
  .exact nomatch e
  .injection e with e1 _
   subst e1;cases v<;>rfl
def rj(prog:SG)(w:SI)(k:Key)(v:Value):(yJ prog w).is k v=lM k v:=rfl
def lN(prog:SG)(w:SI)(i:Int)(t:Tok):(yJ prog w).is (.inl i) (.int i t)=true:=tQ i t
def lO(prog:SG)(w:SI)(x:Str)(t:Tok):(yJ prog w).is (.inr x) (.str x t)=true:=tR x t
inductive V where
 |non|bl (b:Bool)|int (i:Int)|str (x:Str)|byt (b:Array UInt8)|flt (b:UInt64)|ref (a:Addr)|ty (n:String)
 deriving DecidableEq
abbrev Sx:=List V
abbrev SE:=(List (Key×V))
abbrev SW:=(List (Str×V))
abbrev Tu:=(List (List Key×V))
def RelV:V->Value->Prop
 |.non,u=>u=Value.none
 |.bl b,u=>u=Value.bool b
 |.int i,u=>∃t,u=Value.int i t
 |.str x,u=>∃t,u=Value.str x t
 |.byt b,u=>∃t,u=Value.bytes b t
 |.flt b,u=>∃t,u=Value.float b t
 |.ref a,u=>u=Value.ref a
 |.ty n,u=>u=Value.type n
abbrev Vals:List V->List Value->Prop:=Paired RelV
def Vals.length(r:Vals xs us):xs.length=us.length:=a1u r
def Vals.get:∀{b:Sx}{a:Sv}{i:Nat}{x:V},Vals b a->b[i]?=some x->∃u,a[i]?=some u/\RelV x u
 |_,_,_,_,.nil,e=>by simp at e
 |_,_,0,_,.cons r _,e=>by simp at e;subst e;exact⟨_,rfl,r⟩
 |_,_,i+1,x,.cons _ t,e=>by obtain⟨u,c,d⟩:=Vals.get (i:=i) (x:=x) t (by simpa using e);exact⟨u,by simpa using c,d⟩
def Vals.set{x:V}{u:Value}(r:RelV x u):∀{a:Sx}{b:Sv}(i:Nat),Vals a b->Vals (a.set i x) (b.set i u)
 |_,_,_,.nil=>.nil
 |_,_,0,.cons _ t=>.cons r t
 |_,_,i+1,.cons q t=>.cons q (Vals.set r i t)
def Vals.append:∀{c d:Sx}{a b:Sv},Vals c a->Vals d b->Vals (c++d) (a++b)
 |_,_,_,_,.nil,s=>s
 |_,_,_,_,.cons r t,s=>.cons r (Vals.append t s)
def Vals.take:∀{a:Sx}{b:Sv}(n:Nat),Vals a b->Vals (a.take n) (b.take n)
 |_,_,0,_=>.nil
 |_,_,_+1,.nil=>.nil
 |_,_,n+1,.cons r t=>.cons r (Vals.take n t)
def Vals.drop:∀{a:Sx}{b:Sv}(n:Nat),Vals a b->Vals (a.drop n) (b.drop n)
 |_,_,0,r=>r
 |_,_,_+1,.nil=>.nil
 |_,_,n+1,.cons _ t=>Vals.drop n t
def Xf:Option V->Option Value->Prop
 |some v,some u=>RelV v u
 |none,none=>True
 |_,_=>False
def KV{a:Type}:List (a×V)->List (a×Value)->Prop:=Paired λ(p:a×V) (q:a×Value)=>p.1=q.1/\RelV p.2 q.2
def kV:Key->V
 |.inl i=>.int i
 |.inr x=>.str x
inductive HO where
 |lst (xs:Sx)
 |tup (xs:Sx)
 |dK (kvs:SE)|dT (kvs:Tu)
 |set (S:Int->Bool) (n:Nat)
 |ins (C dx:Addr) (fs:SW)
 |own (x:Addr)
 |xd (fs:SW)
 |met (f x:Addr)
 |rng (lo hi:Int)
 |frz (o:Obj) (u:HO)
 |tbl (ps:Td)
 |ext (φ:Heap->Prop)
abbrev Hp:=Addr->Option HO
def upd(H:Hp)(a:Addr)(o:HO):Hp:=λb=>if b=a then some o else H b
def zg:upd H a o a=some o:=by unfold upd;rw[if_pos rfl]
def zi(h:b≠a):upd H a o b=H b:=by unfold upd;rw[if_neg h]
def Yu:upd (upd H a o) a u=upd H a u:=by
 funext b;unfold upd;split<;>rfl
def N_{H:Hp}{a b:Addr}{o u:HO}(h:H a=some o)(h':H b=some u)(d:o≠u):a≠b:=by intro e;subst e;rw[h]at h';exact d (a0x h')
def zZ{H:Hp}{a b:Addr}{o:HO}(h:H a=some o)(h':H b=none):a≠b:=by intro e;subst e;rw[h]at h';cases h'
section
variable (P:SG) (w:SI)
def qG(H:Hp)(h:Heap)(a:Addr):HO->Prop
 |.lst d=>d.length<=sizeLine/\∃(c:Sv)(n:Nat),Vals d c/\h.get? a=some { cls:=.type "list",data:=.seq c.toArray n }
 |.tup d=>d.length<=sizeLine/\∃c:List Value,Vals d c/\IsTup h a c.toArray
 |.dK b=>b.length<=sizeLine/\(a==sysModules)=false/\∃j,KV b j/\h.DictOf (yJ P w) a j
 |.dT b=>b.length<=sizeLine/\(a==sysModules)=false/\∃d:List (List Key×Addr×Value),
   Paired (λ(p:List Key×V) (q:List Key×Addr×Value)=>p.1=q.1/\H q.2.1=some (.tup (p.1.map kV))/\RelV p.2 q.2.2) b d/\
   ∃o r s,h.get? a=some o/\o.ExactDict/\o.data=.dict r s/\r.toList=d.map (entryOfKey (tupleKind (yJ P w)))/\(d.map (·.1)).Nodup
 |.set S n=>h.SetOf (intKind P w) a S n
 |.ins C g fs=>H g=some (.own a)/\fs.length<=1000/\g≠a/\h.get? a=some (PySem.W.instObj C g)/\
   ∃e,h.Ns1 g e/\(∀f,Xf (fs.lookup f) (e f))/\PySem.Within e (fs.map (·.1))
 |.own _=>∃o,h.get? a=some o
 |.xd fs=>∃e,h.Ns1 a e/\∀f,Xf (fs.lookup f) (e f)
 |.rng z y=>∃t u v,h.get? a=some { cls:=.type "range",data:=.fields #[.int z t,.int y u,.int 1 v] }
 |.frz o u=>h.get? a=some o/\qG H h a u
 |.tbl A=>h.get? a=some { cls:=.none,data:=.fields A }
 |.met f x=>h.get? a=some (PySem.W.methodObj (.ref f) (.ref x))
 |.ext i=>i h/\(∃o,h.get? a=some o)/\∀l m:Heap,i l->(∀o,l.get? a=some o->m.get? a=some o)->i m
def HOk(H:Hp)(h:Heap):Prop:=∀a o,H a=some o->qG P w H h a o
end
section
variable {P:SG}{w:SI}{H H':Hp}{h h':Heap}{a:Addr}{o:HO}
def qG.lt(x:qG P w H h a o):a<h.objs.size:=by
 cases o with
 |lst c=>obtain⟨_,_,_,_,e⟩:=x;exact T1 e
 |tup c=>obtain⟨_,_,_,p⟩:=x;exact p.lt
 |dK b=>obtain⟨_,_,_,_,o,_,_,e,_⟩:=x;exact T1 e
 |dT b=>obtain⟨_,_,_,_,o,_,_,e,_⟩:=x;exact T1 e
 |set S n=>obtain⟨o,_,_,_,e,_⟩:=x;exact T1 e
 |ins C i fs=>obtain⟨_,_,_,e,_⟩:=x;exact T1 e
 |own y=>obtain⟨_,e⟩:=x;exact T1 e
 |xd fs=>obtain⟨_,⟨_,_,_,e,_⟩,_⟩:=x;exact T1 e
 |rng l j=>obtain⟨_,_,_,e⟩:=x;exact T1 e
 |frz ob u=>obtain⟨e,_⟩:=x;exact T1 e
 |tbl d=>exact T1 (show h.get? a=some _ from x)
 |met f y=>exact T1 (show h.get? a=some _ from x)
 |ext g=>obtain⟨_,⟨_,e⟩,_⟩:=x;exact T1 e
def Paired.Oa{g e:Type}{F G:g->e->Prop}:∀{d:List g}{c:List e},Paired F d c->(∀a b,F a b->G a b)->Paired G d c
 |_,_,.nil,_=>.nil
 |_,_,.cons r t,f=>.cons (f _ _ r) (Paired.Oa t f)
def qG.rn(x:qG P w H h a o)(k:∀b u,(b=a\/H b=some (.own a))->h.get? b=some u->h'.get? b=some u)
  (E:∀b,H b=some (.own a)->H' b=some (.own a)) (K:∀b l,H b=some (.tup l)->H' b=some (.tup l)):qG P w H' h' a o:=by
 induction o with
 |lst l=>obtain⟨z,j,n,r,e⟩:=x;exact⟨z,j,n,r,k _ _ (.inl rfl) e⟩
 |tup l=>obtain⟨z,j,r,ob,e,c⟩:=x;exact⟨z,j,r,ob,k _ _ (.inl rfl) e,c⟩
 |dK s=>obtain⟨z,y,F,r,ob,i,g,e,c⟩:=x;exact⟨z,y,F,r,ob,i,g,k _ _ (.inl rfl) e,c⟩
 |dT s=>obtain⟨z,y,l,r,ob,i,g,e,c⟩:=x;exact⟨z,y,l,Paired.Oa r λp q z=>⟨z.1,K _ _ z.2.1,z.2.2⟩,ob,i,g,k _ _ (.inl rfl) e,c⟩
 |set S n=>obtain⟨ob,i,g,t,e,c⟩:=x;exact⟨ob,i,g,t,k _ _ (.inl rfl) e,c⟩
 |ins C O fs=>obtain⟨d,z,J,e,A,⟨m,i,g,G,c⟩,r⟩:=x;exact⟨E _ d,z,J,k _ _ (.inl rfl) e,A,⟨m,i,g,k _ _ (.inr d) G,c⟩,r⟩
 |own y=>obtain⟨ob,e⟩:=x;exact⟨ob,k _ _ (.inl rfl) e⟩
 |xd fs=>obtain⟨A,⟨m,i,g,e,c⟩,r⟩:=x;exact⟨A,⟨m,i,g,k _ _ (.inl rfl) e,c⟩,r⟩
 |rng N M=>obtain⟨t,u,v,e⟩:=x;exact⟨t,u,v,k _ _ (.inl rfl) e⟩
 |frz ob u I=>obtain⟨e,q⟩:=x;exact⟨k _ _ (.inl rfl) e,I q⟩
 |tbl D=>have e:h.get? a=some { cls:=.none,data:=.fields D }:=x;show h'.get? a=some { cls:=.none,data:=.fields D };exact k a _ (.inl rfl) e
 |met f y=>have e:h.get? a=some (PySem.W.methodObj (.ref f) (.ref y)):=x;show h'.get? a=some (PySem.W.methodObj (.ref f) (.ref y));exact k a _ (.inl rfl) e
 |ext L=>obtain⟨p,⟨o,e⟩,B⟩:=x;exact⟨B _ _ p λo q=>k _ _ (.inl rfl) q,⟨o,k _ _ (.inl rfl) e⟩,B⟩
def HOk.lt(x:HOk P w H h)(e:H a=some o):a<h.objs.size:=(x a o e).lt
def HOk.fresh(x:HOk P w H h)(e:h.objs.size<=a):H a=none:=by
 cases q:H a with
 |none=>rfl
 |some u=>exact absurd (T8 (x.lt q) e) (a0X _)
def HOk.kept(x:HOk P w H h)(k:∀b u,h.get? b=some u->h'.get? b=some u):HOk P w H h':=λa o e=>
 (x a o e).rn (λb u _ q=>k b u q) (λ_ q=>q) λ_ _ q=>q
def HOk.laid(x:HOk P w H h)(k:∀b u,h.get? b=some u->h'.get? b=some u)(hp:h.objs.size<=a)(new:qG P w (upd H a o) h' a o):HOk P w (upd H a o) h':=λb u e=>by
 have f:=x.fresh hp;by_cases d:b=a
 .subst d;rw[zg]at e;cases e;exact new
 .rw[zi d]at e;exact(x b u e).rn (λc v _ q=>k c v q) (λc q=>by rw[zi (zZ q f)];exact q) λc g q=>by rw[zi (zZ q f)];exact q
end
def Rd(H:Hp)(a:Addr)(u:HO):Prop:=H a=some u\/∃o,H a=some (.frz o u)
def Rd.ok(r:Rd H a u)(x:HOk P w H h):qG P w H h a u:=by
 rcases r with r|⟨o,r⟩
 .exact x a u r
 .obtain⟨_,q⟩:=x a _ r;exact q
def Mut:Option HO->Prop
 |some (.lst _)=>True
 |some (.dK _)=>True
 |some (.dT _)=>True
 |some (.set _ _)=>True
 |some (.ins _ _ _)=>True
 |some (.ext _)=>True
 |_=>False
def HOk.write(ok:HOk P w H h)(i:Mut (H x))(he:e=x\/H e=some (.own x))(k:∀b u,b≠e->h.get? b=some u->h'.get? b=some u)(m:∃u,h'.get? e=some u)
  (new:qG P w (upd H x o') h' x o'):HOk P w (upd H x o') h':=λb u q=>by
 have d:∀c y,H c=some (.own y)->c≠x:=λc y r z=>by subst z;rw[r]at i;exact i
 have f:∀c j,H c=some (.tup j)->c≠x:=λc j r z=>by subst z;rw[r]at i;exact i
 by_cases g:b=x
 .subst g;rw[zg]at q;cases q;exact new
 .rw[zi g]at q;by_cases a:b=e
  .have n:H b=some (.own x):=by
    rcases he with z|z
    .exact absurd (a.trans z) g
    .rw[a];exact z
   rw[q]at n;cases n;obtain⟨v,o⟩:=m;exact⟨v,by rw[a];exact o⟩
  .refine(ok b u q).rn (λc v l r=>k c v ?_ r) (λc r=>by rw[zi (d c b r)];exact r) λc j r=>by rw[zi (f c j r)];exact r
   rcases l with rfl|l
   .exact a
   .rintro rfl
    rcases he with z|z
    .exact d c b l z
    .rw[l]at z;cases z;exact g rfl
structure Un(fs ex:Tg)(H H':Hp)(h h':Heap):Prop where
 keep:∀b o,h.get? b=some o->H b=none->b∉fs->b∉ex->h'.get? b=some o
 slot:∀b o,h.get? b=some o->H b=none->b∈fs->b∉ex->∃sl,h'.get? b=some { o with slots:=sl }
 free:∀b o,h.get? b=some o->H b=none->b∉ex->H' b=none
 there:∀b o,h.get? b=some o->b∉ex->∃o',h'.get? b=some o'
 tN:∀b xs,H b=some (.tup xs)->H' b=some (.tup xs)
 BA:∀b o u,H b=some (.frz o u)->H' b=some (.frz o u)
 BB:∀b ps,H b=some (.tbl ps)->∃more,H' b=some (.tbl (ps++more))
section
variable {fs ex:Tg}{H H1:Hp}{h h1 h':Heap}{a x e:Addr}{o:HO}
def Un.any(u:Un fs ex H H1 h h1)(q:h.get? b=some ob)(n:H b=none)(d:b∉ex):∃f,h1.get? b=some { ob with slots:=f }:=by
 by_cases c:b∈fs
 .exact u.slot b ob q n c d
 .exact⟨ob.slots,u.keep b ob q n c d⟩
def Un.kept(k:∀b u,h.get? b=some u->h'.get? b=some u):Un fs ex H H h h':=
 ⟨λb ob q _ _ _=>k b ob q,λb ob q _ _ _=>⟨ob.slots,k b ob q⟩,λ_ _ _ n _=>n,λb ob q _=>⟨ob,k b ob q⟩,λ_ _ q=>q,λ_ _ _ q=>q,λ_ c q=>⟨#[],by rw[q];simp⟩⟩
def Un.refl:Un fs ex H H h h:=Un.kept λ_ _ q=>q
def Un.laid(k:∀b u,h.get? b=some u->h'.get? b=some u)(hp:h.objs.size<=a)(c:H a=none):Un fs ex H (upd H a o) h h' where
 keep:=λb u q _ _ _=>k b u q
 slot:=λb u q _ _ _=>⟨u.slots,k b u q⟩
 free:=λb u q n _=>by rw[zi (a0e (T8 (T1 q) hp))];exact n
 there:=λb u q _=>⟨u,k b u q⟩
 tN:=λb d q=>by rw[zi (zZ q c)];exact q
 BA:=λb u d q=>by rw[zi (zZ q c)];exact q
 BB:=λb f q=>⟨#[],by rw[zi (zZ q c),q];simp⟩
def Un.write(d:Mut (H x))(he:e=x\/H e=some (.own x))(k:∀b u,b≠e->h.get? b=some u->h'.get? b=some u)(g:∃u,h'.get? e=some u):Un fs ex H (upd H x o) h h':=by
 have j:∀b,H b=none->b≠x:=λb n z=>by subst z;rw[n]at d;exact d
 have i:∀b,H b=none->b≠e:=λb n z=>by
  subst z;rcases he with r|r
  .exact j b n r
  .rw[n]at r;cases r
 have f:∀b u,H b=some u->¬Mut (some u)->b≠x:=λb u q l z=>by subst z;rw[q]at d;exact l d
 refine⟨λb u q n _ _=>k b u (i b n) q,λb u q n _ _=>⟨u.slots,k b u (i b n) q⟩,λb u q n _=>by rw[zi (j b n)];exact n,λb u q _=>?_,
  λb m q=>by rw[zi (f b _ q λz=>z)];exact q,λb u m q=>by rw[zi (f b _ q λz=>z)];exact q,λb p q=>⟨#[],by rw[zi (f b _ q λz=>z),q];simp⟩⟩
 by_cases c:b=e
 .subst c;exact g
 .exact⟨u,k b u c q⟩
end
def trk(h:Heap)(H:Hp):List Addr:=(List.range h.objs.size).filter λa=>(H a).isSome
def Bt(h:Heap)(H:Hp):Heap:=PySem.W.hideAll h (trk h H)
def tS(h:Heap)(H:Hp):(Bt h H).objs.size=h.objs.size:=PySem.W.hideAll_size _ _
def BC(e:h.get? b=some o)(n:H b=none):(Bt h H).get? b=some o:=
 PySem.W.hideAll_get _ e λa=>by have q:(H b).isSome=true:=(List.mem_filter.mp a).2;rw[n]at q;simp at q
def Ft(e:(Bt h H).get? b=some o):h.get? b=some o/\H b=none:=by
 have a:h.get? b=some o:=PySem.W.of_hideAll (trk h H) e;refine⟨a,?_⟩;cases q:H b with
 |none=>rfl
 |some x=>have c:b∈trk h H:=List.mem_filter.mpr ⟨a0Y.mpr (T1 a),by simp[q]⟩;have z:(Bt h H).get? b=none:=PySem.W.hideAll_none (trk h H) c;rw[z]at e;cases e
structure Mod(K:Sz)(mg:Sl)(base:Heap):Prop where
 kin:K.In base
 glob:base.Ns mainGlobals mg
 blt:∃mb,base.Ns builtinsNs mb/\∀x:Str,x≠"__name__"->mb x=bootBuiltins x
 nolimit:base.NoLimit
structure Cx where
 prog:Program
 w:World
 K:PySem.W.Frag
 mg:Str->Option Value
 base:Heap
 A:Around
 N:List Str
 s₀:Shared
 H₀:Hp
 env:Env
 outer:List Env
 stack:List Env
 ex:List Addr
 fn:Str->Bool
 calm:Bool
 pn:List (Addr×Obj)
 xe:Value->Shared->Prop
abbrev TQ(X:Cx):=model X.prog X.w
def frs(l:List Env):List Addr:=l.filterMap (·.frame)
abbrev Cx.fs(X:Cx):List Addr:=frs X.outer
def Vis(a:Scope)(x:Str):Prop:=a.names.lookup x=some .local\/a.names.lookup x=some .cell\/a.names.lookup x=some .free
def Loc(a:Scope)(x:Str):Prop:=a.names.lookup x=some .local\/a.names.lookup x=some .cell
def Look(env:Env)(h:Heap)(m:Sl)(x:Str)(u:Value):Prop:=
 (env.kindOf x=some .local/\m x=some u)\/((env.kindOf x=some .cell\/env.kindOf x=some .free)/\∃c,env.cells.lookup x=some c/\h.IsCell c (some u))
structure Cx.Ok(X:Cx):Prop where
 mod:Mod X.K X.mg X.base
 kind:X.env.scope.kind=.function
 glob:X.env.globals=mainGlobals
 blt:X.env.builtins=builtinsNs
 above:X.s₀.heap.objs.size<=X.env.locals
 inj:∀x y c,X.env.cells.lookup x=some c->X.env.cells.lookup y=some c->x=y
 has:∀x,(X.env.kindOf x=some .cell\/X.env.kindOf x=some .free)->∃c,X.env.cells.lookup x=some c
 cab:∀x c,X.fn x=true->X.env.cells.lookup x=some c->X.s₀.heap.objs.size<=c
 hd:X.calm=true->X.A.handled=none
 frames:X.A.frames=some X.stack
 stk:X.stack=X.outer\/(X.stack=X.env::X.outer/\X.env.frame=some X.env.locals)
 exf:∀b∈X.ex,b≠X.env.locals/\∀x c,X.env.cells.lookup x=some c->c≠b
 bs:∀b o,X.base.get? b=some o->X.s₀.heap.get? b=some o/\X.H₀ b=none
 bsz:X.base.objs.size<=X.s₀.heap.objs.size
 HZ:∀b o,X.base.get? b=some o->b∉X.ex
 H_:∀b∈X.ex,b∉X.fs
 lR:X.s₀.heap.FunFrames X.base X.outer
 frf:∀b∈X.fs,X.H₀ b=none
structure Inv(X:Cx)(pins:Sm)(σ:List (Option V))(H:Hp)(s:Ss):Prop where
 ok:X.Ok
 os:s.os=X.s₀.os
 bare:AllBare s.gens
 base:Un X.fs X.ex X.H₀ H X.s₀.heap s.heap
 loc:∃m,s.heap.Ns X.env.locals m/\∀(i:Nat)(x:Str)(v:V),X.N[i]?=some x->σ[i]?=some (some v)->Vis X.env.scope x->∃u,RelV v u/\Look X.env s.heap m x u
 cell:∀x c,X.env.cells.lookup x=some c->∃v,s.heap.IsCell c v
 free:H X.env.locals=none
 W9:∀x c,X.env.cells.lookup x=some c->H c=none
 pin:∀p∈X.pn++pins,s.heap.get? p.1=some p.2/\H p.1=none/\p.1≠X.env.locals/\p.1∉X.fs/\∀v,p.2.data≠.cell v
 hok:HOk X.prog X.w H s.heap
 len:σ.length=X.N.length
section
variable {X:Cx}{pins:Sm}{σ:List (Option V)}{H H':Hp}{s:Ss}{h':Heap}
def Cx.Ok.Ru(ok:X.Ok)(e:X.base.get? b=some o):b∉X.fs:=λa=>by have:=(ok.lR.mem a).1;rw[e]at this;cases this
def Inv.bs(I:Inv X pins σ H s):∀b o,X.base.get? b=some o->s.heap.get? b=some o/\H b=none:=λb o e=>
 ⟨I.base.keep b o (I.ok.bs b o e).1 (I.ok.bs b o e).2 (I.ok.Ru e) (I.ok.HZ b o e),I.base.free b o (I.ok.bs b o e).1 (I.ok.bs b o e).2 (I.ok.HZ b o e)⟩
def Inv.bk(I:Inv X pins σ H s):∀b o,X.base.get? b=some o->s.heap.get? b=some o:=λb o e=>(I.bs b o e).1
def Inv.mod(I:Inv X pins σ H s):Mod X.K X.mg X.base:=I.ok.mod
def Inv.kIn(I:Inv X pins σ H s):X.K.In s.heap:=I.ok.mod.kin.keeps I.bk
def Inv.lt(I:Inv X pins σ H s):X.env.locals<s.heap.objs.size:=let⟨_,hn,_⟩:=I.loc;hn.lt
def Inv.sz(I:Inv X pins σ H s):X.s₀.heap.objs.size<=s.heap.objs.size:=a0o I.ok.above (a1N I.lt)
def Inv.PJ(I:Inv X pins σ H s)(h:s.heap.objs.size<=a):a∉X.fs:=λb=>by obtain⟨_,o,c,_⟩:=I.ok.lR.mem b;exact absurd (T8 (T1 c) (a0o I.sz h)) (a0X _)
def Inv.cne(I:Inv X pins σ H s):∀x c,X.env.cells.lookup x=some c->c≠X.env.locals:=λx c e z=>by obtain⟨v,o,f,d⟩:=I.cell x c e;obtain⟨m,⟨h,i,g,b,a,_⟩,_⟩:=I.loc;rw[z,b]at f;cases f;rw[a]at d;cases d
def Inv.lR(I:Inv X pins σ H s):s.heap.FunFrames X.base X.outer:=by
 have all:∀(l:List Env),(∀b∈frs l,b∈X.fs)->X.s₀.heap.FunFrames X.base l->s.heap.FunFrames X.base l:=by
  intro l
  induction l with
  |nil=>intro _ _;trivial
  |cons m r i=>intro d p;obtain⟨f,⟨L,o,hf,n,g,h⟩,j⟩:=p;have c:L∈X.fs:=d L (by unfold frs;rw[a2f,hf];exact S4);obtain⟨q,e⟩:=I.base.slot L o g (I.ok.frf L c) c λz=>I.ok.H_ L z c;exact⟨f,⟨L,_,hf,n,e,h⟩,i (λb a=>d b (by unfold frs;rw[a2f,hf];exact S6 _ a)) j⟩
 exact all X.outer (λ_ a=>a) I.ok.lR
def Inv.stack(I:Inv X pins σ H s):s.heap.FunFrames X.base X.stack:=by
 rcases I.ok.stk with e|⟨e,hf⟩
 .rw[e];exact I.lR
 .rw[e];obtain⟨m,a,_⟩:=I.loc;refine .cons (by rw[I.ok.kind];decide) hf a ?_ I.lR;exact Heap.get?_none_of_le (a0o I.ok.bsz I.ok.above)
def Inv.cZ(I:Inv X pins σ H s):∀b∈frs X.stack,b∈X.env.locals::X.fs:=λb a=>by
 rcases I.ok.stk with e|⟨e,hf⟩
 .rw[e]at a;exact S6 _ a
 .rw[e]at a;unfold frs at a;rw[a2f,hf]at a;exact a
def Inv.dS(I:Inv X pins σ H s):∀b∈frs X.stack,H b=none:=λb a=>by
 rcases a0f.mp (I.cZ b a)with e|a
 .rw[e];exact I.free
 .obtain⟨_,o,c,_⟩:=I.ok.lR.mem a;exact I.base.free b o c (I.ok.frf b a) λz=>I.ok.H_ b z a
def Inv.step{g':Array GenState}{t':Nat}{d':Drawn}{ch:Tg}(I:Inv X pins σ H s)
  (j:∀b∈ch,(b∈X.ex\/X.s₀.heap.objs.size<=b)/\b≠X.env.locals/\(∀x c,X.env.cells.lookup x=some c->c≠b)/\∀p∈X.pn++pins,p.1≠b)
  (keep:∀b o,b≠X.env.locals->b∉X.fs->b∉ch->s.heap.get? b=some o->H b=none->h'.get? b=some o)
  (A:∀b o,b≠X.env.locals->b∈X.fs->b∉ch->s.heap.get? b=some o->H b=none->∃P,h'.get? b=some { o with slots:=P }) (f:∀b o,b∉ch->s.heap.get? b=some o->H b=none->H' b=none)
  (D:∀b o,b∉ch->s.heap.get? b=some o->∃G,h'.get? b=some G)
  (tN:∀b B,H b=some (.tup B)->H' b=some (.tup B)) (Y:∀b o u,H b=some (.frz o u)->H' b=some (.frz o u)) (Z:∀b L,H b=some (.tbl L)->∃F,H' b=some (.tbl (L++F)))
  (ns:∀m,s.heap.Ns X.env.locals m->h'.Ns X.env.locals m) (N:HOk X.prog X.w H' h') (T:AllBare g'):
  Inv X pins σ H' { s with heap:=h',gens:=g',drawn:=d',toks:=t' }:=by
 have K:∀b o,X.s₀.heap.get? b=some o->b≠X.env.locals:=λb o e=>a0e (T8 (T1 e) I.ok.above);have y:∀b o,X.s₀.heap.get? b=some o->b∉X.ex->b∉ch:=λb o e a C=>by
  rcases(j b C).1 with z|z
  .exact a z
  .exact absurd (T8 (T1 e) z) (a0X _)
 have h:∀x c,X.env.cells.lookup x=some c->∀v,s.heap.IsCell c v->h'.IsCell c v:=λx c e v ⟨o,E,M⟩=>by
  have g:c∉ch:=λz=>(j c z).2.2.1 x c e rfl;by_cases Q:c∈X.fs
  .obtain⟨P,q⟩:=A c o (I.cne x c e) Q g E (I.W9 x c e);exact⟨_,q,M⟩
  .exact⟨o,keep c o (I.cne x c e) Q g E (I.W9 x c e),M⟩
 refine⟨I.ok,I.os,T,⟨λb o e n C a=>?_,λb o e n C a=>?_,λb o e n a=>?_,λb o e a=>?_,λb B e=>tN b B (I.base.tN b B e),λb o B e=>Y b o B (I.base.BA b o B e),λb L e=>?_⟩,?_,λx c e=>?_,?_,λx c e=>?_,λp hp=>?_,N,I.len⟩
 .exact keep b o (K b o e) C (y b o e a) (I.base.keep b o e n C a) (I.base.free b o e n a)
 .obtain⟨P,w⟩:=I.base.slot b o e n C a;obtain⟨O,J⟩:=A b _ (K b o e) C (y b o e a) w (I.base.free b o e n a);exact⟨O,J⟩
 .obtain⟨G,w⟩:=I.base.there b o e a;exact f b G (y b o e a) w (I.base.free b o e n a)
 .obtain⟨G,w⟩:=I.base.there b o e a;exact D b G (y b o e a) w
 .obtain⟨m1,w⟩:=I.base.BB b L e;obtain⟨W,J⟩:=Z b _ w;exact⟨m1++W,by rw[J,a3l]⟩
 .obtain⟨m,hn,hl⟩:=I.loc;refine⟨m,ns m hn,λi x v w J U=>?_⟩;obtain⟨u,r,l⟩:=hl i x v w J U;refine⟨u,r,?_⟩;rcases l with l|⟨k,c,e,z⟩
  .exact .inl l
  .exact .inr ⟨k,c,e,h x c e _ z⟩
 .obtain⟨v,z⟩:=I.cell x c e;exact⟨v,h x c e v z⟩
 .obtain⟨m,⟨o,_,_,E,_⟩,_⟩:=I.loc;exact f _ o (λz=>(j _ z).2.1 rfl) E I.free
 .obtain⟨v,o,E,M⟩:=I.cell x c e;exact f c o (λz=>(j c z).2.2.1 x c e rfl) E (I.W9 x c e)
 .obtain⟨e,n,S,R,d⟩:=I.pin p hp;have g:p.1∉ch:=λz=>(j p.1 z).2.2.2 p hp rfl;exact⟨keep p.1 p.2 S R g e n,f p.1 p.2 g e n,S,R,d⟩
def Inv.un(I:Inv X pins σ H s)(u:Un X.fs [] H H' s.heap h')(d:HOk X.prog X.w H' h'):Inv X pins σ H' { s with heap:=h',toks:=t' }:=by
 obtain⟨m,⟨o,w,p,h,r⟩,_⟩:=id I.loc;obtain⟨x,j⟩:=u.any h I.free (by simp);exact I.step (g':=s.gens) (d':=s.drawn) (ch:=[]) (λ_ z=>nomatch z) (λb o _ c _ e n=>u.keep b o e n c (by simp)) (λb o _ c _ e n=>u.slot b o e n c (by simp)) (λb o _ e n=>u.free b o e n (by simp)) (λb o _ e=>u.there b o e (by simp)) u.tN u.BA u.BB (λv l=>by
  obtain⟨q,f,g,a,i⟩:=l;rw[h]at a;cases a;exact⟨_,f,g,j,i⟩) d I.bare
def Inv.call(I:Inv X pins σ H s)(u:Un (frs X.stack) ch H H' s.heap h')(h:HOk X.prog X.w H' h')(y:AllBare g')
  (f:∀b∈ch,(b∈X.ex\/X.s₀.heap.objs.size<=b)/\b≠X.env.locals/\(∀x c,X.env.cells.lookup x=some c->c≠b)/\∀p∈X.pn++pins,p.1≠b):
  Inv X pins σ H' { s with heap:=h',gens:=g',drawn:=d',toks:=t' }:=by
 obtain⟨m,⟨o,D,A,l,r⟩,_⟩:=id I.loc;obtain⟨E,g⟩:=u.any l I.free λz=>(f _ z).2.1 rfl;exact I.step (ch:=ch) f (λb o g q a e n=>u.keep b o e n (λz=>(a0f.mp (I.cZ b z)).elim g q) a) (λb o _ _ a e n=>u.any e n a) (λb o a e n=>u.free b o e n a) (λb o a e=>u.there b o e a) u.tN u.BA u.BB (λC w=>by
  obtain⟨B,i,j,d,v⟩:=w;rw[l]at d;cases d;exact⟨_,i,j,g,v⟩) h y
def Inv.turned(I:Inv X pins σ H s)(k:∀b o,b≠it->s.heap.get? b=some o->h'.get? b=some o)(y:H it=none)(f:it≠X.env.locals)
  (l:it∈X.ex\/X.s₀.heap.objs.size<=it) (w:∀x c,X.env.cells.lookup x=some c->c≠it) (A:∀p∈X.pn++pins,p.1≠it):Inv X pins σ H { s with heap:=h',toks:=t' }:=by
 have d:∀b u,H b=some u->b≠it:=λb u e z=>by rw[z,y]at e;cases e
 refine I.step (g':=s.gens) (d':=s.drawn) (ch:=[it]) (λb g=>?_) (λb o _ _ a e _=>k b o (λz=>a (by simp[z])) e) (λb o _ _ a e _=>⟨o.slots,k b o (λz=>a (by simp[z])) e⟩) (λ_ _ _ _ n=>n)
  (λb o a e=>⟨o,k b o (λz=>a (by simp[z])) e⟩) (λ_ _ e=>e) (λ_ _ _ e=>e) (λb C e=>⟨#[],by rw[e];simp⟩) (λm j=>?_) (λb u e=>?_) I.bare
 .have e:b=it:=by simpa using g
  subst e;exact⟨l,f,w,A⟩
 .obtain⟨o,B,h,i,r⟩:=j;exact⟨o,B,h,k _ o (Ne.symm f) i,r⟩
 .refine(I.hok b u e).rn (λc v a q=>k c v ?_ q) (λ_ q=>q) λ_ _ q=>q;rcases a with z|z
  .rw[z];exact d b u e
  .exact d c _ z
def Inv.tok(I:Inv X pins σ H s)(t:Nat):Inv X pins σ H { s with toks:=t }:=I.un (h':=s.heap) (t':=t) Un.refl I.hok
def Inv.kept(I:Inv X pins σ H s)(k:∀b u,s.heap.get? b=some u->h'.get? b=some u):Inv X pins σ H { s with heap:=h',toks:=t' }:=I.un (Un.kept k) (I.hok.kept k)
def Inv.laid(I:Inv X pins σ H s)(k:∀b u,s.heap.get? b=some u->h'.get? b=some u)(hp:s.heap.objs.size<=a)(new:qG X.prog X.w (upd H a o) h' a o):
  Inv X pins σ (upd H a o) { s with heap:=h',toks:=t' }:=I.un (Un.laid k hp (I.hok.fresh hp)) (I.hok.laid k hp new)
def Inv.write(I:Inv X pins σ H s)(c:Mut (H x))(he:e=x\/H e=some (.own x))(k:∀b u,b≠e->s.heap.get? b=some u->h'.get? b=some u)(a:∃u,h'.get? e=some u)
  (new:qG X.prog X.w (upd H x o) h' x o):Inv X pins σ (upd H x o) { s with heap:=h',toks:=t' }:=I.un (Un.write c he k a) (I.hok.write c he k a new)
def Inv.UW(I:Inv X pins σ H s)(h:∀p∈pins',s.heap.get? p.1=some p.2/\H p.1=none/\p.1≠X.env.locals/\p.1∉X.fs/\∀v,p.2.data≠.cell v):Inv X pins' σ H s:=
 ⟨I.ok,I.os,I.bare,I.base,I.loc,I.cell,I.free,I.W9,λp hp=>(a0B.mp hp).elim (λz=>I.pin p (a1m _ z)) (h p),I.hok,I.len⟩
def n4{N:Sn}(c:N.Nodup){i j:Nat}{x:Str}(a:N[i]?=some x)(b:N[j]?=some x):i=j:=by obtain⟨f,e⟩:=T9.mp a;obtain⟨g,d⟩:=T9.mp b;exact(List.getElem_inj c).mp (e.trans d.symm)
def gq(I:Inv X pins σ H s)(hN:X.N.Nodup)(N:X.N[i]?=some x)(B:Loc X.env.scope x)(r:RelV v u)
  (h:∀s',Inv X pins (σ.set i (some v)) H s'->(∃a,Heap.SameBut a s.heap s'.heap/\(a=X.env.locals\/X.env.cells.lookup x=some a))->Q () s') (hf:X.fn x=true\/X.env.scope.names.lookup x=some .local:=by first|exact .inl rfl|exact .inr rfl|assumption):wpAny M A (storeName X.env x u) Q E s:=by
 obtain⟨m,hn,hl⟩:=id I.loc;have P:(X.env.scope.kind == .class||(X.env.scope.kind == .module&&X.env.locals != X.env.globals))=false:=by rw[I.ok.kind];rfl
 have G:i<σ.length:=by rw[I.len];exact(T9.mp N).1
 have cne:=I.cne;have g:∀{a:Addr}{h':Heap},(∃o,s.heap.get? a=some o/\H a=none)->Heap.SameBut a s.heap h'->HOk X.prog X.w H h':=λ{a h'} ha f b ob e=>by
  obtain⟨_,_,C⟩:=ha;refine(I.hok b ob e).rn (λc Y w q=>(f.2 c ?_).trans q) (λ_ q=>q) λ_ _ q=>q
  rintro rfl
  rcases w with rfl|w
  .rw[C]at e;cases e
  .rw[C]at w;cases w
 rcases B with F|F
 .refine wpAny_storeName_local F hn (λh' hn' f=>?_) P;obtain⟨oL,_,_,hoL,_⟩:=id hn;refine h _ ⟨I.ok,I.os,I.bare,⟨λb o e n J B=>?_,λb o e n J B=>?_,I.base.free,λb o e B=>?_,I.base.tN,I.base.BA,I.base.BB⟩,⟨_,hn',λj y v' l D e3=>?_⟩,λy c e=>?_,I.free,I.W9,λp hp=>?_,g ⟨oL,hoL,I.free⟩ f,by simpa using I.len⟩ ⟨_,f,.inl rfl⟩
  .exact(f.2 b (a0e (T8 (T1 e) I.ok.above))).trans (I.base.keep b o e n J B)
  .obtain⟨sl,l⟩:=I.base.slot b o e n J B;exact⟨sl,(f.2 b (a0e (T8 (T1 e) I.ok.above))).trans l⟩
  .obtain⟨o',l⟩:=I.base.there b o e B;exact⟨o',(f.2 b (a0e (T8 (T1 e) I.ok.above))).trans l⟩
  .by_cases K:j=i
   .subst K;rw[N]at l;cases l;rw[a0l G]at D;cases D;exact⟨u,r,.inl ⟨F,by simp⟩⟩
   .rw[a0g (Ne.symm K)]at D;obtain⟨Z,r',q⟩:=hl j y v' l D e3;refine⟨Z,r',?_⟩;rcases q with⟨k,e⟩|⟨k,c,e,z⟩
    .refine .inl ⟨k,?_⟩;have:y≠x:=λe=>K (n4 hN l (e▸N));simp[this,e]
    .exact .inr ⟨k,c,e,z.sameBut f (cne y c e)⟩
  .obtain⟨Y,z⟩:=I.cell y c e;exact⟨Y,z.sameBut f (cne y c e)⟩
  .obtain⟨e,n,W,nf,d⟩:=I.pin p hp;exact⟨(f.2 p.1 W).trans e,n,W,nf,d⟩
 .have L:X.fn x=true:=by
   rcases hf with z|z
   .exact z
   .rw[z]at F;cases F
  obtain⟨c,w⟩:=I.ok.has x (.inl F);obtain⟨Y,z⟩:=I.cell x c w;refine wpAny_storeName_cell I.ok.kind F w z (λh' S f=>?_);obtain⟨oc,O,R⟩:=id z;refine h { s with heap:=h' } ⟨I.ok,I.os,I.bare,⟨λb o e n J B=>?_,λb o e n J B=>?_,I.base.free,λb o e B=>?_,I.base.tN,I.base.BA,I.base.BB⟩,⟨m,hn.sameBut f (Ne.symm (cne x c w)),λj y v' l D e3=>?_⟩,λy U e=>?_,I.free,I.W9,λp hp=>?_,g ⟨oc,O,I.W9 x c w⟩ f,by simpa using I.len⟩ ⟨c,f,.inr w⟩
  .exact(f.2 b (a0e (T8 (T1 e) (I.ok.cab x c L w)))).trans (I.base.keep b o e n J B)
  .obtain⟨sl,l⟩:=I.base.slot b o e n J B;exact⟨sl,(f.2 b (a0e (T8 (T1 e) (I.ok.cab x c L w)))).trans l⟩
  .obtain⟨o',l⟩:=I.base.there b o e B;exact⟨o',(f.2 b (a0e (T8 (T1 e) (I.ok.cab x c L w)))).trans l⟩
  .by_cases K:j=i
   .subst K;rw[N]at l;cases l;rw[a0l G]at D;cases D;exact⟨u,r,.inr ⟨.inl F,c,w,S⟩⟩
   .rw[a0g (Ne.symm K)]at D;obtain⟨Z,r',q⟩:=hl j y v' l D e3;refine⟨Z,r',?_⟩;rcases q with q|⟨k,U,e,z'⟩
    .exact .inl q
    .refine .inr ⟨k,U,e,z'.sameBut f ?_⟩
     rintro rfl
     exact K (n4 hN l (I.ok.inj _ _ _ e w▸N))
  .by_cases T:U=c
   .subst T;exact⟨_,S⟩
   .obtain⟨w2,z2⟩:=I.cell y U e;exact⟨w2,z2.sameBut f T⟩
  .obtain⟨e,n,W,nf,d⟩:=I.pin p hp;refine⟨(f.2 p.1 ?_).trans e,n,W,nf,d⟩;intro q;rw[q,O]at e;have q':oc=p.2:=a0x e;exact d Y (by rw[<- q'];exact R)
def Ux(I:Inv X pins σ H s)(c:X.N.Nodup)(e:X.N[i]?=some x)(d:Loc X.env.scope x)(r:RelV v u)
  (h:∀a,Inv X pins (σ.set i (some v)) H a->Q () a) (hf:X.fn x=true\/X.env.scope.names.lookup x=some .local:=by first|exact .inl rfl|exact .inr rfl|assumption):wpAny M A (storeName X.env x u) Q E s:=
 gq I c e d r (λa b _=>h a b) hf
def Inv.Ig(I:Inv X pins σ H s)(l:s'.os=s.os)(u:Un (frs X.stack) ch H H' s.heap s'.heap)(a:HOk X.prog X.w H' s'.heap)(i:AllBare s'.gens)
  (d:∀b∈ch,(b∈X.ex\/X.s₀.heap.objs.size<=b)/\b≠X.env.locals/\(∀x c,X.env.cells.lookup x=some c->c≠b)/\∀p∈X.pn++pins,p.1≠b):Inv X pins σ H' s':=by
 obtain⟨h',g,h,f,j⟩:=s';have e:j=s.os:=l;subst e;exact I.call (g':=g) (t':=f) (d':=h) u a i d
end
abbrev XK:=Value->Option Addr->Hp->Prop
abbrev St:=List (Option V)
abbrev VK:=V->Hp->Prop
abbrev TE:=St->Hp->VK->Prop
abbrev TT:=St->Hp->(Bool->Hp->Prop)->Prop
abbrev TA:=St->Hp->(List V->Hp->Prop)->Prop
structure Ends where
 nx:St->Hp->Prop
 rt:VK
 bk:St->Hp->Prop:=λ_ _=>False
 ct:St->Hp->Prop:=λ_ _=>False
abbrev TS:=Ends->St->Hp->Prop
def EP(X:Cx)(pins:Sm)(σ:St)(Q:VK)(u:Value)(b:Ss):Prop:=∃v a,Inv X pins σ a b/\RelV v u/\Q v a
def TP(X:Cx)(pins:Sm)(σ:St)(Q:Bool->Hp->Prop)(b:Bool)(c:Ss):Prop:=∃a,Inv X pins σ a c/\Q b a
def AP(X:Cx)(pins:Sm)(σ:St)(Q:List V->Hp->Prop)(us:Sv)(c:Ss):Prop:=∃a b,Inv X pins σ b c/\Vals a us/\Q a b
def SP(X:Cx)(pins:Sm)(D:Ends)(f:Flow)(c:Ss):Prop:=
 match f with
 |.next=>∃a b,Inv X pins a b c/\D.nx a b
 |.brk=>∃a b,Inv X pins a b c/\D.bk a b
 |.cont=>∃a b,Inv X pins a b c/\D.ct a b
 |.ret u=>∃v a b,Inv X pins a b c/\RelV v u/\D.rt v b
def PE(X:Cx)(e:Sy)(t:TE):Prop:=
 ∀(a:Sm)(s:Ss)(b:St)(H:Hp)(Q:VK),Inv X a b H s->t b H Q->wpAny (TQ X) X.A (eval e X.env) (EP X a b Q) X.xe s
def PT(X:Cx)(e:Sy)(t:TT):Prop:=
 ∀(a:Sm)(s:Ss)(b:St)(H:Hp)(Q:Bool->Hp->Prop),Inv X a b H s->t b H Q->wpAny (TQ X) X.A (isTrue e X.env (eval e X.env)) (TP X a b Q) X.xe s
def PW(X:Cx)(e:Sy)(t:TT):Prop:=
 ∀(b:Sem Value)(a:Sm)(s:Ss)(c:St)(H:Hp)(Q:Bool->Hp->Prop),Inv X a c H s->t c H Q->wpAny (TQ X) X.A (isTrue e X.env b) (TP X a c Q) X.xe s
def PW.pt(h:PW X e t):PT X e t:=h _
def PA(X:Cx)(es:Sw)(t:TA):Prop:=
 ∀(c:Pos)(a:Sm)(s:Ss)(b:St)(H:Hp)(Q:List V->Hp->Prop),Inv X a b H s->t b H Q->wpAny (TQ X) X.A (spliced (backTo c (starEach es X.env))) (AP X a b Q) X.xe s
def PS(X:Cx)(st:Tf)(t:TS):Prop:=
 ∀(a:Sm)(s:Ss)(b:St)(H:Hp)(D:Ends),Inv X a b H s->t D b H->wpAny (TQ X) X.A (exec st X.env) (SP X a D) X.xe s
def PSs(X:Cx)(st:SY)(t:TS):Prop:=
 ∀(a:Sm)(s:Ss)(b:St)(H:Hp)(D:Ends),Inv X a b H s->t D b H->wpAny (TQ X) X.A (execs st X.env) (SP X a D) X.xe s
def thn{c:Type}{t:Sem c}{Q b:c->Shared->Prop}(h:wpAny M A t Q E s)(d:∀a s,Q a s->b a s):wpAny M A t b E s:=a0A h d λ_ _ x=>x
section
variable {X:Cx}
def rA(i:Nat):TE:=λa H Q=>∃v,a[i]?=some (some v)/\Q v H
def tC(v:V):TE:=λ_ H Q=>Q v H
def Ih(q:X.N[i]?=some x)(z:Vis X.env.scope x)(g:(x==("__debug__":Str))=false:=by decide)(j:(x==("__classdict__":Str))=false:=by decide):PE X (.Name x pos) (rA i):=by
 intro f s o H Q I h;obtain⟨v,e,h⟩:=h;obtain⟨m,w,y⟩:=I.loc;obtain⟨u,r,l⟩:=y i x v q e z;have d:EP X f o Q u s:=⟨v,H,I,r,h⟩;rcases l with⟨b,p⟩|⟨b,c,n,a⟩
 .exact wpAny_Name (wpAny_loadName_local I.ok.kind b w p d) g
 .rcases b with b|b
  .exact wpAny_Name (wpAny_loadName_cell I.ok.kind b n a d) g
  .exact wpAny_Name (wpAny_loadName_free I.ok.kind b n a d j) g
def Ii{i j pos}:PE X (.Constant (.int i) j pos) (tC (.int i)):=λ_ _ _ H _ I h=>wpAny_Constant_int ⟨.int i,H,I.tok _,⟨_,rfl⟩,h⟩
def X8{b j pos}:PE X (.Constant (.bool b) j pos) (tC (.bl b)):=λ_ _ _ H _ I h=>Constant_bool ⟨.bl b,H,I,rfl,h⟩
def Vv{j pos}:PE X (.Constant .none j pos) (tC .non):=λ_ _ _ H _ I h=>Constant_none ⟨.non,H,I,rfl,h⟩
def qY{x j pos}:PE X (.Constant (.str x) j pos) (tC (.str x)):=λ_ _ _ H _ I h=>Calls.Constant_str ⟨.str x,H,I.tok _,⟨_,rfl⟩,h⟩
def Gl(X:Cx)(x:Str):Prop:=X.env.kindOf x=some .globalImplicit
def WC(I:Inv X pins σ H s)(c:Gl X x)(b:X.mg x=some u)(h:Q u s)
  (a:(x==("__debug__":Str))=false:=by decide):wpAny (TQ X) X.A (eval (.Name x pos) X.env) Q E s:=
 a2m I.ok.kind c (Calls.loadGlobal_global (by rw[I.ok.glob];exact I.mod.glob.keeps I.bk) b h) a
def UX(I:Inv X pins σ H s)(b:Gl X x)(a:X.mg x=none)(g:bootBuiltins x=some u)(h:Q u s)
  (e:x≠"__name__":=by decide) (d:(x==("__debug__":Str))=false:=by decide):wpAny (TQ X) X.A (eval (.Name x pos) X.env) Q E s:=by
 obtain⟨i,c,f⟩:=I.mod.blt;exact a2m I.ok.kind b (Calls.loadGlobal_builtin (by rw[I.ok.glob];exact I.mod.glob.keeps I.bk) a (by rw[I.ok.blt];exact c.keeps I.bk) ((f x e).trans g) h) d
def zy(b:Gl X x)(a:X.mg x=some u)(r:RelV v u)(c:(x==("__debug__":Str))=false:=by decide):PE X (.Name x pos) (tC v):=
 λ_ _ _ H _ I h=>WC I b a ⟨v,H,I,r,h⟩ c
def dU(b:Gl X x)(a:X.mg x=none)(e:bootBuiltins x=some u)(r:RelV v u)(d:x≠"__name__":=by decide)(c:(x==("__debug__":Str))=false:=by decide):PE X (.Name x pos) (tC v):=
 λ_ _ _ H _ I h=>UX I b a e ⟨v,H,I,r,h⟩ d c
variable {a b:Sy}{ta tb:TE}{pos:Pos}
def dW(b:Sy)(h:op≠.In)(e:op≠.NotIn):behindInMarks op b=false:=by
 have c:(op==CmpOp.In)=false:=by cases op<;>first|rfl|exact absurd rfl h
 have d:(op==CmpOp.NotIn)=false:=by cases op<;>first|rfl|exact absurd rfl e
 cases b<;>simp[behindInMarks,c,d]
def tB(t:TE):TT:=λe H Q=>t e H λx d=>∃c,x=.bl c/\Q c d
def Ij(h:PE X e t)(he:∀c,isTrue e X.env c=(do let v<-c;standAt e.pos;holding [v] (truthy v)):=by intro _;rfl):PT X e (tB t):=by intro f s m H Q I j;refine isTrue_plain (thn (h f s m H _ I j) λv o ⟨x,g,n,i,l⟩=>?_) (he _);obtain⟨d,rfl,q⟩:=l;cases i;exact a1D ⟨g,n,q⟩
variable {tA tB':TT}{rest:Sw}
def Rv(t u:TT):TT:=λe H Q=>t e H λc d=>if c=true then u e d Q else Q false d
def tOr(t u:TT):TT:=λe H Q=>t e H λc d=>if c=true then Q true d else u e d Q
def Rx(t:TT):TT:=λe H Q=>t e H λc d=>Q (!c) d
def pw_and1(g:PT X a tA):PW X (.BoolOp .And [a] pos) tA:=by
 intro j d s f H Q I h;refine isTrue_and (thn (g d s f H Q I h) λc i e=>?_);cases c with
 |true=>exact isTrue_and_nil e
 |false=>exact e
def pw_or1(g:PT X a tA):PW X (.BoolOp .Or [a] pos) tA:=by
 intro j d s f H Q I h;refine isTrue_or (thn (g d s f H Q I h) λc i e=>?_);cases c with
 |false=>exact isTrue_or_nil e
 |true=>exact e
def pw_and(m:PT X a tA)(j:PW X (.BoolOp .And (b::rest) pos) tB'):PW X (.BoolOp .And (a::b::rest) pos) (Rv tA tB'):=by
 intro n d s g H Q I h;refine isTrue_and (thn (m d s g H _ I h) λc l ⟨e,i,f⟩=>?_);cases c with
 |true=>exact j n d l g e Q i f
 |false=>exact⟨e,i,f⟩
def pw_or(m:PT X a tA)(j:PW X (.BoolOp .Or (b::rest) pos) tB'):PW X (.BoolOp .Or (a::b::rest) pos) (tOr tA tB'):=by
 intro n d s g H Q I h;refine isTrue_or (thn (m d s g H _ I h) λc l ⟨e,i,f⟩=>?_);cases c with
 |true=>exact⟨e,i,f⟩
 |false=>exact j n d l g e Q i f
def D2(g:PT X a tA):PT X (.UnaryOp .Not a pos) (Rx tA):=by intro d s f H Q I h;exact isTrue_not (g d s f H (λc e=>Q (!c) e) I h)
def Ob(ta tb:TE):TE:=λe H Q=>ta e H λx d=>∃c,x=.bl c/\if c=true then tb e d Q else Q (.bl false) d
def Ik{op}(h:PE X a t):PE X (.BoolOp op [a] pos) t:=λc s e H Q I d=>BoolOp_one (h c s e H Q I d)
def Il(n:PE X a ta)(j:PE X (.BoolOp .And (b::rest) pos) tb):PE X (.BoolOp .And (a::b::rest) pos) (Ob ta tb):=by
 intro d s g H Q I h;refine BoolOp_and (thn (n d s g H _ I h) λv m ⟨x,f,i,l,e⟩=>?_);obtain⟨c,rfl,e⟩:=e;cases l;refine a1D ?_;cases c with
 |true=>exact j d m g f Q i e
 |false=>exact⟨.bl false,f,i,rfl,e⟩
end
def SqL(K:Sz)(H:Hp)(a:Addr)(xs:Sx):Prop:=
 Rd H a (.lst xs)\/
  ∃(o:Obj)(b:Td)(n:Nat),K.lookup a=some o/\o.cls=.type "list"/\o.dict=none/\o.data=.seq b n/\b.size<=sizeLine/\Vals xs b.toList
def SqT(K:Sz)(H:Hp)(a:Addr)(xs:Sx):Prop:=
 Rd H a (.tup xs)\/
  ∃(o:Obj)(b:Td)(n:Nat),K.lookup a=some o/\o.cls=.type "tuple"/\o.data=.seq b n/\b.size<=sizeLine/\Vals xs b.toList
def Rz:Value->Option V
 |.none=>some .non
 |.bool b=>some (.bl b)
 |.int i _=>some (.int i)
 |.str x _=>some (.str x)
 |.bytes b _=>some (.byt b)
 |.float b _=>some (.flt b)
 |.ref a=>some (.ref a)
 |.type n=>some (.ty n)
 |_=>none
def RelV.abs(r:RelV x u):Rz u=some x:=by
 cases x with
 |non=>cases r;rfl
 |bl _=>cases r;rfl
 |int _=>obtain⟨t,rfl⟩:=r;rfl
 |str _=>obtain⟨t,rfl⟩:=r;rfl
 |byt _=>obtain⟨t,rfl⟩:=r;rfl
 |flt _=>obtain⟨t,rfl⟩:=r;rfl
 |ref _=>cases r;rfl
 |ty _=>cases r;rfl
def RelV.inj(r:RelV x u)(q:RelV y u):x=y:=a0x (r.abs.symm.trans q.abs)
def Vals.inj:∀{b c:Sx}{a:Sv},Vals b a->Vals c a->b=c
 |_,_,_,.nil,.nil=>rfl
 |_,_,_,.cons r t,.cons e d=>by rw[r.inj e,Vals.inj t d]
def SqL.of{K:Sz}(h:H a=some (.lst xs)):SqL K H a xs:=.inl (.inl h)
def SqT.of{K:Sz}(h:H a=some (.tup xs)):SqT K H a xs:=.inl (.inl h)
def Inv.list(I:Inv X pins σ H s)(h:SqL X.K H a xs):∃b:List Value,Vals xs b/\PlainL s.heap a b.toArray/\xs.length<=sizeLine:=by
 rcases h with h|⟨o,b,n,c,g,f,d,hz,r⟩
 .obtain⟨z,b,n,r,e⟩:=h.ok I.hok;exact⟨b,r,⟨_,n,e,rfl,rfl,rfl⟩,z⟩
 .refine⟨b.toList,r,⟨o,n,I.kIn a o c,g,f,by simpa using d⟩,?_⟩;have e:=r.length;simp only[Array.length_toList]at e;omega
def Inv.tuple(I:Inv X pins σ H s)(h:SqT X.K H a xs):∃b:List Value,Vals xs b/\IsTup s.heap a b.toArray/\xs.length<=sizeLine:=by
 rcases h with h|⟨o,b,n,d,f,c,hz,r⟩
 .obtain⟨z,b,r,p⟩:=h.ok I.hok;exact⟨b,r,p,z⟩
 .refine⟨b.toList,r,⟨o,I.kIn a o d,f,n,by simpa using c⟩,?_⟩;have e:=r.length;simp only[Array.length_toList]at e;omega
def Inv.BD(I:Inv X pins σ H s)(h:SqL X.K H a xs)(h':SqL X.K H a ys):xs=ys:=by
 obtain⟨c,r,⟨o,n,e,_,_,d⟩,_⟩:=I.list h;obtain⟨b,i,⟨j,l,g,_,_,f⟩,_⟩:=I.list h';rw[e]at g;cases g;rw[d]at f;injection f with d1 _
 have:c=b:=by simpa using a0F Array.toList d1
 subst this;exact r.inj i
def Inv.gr(I:Inv X pins σ H s)(h:SqT X.K H a xs)(h':SqT X.K H a ys):xs=ys:=by
 obtain⟨c,r,⟨o,e,_,n,d⟩,_⟩:=I.tuple h;obtain⟨b,i,⟨j,g,_,l,f⟩,_⟩:=I.tuple h';rw[e]at g;cases g;rw[d]at f;injection f with d1 _
 have:c=b:=by simpa using a0F Array.toList d1
 subst this;exact r.inj i
abbrev Cx.gm(X:Cx)(E:Sq):Cx:={ X with xe:=E }
abbrev Cx.nox(X:Cx):Cx:=X.gm λ_ _=>False
def Cx.Ok.gm{X:Cx}(ok:X.Ok)(E:Sq):(X.gm E).Ok:=
 ⟨ok.mod,ok.kind,ok.glob,ok.blt,ok.above,ok.inj,ok.has,ok.cab,ok.hd,ok.frames,ok.stk,ok.exf,ok.bs,ok.bsz,ok.HZ,ok.H_,ok.lR,ok.frf⟩
def Cx.Ok.QJ{X:Cx}{E:Sq}(ok:(X.gm E).Ok):X.Ok:=
 ⟨ok.mod,ok.kind,ok.glob,ok.blt,ok.above,ok.inj,ok.has,ok.cab,ok.hd,ok.frames,ok.stk,ok.exf,ok.bs,ok.bsz,ok.HZ,ok.H_,ok.lR,ok.frf⟩
def Inv.gm(I:Inv X pins σ H s)(E:Sq):Inv (X.gm E) pins σ H s:=⟨I.ok.gm E,I.os,I.bare,I.base,I.loc,I.cell,I.free,I.W9,I.pin,I.hok,I.len⟩
def Inv.QJ(I:Inv (X.gm E) pins σ H s):Inv X pins σ H s:=⟨I.ok.QJ,I.os,I.bare,I.base,I.loc,I.cell,I.free,I.W9,I.pin,I.hok,I.len⟩
def SP.QJ(h:SP (X.gm E) pins D f s'):SP X pins D f s':=by
 cases f with
 |next=>obtain⟨a,b,I,q⟩:=h;exact⟨a,b,I.QJ,q⟩
 |brk=>obtain⟨a,b,I,q⟩:=h;exact⟨a,b,I.QJ,q⟩
 |cont=>obtain⟨a,b,I,q⟩:=h;exact⟨a,b,I.QJ,q⟩
 |ret u=>obtain⟨v,a,b,I,r,q⟩:=h;exact⟨v,a,b,I.QJ,r,q⟩
section
variable {X:Cx}{st:Tf}{rest:SY}{t u:TS}{e:Sy}{te:TE}{pos:Pos}
def Oc:TS:=λD a H=>D.nx a H
def Od(t u:TS):TS:=λD a H=>t { D with nx:=u D } a H
def tT:PSs X [] Oc:=λ_ _ a H _ I h=>a1x ⟨a,H,I,h⟩
def Uy(g:PS X st t)(j:PSs X rest u):PSs X (st::rest) (Od t u):=by
 intro a s i H D I h;refine a2A (thn (g a s i H { D with nx:=u D } I h) λf c q=>?_);cases f with
 |next=>obtain⟨b,l,d,q⟩:=q;exact j a c b l D d q
 |ret v=>exact q
 |brk=>exact q
 |cont=>exact q
def kY(b:PS X st t):PSs X [st] t:=by
 intro a s c H D I h;refine a2A (thn (b a s c H D I h) λf d q=>?_);cases f with
 |next=>exact a1x q
 |ret v=>exact q
 |brk=>exact q
 |cont=>exact q
def Inv.quiet(I:Inv X pins σ H s):interactive X.env=false:=by simp[interactive,I.ok.kind]
def Oe(te:TE):TS:=λD a H=>te a H λ_ b=>D.nx a b
def UY(he:PE X e te)(d:swapsWith e none pos.line X.env=pure false:=by rfl):PS X (.Expr e pos) (Oe te):=by intro a s b H D I h;exact wpAny_Expr_any (thn (he a s b H _ I h) λv i ⟨x,c,g,j,f⟩=>⟨b,c,g,f⟩) I.quiet d
def RA(te:TE):TS:=λD a H=>te a H D.rt
def n5(he:PE X e te):PS X (.Return (some e) pos) (RA te):=by intro a s b H D I h;exact wpAny_Return_some (thn (he a s b H _ I h) λv i ⟨x,c,g,d,f⟩=>⟨x,b,c,g,d,f⟩)
def RB(c:TT)(t u:TS):TS:=λD a H=>c a H λb d=>if b=true then t D a d else u D a d
def Im(p:PT X c tc)(o:PSs X a t)(n:PSs X b u):PS X (.If c a b pos) (RB tc t u):=by
 intro f s g H D I h;refine wpAny_If (thn (p f s g H _ I h) λd j ⟨i,m,l⟩=>?_);cases d with
 |true=>exact o f j g i D m l
 |false=>exact n f j g i D m l
end
abbrev TG:=V->St->Hp->(St->Hp->Prop)->Prop
abbrev TGs:=List V->St->Hp->(St->Hp->Prop)->Prop
def PG(X:Cx)(a:Sy)(t:TG):Prop:=
 ∀(b:Sm)(s:Ss)(d:St)(H:Hp)(v:V)(u:Value)(Q:St->Hp->Prop),Inv X b d H s->RelV v u->t v d H Q->
  wpAny (TQ X) X.A (assign a X.env u) (λ_ f=>∃c e,Inv X b c e f/\Q c e) X.xe s
def PGs(X:Cx)(ts:Sw)(t:TGs):Prop:=
 ∀(a:Sm)(s:Ss)(d:St)(H:Hp)(e:Sx)(c:Sv)(Q:St->Hp->Prop),Inv X a d H s->Vals e c->t e d H Q->
  wpAny (TQ X) X.A (assignInOrder ((assignEach ts X.env).map (·.2)) c) (λ_ g=>∃b f,Inv X a b f g/\Q b f) X.xe s
abbrev PL:=V->V->V->Hp->(Hp->Prop)->Prop
def PM(X:Cx)(t:PL):Prop:=
 ∀(a:Sm)(s:Ss)(c:St)(H:Hp)(o i v:V)(d b u:Value)(Q:Hp->Prop),Inv X a c H s->RelV o d->RelV i b->RelV v u->t o i v H Q->
  wpAny (TQ X) X.A (setItem d b u) (λ_ f=>∃e,Inv X a c e f/\Q e) X.xe s
section
variable {X:Cx}{pos:Pos}
def lS(i:Nat):TG:=λv a H Q=>Q (a.set i (some v)) H
def tU(c:X.N.Nodup)(e:X.N[i]?=some x)(d:Loc X.env.scope x)(hf:X.fn x=true\/X.env.scope.names.lookup x=some .local:=by first|exact .inl rfl|exact .inr rfl|assumption):PG X (.Name x pos) (lS i):=by intro a s g H v u Q I r h;exact wpAny_assign_Name (Ux I c e d r (λf b=>⟨_,H,b,h⟩) hf)
def RD:TGs:=λb a H Q=>b=[]/\Q a H
def Of(t:TG)(u:TGs):TGs:=λc b H Q=>∃v r,c=v::r/\t v b H λa d=>u r a d Q
def Fu:PGs X [] RD:=by intro a s b H d c Q I r h;obtain⟨e,h⟩:=h;subst e;cases r;exact assignInOrder_nil ⟨b,H,I,h⟩
def BE(j:PG X e t)(o:PGs X es u)
  (d:(assignEach (e::es) X.env).map (·.2)=assign e X.env::(assignEach es X.env).map (·.2):=by rfl):PGs X (e::es) (Of t u):=by
 intro a s g H p q Q I r h;obtain⟨v,w,n,h⟩:=h;subst n;cases r with
 |cons r f=>rw[d];refine assignInOrder_cons (thn (j a s g H _ _ _ I r h) λ_ c ⟨b,i,m,l⟩=>?_);exact o a c b i _ _ Q m f l
def RE(K:Sz)(n:Nat)(t:TGs):TG:=λv c H Q=>∃a b,v=.ref a/\SqT K H a b/\b.length=n/\t b c H Q
def Io(j:X.calm=true)(h:PGs X es t)
  (A:(assignEach es X.env).length=n:=by rfl) (f:(assignEach es X.env).findIdx? (·.1)=none:=by rfl):PG X (.Tuple es k pos) (RE X.K n t):=by
 intro c s g H v u Q I r d;obtain⟨a,w,z,p,B,d⟩:=d;subst z;cases r;obtain⟨x,i,y,hz⟩:=I.tuple p;refine assign_Tuple_tuple (I.ok.hd j) y (by simp[A,<- B,i.length]) f λm l=>?_;have q:Inv X c g H { s with heap:=m }:=I.kept (t':=s.toks) λb o e=>l b o (a0e (T1 e)) e;exact h c _ g H w _ Q q (by simpa using i) d
def RF(d f:TE)(t:PL):TG:=λv a H Q=>d a H λo b=>f a b λi e=>t o i v e λc=>Q a c
def Ip(j:PE X o to)(l:PE X i ti)(f:PM X t)
  (E:∀v,assign (.Subscript o i pos) X.env v=(do
   let b<-holding [v] (eval o X.env)
   let c<-holding [v,b] (eval i X.env)
   standAt pos
   holding [v,b,c] (setItem b c v)
   release [v,b,c] []):=by intro _;rfl):PG X (.Subscript o i pos) (RF to ti t):=by
 intro a s d H v u Q I r h;rw[E];refine f8 (a0H (thn (j a s d H _ I h) λb e ⟨x,m,B,p,w⟩=>?_));refine f8 (a0H (thn (l a e d m _ B w) λc D ⟨y,A,g,n,z⟩=>?_));refine f8 (a1v (f8 (a0H (thn (f a D d A x y v b c u _ g p n r z) λ_ G ⟨C,F,q⟩=>?_))));exact wpAny_release ⟨d,C,F,q⟩
def HD(te:TE)(g:TG):TS:=λD a H=>te a H λx b=>g x a b D.nx
def Iq(he:PE X e te)(l:PG X tg g)(d:swapsWithSole [tg] e pos.line X.env=pure false:=by rfl)(i:swappedStores [tg] e X.env=pure none:=by rfl)
  (m:(assignEach [tg] X.env).map (·.2)=[assign tg X.env]:=by rfl):PS X (.Assign [tg] e pos) (HD te g):=by
 intro a s b H D I h;refine wpAny_Assign_stores (thn (he a s b H _ I h) λv c ⟨x,f,o,j,n⟩=>?_) d i;rw[m];exact thn (l a c b f x v _ o j n) λ_ p q=>q
def tV(m:X.N.Nodup)(f:X.N[i]?=some x)(j:Loc X.env.scope x)(he:PE X e te)(b:swapsWith e (some (.Name x pos')) pos.line X.env=pure false:=by rfl)(hf:X.fn x=true\/X.env.scope.names.lookup x=some .local:=by first|exact .inl rfl|exact .inr rfl|assumption):
  PS X (.Assign [.Name x pos'] e pos) (HD te (lS i)):=by
 intro a s c H D I h;refine wpAny_Assign_Name (thn (he a s c H _ I h) λv p ⟨y,g,o,l,n⟩=>?_) b;exact Ux o m f j l (λq d=>⟨_,g,d,n⟩) hf
def D3(c:TT)(h:TS):TS:=λD a H=>∃W:Nat->St->Hp->Prop,(∃m,W m a H)/\∀m a H,W m a H->
 c a H λb e=>if b=true then ∃N:St->Hp->Prop,(∀d f,N d f->∃g,g<m/\W g d f)/\h { D with nx:=N,ct:=N,bk:=D.nx } a e else D.nx a e
def BF(hp:PassesOwn (TQ X) X.A X.env X.xe)(F:PT X c tc)(B:PSs X body tb):PS X (.While c body [] pos) (D3 tc tb):=by
 intro a s E H D I h;obtain⟨W,⟨J,M⟩,i⟩:=h;refine wpAny_While (codeAny_whileLoop (λn K=>∃g A,Inv X a g A K/\W n g A) ?_ J ⟨E,H,I,M⟩)
 rintro n C ⟨e,x,L,G⟩
 refine a1h hp (thn (F a C e x _ L (i n e x G)) λb O ⟨z,w,m⟩=>?_);cases b with
 |true=>
  obtain⟨N,y,m⟩:=m;rw[if_pos rfl];refine a1h hp (thn (B a O e z _ w m) λf P l=>?_);cases f with
  |next=>obtain⟨d,j,u,q⟩:=l;obtain⟨o,r,p⟩:=y d j q;exact⟨o,r,d,j,u,p⟩
  |cont=>obtain⟨d,j,u,q⟩:=l;obtain⟨o,r,p⟩:=y d j q;exact⟨o,r,d,j,u,p⟩
  |brk=>exact l
  |ret v=>exact l
 |false=>rw[if_neg T7];exact a1x ⟨e,z,w,m⟩
end
structure It where
 go:Nat->Hp->Prop
 yld:Nat->Hp->V->Hp->Prop
 stop:Nat->Hp->Prop
def rB(X:Cx)(pins:Sm)(H:Hp)(b:Addr):Prop:=
 H b=none/\b≠X.env.locals/\b∉X.fs/\(b∈X.ex\/X.s₀.heap.objs.size<=b)/\(∀x c,X.env.cells.lookup x=some c->c≠b)/\∀p∈X.pn++pins,p.1≠b
def Inv.HF(I:Inv X pins σ H s)(a:s.heap.objs.size<=b)(d:H' b=none):rB X pins H' b:=by
 refine⟨d,a1e (T8 I.lt a),I.PJ a,.inr (a0o I.sz a),λx c e z=>?_,λp hp z=>?_⟩
 .obtain⟨v,q⟩:=I.cell x c e;exact absurd (T8 q.lt (by rw[z];exact a)) (a0X _)
 .exact absurd (T8 (T1 (I.pin p hp).1) (by rw[z];exact a)) (a0X _)
structure Turn(P:SG)(w:SI)(K:Sz)(tg:Sy)(J:It)(fp:Tg)(it:Addr)(tn:Nat->Heap->Prop):Prop where
 mem:it∈fp
 obj:∀i h,tn i h->∀b∈fp,∃o,h.get? b=some o/\∀v,o.data≠.cell v
 keep:∀i h h',tn i h->(∀b∈fp,∀o,h.get? b=some o->h'.get? b=some o)->tn i h'
 item:∀(X:Cx),X.prog=P->X.w=w->X.K=K->X.calm=true->∀(i:Nat)(pins:Sm)(s:Ss)(σ:St)(H:Hp)(E:Sq),Inv X pins σ H s->(∀b∈fp,rB X pins H b)->tn i s.heap->J.go i H->
  wpAny (model P w) X.A (pyNext (.ref it)) (λr s1=>∃u,r=some u/\
   wpAny (model P w) X.A (letOwnedTupleGo tg (.ref it) u) (λ_ s2=>∃x H',Inv X pins σ H' s2/\RelV x u/\J.yld i H x H'/\tn (i+1) s2.heap/\∀b∈fp,H' b=none) E s1) E s
 done:∀(X:Cx),X.prog=P->X.w=w->X.K=K->X.calm=true->∀(i:Nat)(pins:Sm)(s:Ss)(σ:St)(H:Hp)(E:Sq),Inv X pins σ H s->(∀b∈fp,rB X pins H b)->tn i s.heap->J.stop i H->
  wpAny (model P w) X.A (pyNext (.ref it)) (λr s1=>r=none/\Inv X pins σ H s1) E s
 self:∀(A:SQ)(i:Nat)(s:Ss)(Q:Sq)(E:Sq),tn i s.heap->Q (.ref it) s->wpAny (model P w) A (pyIter (.ref it)) Q E s
abbrev TI:=St->Hp->(It->Hp->Prop)->Prop
def PIE(X:Cx)(pins:Sm)(σ:St)(h:Sy)(R:It->Hp->Prop)(a:Value)(e:Ss):Prop:=
 ∃(g:Addr)(d:Tg)(f:Nat->Heap->Prop)(J:It)(c:Hp),a=.ref g/\Inv X pins σ c e/\Turn X.prog X.w X.K h J d g f/\f 0 e.heap/\(∀b∈d,rB X pins c b)/\R J c
def PI(X:Cx)(d e:Sy)(f:TI):Prop:=
 ∀(a:Sm)(s:Ss)(b:St)(H:Hp)(R:It->Hp->Prop),Inv X a b H s->f b H R->
  wpAny (TQ X) X.A (eval e X.env) (λv c=>wpAny (TQ X) X.A (pyIter v) (PIE X a b d R) X.xe c) X.xe s
def Fv(c:s.heap.get? it=some o)(e:o.cls=.type n)(b:o.data=.fields vs)
    (d:["enumerate","zip","dict_itemiterator","dict_reverseitemiterator","odict_iterator","itertools.zip_longest","itertools.pairwise"].contains n=false) (a:Q () s):wpAny M A (letOwnedTupleGo tg (.ref it) u) Q E s:=by
  unfold letOwnedTupleGo;cases tg<;>first
    |exact S8 a
    | (cases u<;>first
        |exact S8 a
        | (refine f8 (a29 c ?_)
           rw[e,b];show wpAny M A (if(["enumerate","zip","dict_itemiterator","dict_reverseitemiterator","odict_iterator","itertools.zip_longest","itertools.pairwise"].contains n&&vs[0]?==some (rawInt _))=true then _ else _) Q E s;rw[if_neg (by intro h;rw[d,Bool.false_and]at h;cases h)];exact S8 a))
def Itl(K:Sz)(a:Addr):It:=
 ⟨λi H=>∃b x,SqL K H a b/\b[i]?=some x,λi H x c=>c=H/\∀b,SqL K H a b->b[i]?=some x,λi H=>∃b,SqL K H a b/\b.length<=i⟩
def Itt(K:Sz)(a:Addr):It:=
 ⟨λi H=>∃b x,SqT K H a b/\b[i]?=some x,λi H x c=>c=H/\∀b,SqT K H a b->b[i]?=some x,λi H=>∃b,SqT K H a b/\b.length<=i⟩
def Itr(b:Int)(n:Nat):It:=⟨λi _=>i<n,λi H x a=>a=H/\x=.int (b+i),λi _=>n<=i⟩
def tW{P:SG}{w:SI}{K:Sz}{T:Sy}(a l:Addr):Turn P w K T (Itl K a) [l] l (λi h=>h.IsListIter l a i)where
 mem:=by simp
 obj:=λi h f b j=>by
  have e:b=l:=by simpa using j
  subst e;obtain⟨o,e,c,d⟩:=f;exact⟨o,e,λv z=>by rw[d]at z;cases z⟩
 keep:=λi h n f k=>f.at λo e=>k l (by simp) o e
 item:=by intro X hP A M O i g s N H E I hf f G;subst hP A M;obtain⟨W,x,q,D⟩:=G;obtain⟨J,F,p,hz⟩:=I.list q;obtain⟨u,Q,R⟩:=F.get D;obtain⟨B,L,Z,C,y,r⟩:=hf l (by simp);refine wpAny_pyNext_list_item f p.isList (x:=u) (by simpa using Q) λn m S=>?_;have U:Inv X g N H { s with heap:=n }:=I.turned (t':=s.toks) (λb o j e=>(S.2 b j).trans e) B L C y r;obtain⟨o,e,c,d⟩:=id m;exact⟨u,rfl,Fv (s:={ s with heap:=n }) e c d (by decide) ⟨x,H,U,R,⟨rfl,λys Y=>by rw[I.BD Y q];exact D⟩,m,λb j=>(hf b j).1⟩⟩
 done:=by intro X hP A M O i g s N H E I hf f G;subst hP A M;obtain⟨W,q,D⟩:=G;obtain⟨J,F,p,hz⟩:=I.list q;obtain⟨B,L,Z,C,y,r⟩:=hf l (by simp);have hl:=F.length;exact wpAny_pyNext_list_end (I.ok.hd O) f p.isList (by simp;omega) λn eb=>⟨rfl,I.turned (t':=s.toks) (λb o j e=>eb b o j e) B L C y r⟩
 self:=λ_ _ _ _ _ f h=>wpAny_pyIter_listiter f h
def rC{P:SG}{w:SI}{K:Sz}{T:Sy}(a l:Addr):Turn P w K T (Itt K a) [l] l (λi h=>h.IsTupleIter l a i)where
 mem:=by simp
 obj:=λi h f b j=>by
  have e:b=l:=by simpa using j
  subst e;obtain⟨o,e,c,d⟩:=f;exact⟨o,e,λv z=>by rw[d]at z;cases z⟩
 keep:=λi h q f k=>f.at λo e=>k l (by simp) o e
 item:=by intro X hP B M O i g s N H E I hf f J;subst hP B M;obtain⟨W,x,r,F⟩:=J;obtain⟨m,G,p,hz⟩:=I.tuple r;obtain⟨u,Q,R⟩:=G.get F;obtain⟨C,L,Z,D,A,y⟩:=hf l (by simp);refine wpAny_pyNext_tuple_item f (show s.heap.IsTuple a m.toArray from p) (x:=u) (by simpa using Q) λq n S=>?_;have U:Inv X g N H { s with heap:=q }:=I.turned (t':=s.toks) (λb o j e=>(S.2 b j).trans e) C L D A y;obtain⟨o,e,c,d⟩:=id n;exact⟨u,rfl,Fv (s:={ s with heap:=q }) e c d (by decide) ⟨x,H,U,R,⟨rfl,λys Y=>by rw[I.gr Y r];exact F⟩,n,λb j=>(hf b j).1⟩⟩
 done:=by intro X hP B M O i g s N H E I hf f J;subst hP B M;obtain⟨W,r,F⟩:=J;obtain⟨m,G,p,hz⟩:=I.tuple r;obtain⟨C,L,Z,D,A,y⟩:=hf l (by simp);have hl:=G.length;exact wpAny_pyNext_tuple_end (I.ok.hd O) f (show s.heap.IsTuple a m.toArray from p) (by simp;omega) λq eb=>⟨rfl,I.turned (t':=s.toks) (λb o j e=>eb b o j e) C L D A y⟩
 self:=λ_ _ _ _ _ f h=>wpAny_pyIter_tupleiter f h
def rD{P:SG}{w:SI}{K:Sz}{F:Sy}(c:Addr)(j:Int)(n:Nat):Turn P w K F (Itr j n) [c] c (λi h=>IsRangeIter h c (j+(i:Nat)*1) ((n:Int)-(i:Nat)) 1)where
 mem:=by simp
 obj:=λi h a b f=>by
  have e:b=c:=by simpa using f
  subst e;exact⟨_,a,λv z=>by
   have M:Data.fields _=Data.cell v:=z;cases M⟩
 keep:=λi h l a k=>k c (by simp) _ a
 item:=by intro X hP r B q i d s C H E I hf a y;subst hP r B;obtain⟨u,A,J,x,p,m⟩:=hf c (by simp);have W:=Walks.range (prog:=X.prog) (w:=X.w) (I.ok.hd q) c j 1 n;refine W.item i s _ _ y a λv l D N g kk=>?_;obtain⟨t,rfl⟩:=N;have G:Inv X d C H { s with heap:=l,toks:=D }:=I.turned (λb o f e=>kk b o (by simpa using f) e) u A x p m;refine⟨_,rfl,Fv (s:={ s with heap:=l,toks:=D }) (n:="range_iterator") g rfl rfl (by decide) ⟨.int (j+i),H,G,⟨t,?_⟩,⟨rfl,rfl⟩,g,λb f=>(hf b f).1⟩⟩;rw[Int.mul_one]
 done:=by intro X hP r B q i d s C H E I hf a y;subst hP r B;obtain⟨u,A,J,x,p,m⟩:=hf c (by simp);exact wpAny_pyNext_range_end (I.ok.hd q) a (by have:n<=i:=y;omega) λl L=>⟨rfl,I.turned (t':=s.toks) (λb o f e=>L b o f e) u A x p m⟩
 self:=λ_ _ _ _ _ a h=>wpAny_pyIter_rangeiter a h
section
variable {X:Cx}{tg:Sy}
def BG{pins:Sm}{σ:St}{H:Hp}{s:Ss}{R:It->Hp->Prop}{E:Sq}{a c:Int}{t u v:Tok}{tk:Nat}(I:Inv X pins σ H s)(h:-(2 ^ 62)<=a)(l:a<2 ^ 62)(m:-(2 ^ 62)<=c)(i:c<2 ^ 62)
  (q:R (Itr a (c-a).toNat) H):wpAny (TQ X) X.A (pyIter (.ref s.heap.objs.size)) (PIE X pins σ tg R) E { s with heap:=s.heap.push { cls:=.type "range",data:=.fields #[.int a t,.int c u,.int 1 v] },toks:=tk }:=by
 refine wpAny_pyIter_range (IsRange.new ..) (small_one h l m i) ?_;have d:Inv X pins σ H { s with heap:=s.heap.push { cls:=.type "range",data:=.fields #[.int a t,.int c u,.int 1 v] },toks:=tk }:=I.kept λb o e=>S5 _ e;refine⟨(s.heap.push { cls:=.type "range",data:=.fields #[.int a t,.int c u,.int 1 v] }).objs.size,[(s.heap.push { cls:=.type "range",data:=.fields #[.int a t,.int c u,.int 1 v] }).objs.size],_,_,H,rfl,
  d.kept (t':=tk) λb o e=>S5 _ e,rD _ a (c-a).toNat,?_,λb f=>?_,q⟩
 .have j:a+((0:Nat):Int)*1=a:=by simp
  have g:(((c-a).toNat:Nat):Int)-((0:Nat):Int)=Builtin.Range.rangeSize a c 1:=by rw[rangeSize_one];split<;>omega
  show IsRangeIter _ _ (a+((0:Nat):Int)*1) ((((c-a).toNat:Nat):Int)-((0:Nat):Int)) 1;rw[j,g];exact a0i _ rfl
 .have e:b=(s.heap.push { cls:=.type "range",data:=.fields #[.int a t,.int c u,.int 1 v] }).objs.size:=by simpa using f
  subst e;exact d.HF (S7 _) (d.hok.fresh (S7 _))
def Og(b:TA):TI:=λc H R=>b c H λd a=>∃j:Int,d=[.int j]/\-(2 ^ 62)<=j/\j<2 ^ 62/\R (Itr 0 j.toNat) a
def tX(m:Gl X "range")(l:X.mg "range"=none)(u:PA X [a] ta)(d:starEach [a] X.env=[(false,eval a X.env)]:=by rfl):PI X tg (.Call (.Name "range" p) [a] [] pos) (Og ta):=by
 intro b s g H R I h;refine Call_ (UX I m l boot_range (a1G (thn (u pos b s g H _ I h) λy v ⟨w,x,o,i,c⟩=>?_) d rfl));obtain⟨j,e,c,n,q⟩:=c;subst e;cases i with
 |cons r f=>cases f;obtain⟨t,rfl⟩:=r;exact call_range_1 (BG o (by omega) (by omega) c n (by simpa using q))
def NH(j:TI)(g:TG)(l:TS):TS:=λD a H=>j a H λJ f=>∃W:Nat->Nat->St->Hp->Prop,(∃m,W 0 m a f)/\∀i m a H,W i m a H->
 (J.stop i H/\D.nx a H)\/(J.go i H/\∃N:St->Hp->Prop,(∀b c,N b c->∃e,e<m/\W (i+1) e b c)/\∀x c,J.yld i H x c->g x a c λd h=>l { D with nx:=N,ct:=N,bk:=D.nx } d h)
def gu(a:Tg)(h:Heap):List (Addr×Obj):=a.filterMap λb=>(h.get? b).map λo=>(b,o)
def JQ(a:b∈fp)(e:h.get? b=some o):(b,o)∈gu fp h:=a3m.mpr ⟨b,a,by rw[e];rfl⟩
def tY(hp:p∈gu fp h):p.1∈fp/\h.get? p.1=some p.2:=by
 obtain⟨b,a,e⟩:=a3m.mp hp;cases q:h.get? b with
 |none=>rw[q]at e;cases e
 |some o=>rw[q]at e;have c:(b,o)=p:=a0x e;subst c;exact⟨a,q⟩
def Inv.pinned(I:Inv X pins σ H s)(hf:∀b∈fp,rB X pins H b)(h:∀b∈fp,∃o,s.heap.get? b=some o/\∀v,o.data≠.cell v):Inv X (pins++gu fp s.heap) σ H s:=
 I.UW λp hp=>(a0B.mp hp).elim (λz=>I.pin p (a0c _ z)) λz=>by obtain⟨a,e⟩:=tY z;obtain⟨i,g,f,_⟩:=hf p.1 a;obtain⟨o,c,d⟩:=h p.1 a;rw[e]at c;cases c;exact⟨e,i,g,f,d⟩
def Inv.vC(I:Inv X (pins++pl) σ H s):Inv X pins σ H s:=I.UW λp hp=>I.pin p (a0c _ (a1m _ hp))
def tZ(hp:PassesOwn (TQ X) X.A X.env X.xe)(hc:X.calm=true)(hi:PI X tg jZ wi)(hg:PG X tg g)(j:PSs X body tb)
  (hs:∀x,foldedSetIterable jZ X.env x=pure x:=by intro _;rfl):PS X (.For tg jZ body [] pos) (NH wi g tb):=by
 intro a s σ H D I h;refine wpAny_For (thn (hi a s σ H _ I h) λv s1 h1=>thn h1 λitv s2 h2=>?_) hs;obtain⟨it,L,tn,J,H2,e,I2,T,P,f2,W,⟨m0,w0⟩,E⟩:=h2;subst e
 -- what stays true of the iterator's objects through the loop
 have z:∀{A:Hp},(∀b∈L,A b=none)->∀b∈L,rB X a A b:=λhn b j=>⟨hn b j,(f2 b j).2⟩;refine codeAny_forLoop_any (λn s'=>∃i y A,Inv X a y A s'/\tn i s'.heap/\(∀b∈L,A b=none)/\W i n y A) ?_ m0 ⟨0,σ,H2,I2,P,λb j=>(f2 b j).1,w0⟩
 rintro n s3 ⟨i,w,O,I3,M,K,w3⟩
 rcases E i n w O w3 with⟨F,qn⟩|⟨go,N,hN,step⟩
 .refine a1h hp (thn (T.done X rfl rfl rfl hc i a s3 w O X.xe I3 (z K) M F) λr s4 ⟨Q,I4⟩=>?_);subst Q;exact a1x ⟨w,O,I4,qn⟩
 .refine a1h hp (thn (T.item X rfl rfl rfl hc i a s3 w O X.xe I3 (z K) M go) λr s4 ⟨u,Q,h4⟩=>?_);subst Q;refine a1h hp (thn h4 λ_ Z ⟨x,H5,I5,r5,y5,C,R⟩=>?_);have S:=I5.pinned (z R) (T.obj _ _ C);refine a1h hp (thn (hg _ Z w H5 x u _ S r5 (step x H5 y5)) λ_ s6 ⟨Y,H6,I6,q6⟩=>?_);refine a1h hp (thn (j _ s6 Y H6 _ I6 q6) λf U B=>?_);have q:∀{c:St}{l:Hp},Inv X (a++gu L Z.heap) c l U->N c l->∃m,m<n/\∃i y A,Inv X a y A U/\tn i U.heap/\(∀b∈L,A b=none)/\W i m y A:=λ{c l} p G=>by obtain⟨m',hm,w7⟩:=hN c l G;refine⟨m',hm,i+1,c,l,p.vC,T.keep _ _ _ C λb j o e=>(p.pin (b,o) (a0c _ (a0c _ (JQ j e)))).1,λb j=>?_,w7⟩;obtain⟨o,e,d⟩:=T.obj _ _ C b j;exact(p.pin (b,o) (a0c _ (a0c _ (JQ j e)))).2.1
  cases f with
  |next=>obtain⟨c,l,p,G⟩:=B;exact q p G
  |cont=>obtain⟨c,l,p,G⟩:=B;exact q p G
  |brk=>obtain⟨c,l,p,B⟩:=B;exact⟨c,l,p.vC,B⟩
  |ret v=>obtain⟨x7,c,l,p,r7,B⟩:=B;exact⟨x7,c,l,p.vC,r7,B⟩
end
abbrev R2:=V->V->Hp->VK->Prop
def OpR(X:Cx)(f:Value->Value->Sem Value)(r:R2):Prop:=
 ∀(a:Sm)(s:Ss)(b:St)(H:Hp)(x y:V)(v u:Value)(Q:VK),Inv X a b H s->RelV x v->RelV y u->r x y H Q->
  wpAny (TQ X) X.A (f v u) (EP X a b Q) X.xe s
def UnR(X:Cx)(f:Value->Sem Value)(r:V->Hp->VK->Prop):Prop:=
 ∀(a:Sm)(s:Ss)(b:St)(H:Hp)(x:V)(v:Value)(Q:VK),Inv X a b H s->RelV x v->r x H Q->
  wpAny (TQ X) X.A (f v) (EP X a b Q) X.xe s
def Yj(X:Cx)(f:Value)(r:List V->Hp->VK->Prop):Prop:=
 ∀(a:Sm)(s:Ss)(c:St)(H:Hp)(d:Sx)(b:Sv)(Q:VK),Inv X a c H s->Vals d b->r d H Q->
  wpAny (TQ X) X.A (call f b) (EP X a c Q) X.xe s
def tOp(r:R2)(c e:TE):TE:=λa H Q=>c a H λx b=>e a b λy d=>r x y d Q
def tUn(r:V->Hp->VK->Prop)(b:TE):TE:=λc H Q=>b c H λx a=>r x a Q
def rI(C:Int->Int->Prop)(g:Int->Int->V):R2:=λx y H Q=>∃i j,x=.int i/\y=.int j/\C i j/\Q (g i j) H
def rI0(g:Int->Int->V):R2:=λx y H Q=>∃i j,x=.int i/\y=.int j/\Q (g i j) H
def rU(g:Int->V):V->Hp->VK->Prop:=λx H Q=>∃i,x=.int i/\Q (g i) H
section
variable {X:Cx}{a b:Sy}{ta tb:TE}{pos:Pos}
def Oh(z:PE X a ta)(l:PE X b tb){pins:Sm}{s:Ss}{σ:St}{H:Hp}{R:V->V->Hp->Prop}(I:Inv X pins σ H s)
  (h:ta σ H λx j=>tb σ j λy d=>R x y d) {Q:Sq}{f:Value->Value->Sem Value}
  (hf:∀v u i x y d,Inv X pins σ d i->RelV x v->RelV y u->R x y d->wpAny (TQ X) X.A (f v u) Q X.xe i):
  wpAny (TQ X) X.A (eval a X.env) (λv g=>wpAny (TQ X) X.A (eval b X.env) (λu e=>wpAny (TQ X) X.A (f v u) Q X.xe e) X.xe g) X.xe s:=by
 refine thn (z pins s σ H _ I h) λv m ⟨x,j,w,p,q⟩=>?_;refine thn (l pins m σ j _ w q) λu i ⟨y,d,n,o,r⟩=>?_;exact hf v u i x y d n p o r
def Ir(j:OpR X (binaryOp op) r)(o:PE X a ta)(e:PE X b tb):PE X (.BinOp a op b pos) (tOp r ta tb):=by intro d s g H Q I h;exact wpAny_BinOp (Oh o e I h λv u n x y l i f m q=>j d n g l x y v u Q i f m q)
def Oi(m:UnR X (unaryOp op) r)(j:PE X a ta):PE X (.UnaryOp op a pos) (tUn r ta):=by intro d s e H Q I h;exact UnaryOp_ (thn (j d s e H _ I h) λv g ⟨x,f,n,i,l⟩=>m d g e f x v Q n i l)
def opI{f:Value->Value->Sem Value}{C:Int->Int->Prop}{g:Int->Int->Int}
  (d:∀(i j:Int)(t u:Tok)(s:Ss)(Q:Sq)(E:Sq),C i j->Q (.int (g i j) s.toks) { s with toks:=s.toks+1 }->wpAny (TQ X) X.A (f (.int i t) (.int j u)) Q E s):
  OpR X f (rI C λi j=>.int (g i j)):=by
 intro e s p H x y v u Q I l n h;obtain⟨i,j,rfl,rfl,m,q⟩:=h;obtain⟨t,rfl⟩:=l;obtain⟨o,rfl⟩:=n;exact d i j t o s _ _ m ⟨.int (g i j),H,I.tok _,⟨_,rfl⟩,q⟩
def PN{f:Value->Value->Sem Value}{g:Int->Int->Int}
  (d:∀(i j:Int)(t u:Tok)(s:Ss)(Q:Sq)(E:Sq),Q (.int (g i j) s.toks) { s with toks:=s.toks+1 }->wpAny (TQ X) X.A (f (.int i t) (.int j u)) Q E s):
  OpR X f (rI0 λi j=>.int (g i j)):=by
 intro e s o H x y v u Q I l m h;obtain⟨i,j,rfl,rfl,q⟩:=h;obtain⟨t,rfl⟩:=l;obtain⟨n,rfl⟩:=m;exact d i j t n s _ _ ⟨.int (g i j),H,I.tok _,⟨_,rfl⟩,q⟩
def NI{f:Value->Value->Sem Value}{g:Int->Int->Bool}
  (d:∀(i j:Int)(t u:Tok)(s:Ss)(Q:Sq)(E:Sq),Q (.bool (g i j)) s->wpAny (TQ X) X.A (f (.int i t) (.int j u)) Q E s):
  OpR X f (rI0 λi j=>.bl (g i j)):=by
 intro e s o H x y v u Q I l m h;obtain⟨i,j,rfl,rfl,q⟩:=h;obtain⟨t,rfl⟩:=l;obtain⟨n,rfl⟩:=m;exact d i j t n s _ _ ⟨.bl (g i j),H,I,rfl,q⟩
def HI(i j:Int):Prop:=0<j/\j<1073741824
def HJ(i j:Int):Prop:=0<=j/\j<=1000000/\i.natAbs<2 ^ 64
def D4(i j:Int):Prop:=(-(2 ^ 64)<i/\i<2 ^ 64)\/(-(2 ^ 64)<j/\j<2 ^ 64)
def D4.ok(h:D4 i j):IntMulOk i j:=by
 rcases h with⟨d,e⟩|⟨d,e⟩
 .exact .of_left (intBits_le_64 d e)
 .exact .of_right (intBits_le_64 d e)
def Iu:OpR X (binaryOp .Add) (rI0 λi j=>.int (i+j)):=PN λ_ _ _ _ _ _ _ q=>add_int q
def QK:OpR X (binaryOp .Sub) (rI0 λi j=>.int (i-j)):=PN λ_ _ _ _ _ _ _ q=>sub_int q
def Iv:OpR X (binaryOp .Mult) (rI D4 λi j=>.int (i*j)):=opI λ_ _ _ _ _ _ _ d q=>mul_int q d.ok
def Fx:OpR X (binaryOp .FloorDiv) (rI HI λi j=>.int (i / j)):=opI λi j _ _ _ _ _ d q=>by have e:(0:Int)<j:=d.1;have f:j<1073741824:=d.2;exact floordiv_int (by omega) (by rw[Int.fdiv_eq_ediv_of_nonneg i (by omega)];exact q) (.inl (PyProof.noPylong_small (by omega)))
def Iw:OpR X (binaryOp .Mod) (rI (λ_ j=>0<j) λi j=>.int (i % j)):=opI λi j _ _ _ _ _ d q=>by have e:(0:Int)<j:=d;exact mod_int' (by omega) (by rw[Int.fmod_eq_emod_of_nonneg i (by omega)];exact q)
def Fy:OpR X (binaryOp .Mod) (rI (λ_ j=>j≠0) λi j=>.int (i.fmod j)):=opI λ_ _ _ _ _ _ _ d q=>mod_int' d q
def c5:OpR X (binaryOp .Pow) (rI HJ λi j=>.int (i ^ j.toNat)):=opI λ_ _ _ _ _ _ _ d q=>pow_int_small d.1 d.2.1 d.2.2 q
def unI{f:Value->Sem Value}{g:Int->Int}
  (d:∀(i:Int)(t:Tok)(s:Ss)(Q:Sq)(E:Sq),Q (.int (g i) s.toks) { s with toks:=s.toks+1 }->wpAny (TQ X) X.A (f (.int i t)) Q E s):
  UnR X f (rU λi=>.int (g i)):=by
 intro e s l H x v Q I j h;obtain⟨i,rfl,q⟩:=h;obtain⟨t,rfl⟩:=j;exact d i t s _ _ ⟨.int (g i),H,I.tok _,⟨_,rfl⟩,q⟩
def n6:UnR X (unaryOp .USub) (rU λi=>.int (-i)):=unI λ_ _ _ _ _ q=>neg_int q
end
section
variable {X:Cx}{a b c:Sy}{ta tb tc:TE}{pos:Pos}
def t6(I:Inv X pins σ H s)(q:Q (.bl k) H)(e:k=k'):EP X pins σ Q (.bool k') s:=by subst e;exact⟨.bl k,H,I,rfl,q⟩
def bX:OpR X (compareOp .Lt) (rI0 λi j=>.bl (decide (i<j))):=NI λ_ _ _ _ _ _ _ q=>lt_int q
def rE:OpR X (compareOp .LtE) (rI0 λi j=>.bl (decide (i<=j))):=NI λ_ _ _ _ _ _ _ q=>le_int q
def gw:OpR X (compareOp .Gt) (rI0 λi j=>.bl (decide (j<i))):=NI λ_ _ _ _ _ _ _ q=>gt_int q
def Oj:OpR X (compareOp .GtE) (rI0 λi j=>.bl (decide (j<=i))):=NI λ_ _ _ _ _ _ _ q=>ge_int q
def t7:OpR X (compareOp .In) (λx y H Q=>∃i j,x=.str i/\y=.str j/\Q (.bl (!(Builtin.Str.occurrences j i 0 j.length 1).isEmpty)) H):=by intro d s l H x y v u Q I f e h;obtain⟨i,j,rfl,rfl,q⟩:=h;obtain⟨t,rfl⟩:=f;obtain⟨g,rfl⟩:=e;exact in_str (t6 I q rfl)
def n8:OpR X (compareOp .Is) (λx y H Q=>y=.non/\Q (.bl (decide (x=.non))) H):=by
 intro e s g H x y v u Q I d f h;obtain⟨rfl,q⟩:=h;cases f;refine is_none_gen (t6 I q ?_);cases x<;>first
  | (cases d;rfl)
  | (obtain⟨t,rfl⟩:=d;rfl)
def t8:OpR X (compareOp .IsNot) (λx y H Q=>y=.non/\Q (.bl (!decide (x=.non))) H):=by
 intro e s g H x y v u Q I d f h;obtain⟨rfl,q⟩:=h;cases f;refine isnot_none_gen (t6 I q ?_);cases x<;>first
  | (cases d;rfl)
  | (obtain⟨t,rfl⟩:=d;rfl)
def OpR.or(h:OpR X f r)(h':OpR X f r'):OpR X f (λx y H Q=>r x y H Q\/r' x y H Q):=by
 intro d s i H x y v u Q I g e q;rcases q with q|q
 .exact h d s i H x y v u Q I g e q
 .exact h' d s i H x y v u Q I g e q
def yW(b:Sy)(h:op≠.In:=by decide)(f:op≠.NotIn:=by decide):behindInMarks op b=false:=by
 have d:(op==CmpOp.In)=false:=by cases op<;>first|rfl|exact absurd rfl h
 have e:(op==CmpOp.NotIn)=false:=by cases op<;>first|rfl|exact absurd rfl f
 cases b<;>simp[behindInMarks,d,e]
def t9(j:OpR X (compareOp op) r)(p:PE X a ta)(e:PE X b tb)(l:behindInMarks op b=false):PE X (.Compare a [op] [b] pos) (tOp r ta tb):=by intro d s g H Q I h;exact wpAny_Compare1 (Oh p e I h λv u o x y m i f n q=>j d o g m x y v u Q i f n q) l
def Fz(t:TE):TT:=λd H Q=>t d H λx e=>∃k,x=.bl k/\Q k e
def lU(l:OpR X (compareOp op) r)(G:PE X a ta)(g:PE X b tb)(p:behindInMarks op b=false):PT X (.Compare a [op] [b] pos) (Fz (tOp r ta tb)):=by
 intro d s f H Q I h;refine wpAny_isTrue_Compare1 (thn (G d s f H _ I h) λv i ⟨x,m,C,o,w⟩=>thn (g d i f m _ C w) λu F ⟨y,B,j,n,A⟩=>
  thn (l d F f B x y v u _ j o n A) λc K ⟨z,E,J,D,k,e,q⟩=>?_) p
 subst e;cases D;exact a1D ⟨E,J,q⟩
def D5(r h:R2)(ta tb tc:TE):TE:=λd H Q=>ta d H λx f=>tb d f λy i=>r x y i λz e=>∃k,z=.bl k/\
 (if k=true then tc d e λg j=>h y g j Q else Q (.bl false) e)
def BH(A:OpR X (compareOp op) r)(i:OpR X (compareOp op') r')(ha:PE X a ta)(o:PE X b tb)(C:PE X c tc)
  (N:lastMarks [op,op'] [b,c]=false:=by with_unfolding_all rfl):PT X (.Compare a [op,op'] [b,c] pos) (Fz (D5 r r' ta tb tc)):=by
 intro f s g H Q I h;refine isTrue_chain (thn (ha f s g H _ I h) λv q ⟨x,D,W,K,S⟩=>test_link (thn (o f q g D _ W S) λu s2 ⟨y,U,w,j,T⟩=>
  thn (A f s2 g U x y v u _ w K j T) λd M ⟨z,m,n,r3,k,e,l⟩=>?_)) N
 subst e;cases r3;refine a1D ?_;cases k with
 |false=>obtain⟨k',Z,O⟩:=l;cases Z;exact ite_ff ⟨m,n,O⟩
 |true=>refine ite_tt (test_last (thn (C f M g m _ n l) λL E ⟨z',J,I4,R,B⟩=>thn (i f E g J y z' u L _ I4 j R B) λd' s5 ⟨z2,P,p,Y,k2,F,G⟩=>?_));subst F;cases Y;exact a1D ⟨P,p,G⟩
def gx:(sizeLine:Nat)<2 ^ 63:=by rw[a0M];decide
def rF:OpR X (binaryOp .Add) (λx y H Q=>∃i j,x=.str i/\y=.str j/\i.length+j.length<=sizeLine/\Q (.str (i++j)) H):=by intro d s m H x y v u Q I f e h;obtain⟨i,j,rfl,rfl,hz,q⟩:=h;obtain⟨t,rfl⟩:=f;obtain⟨g,rfl⟩:=e;exact add_str (λg l=>⟨.str (i++j),H,I.tok _,⟨_,rfl⟩,q⟩) hz
def vals1(r:Vals [x] us):∃u,us=[u]/\RelV x u:=by
 cases r with
 |cons d e=>cases e;exact⟨_,rfl,d⟩
def vals2(r:Vals [x,y] us):∃u d,us=[u,d]/\RelV x u/\RelV y d:=by
 cases r with
 |cons f g=>
  cases g with
  |cons e h=>cases h;exact⟨_,_,rfl,f,e⟩
def t_(g:X.calm=true):Yj X (.builtin "max") (λf H Q=>∃i j,f=[.int i,.int j]/\Q (.int (if j>i then j else i)) H):=by
 intro e s l H f o Q I r h;obtain⟨i,j,rfl,q⟩:=h;obtain⟨u,m,rfl,⟨t,rfl⟩,⟨v,rfl⟩⟩:=vals2 r;refine max_two_ints (I.ok.hd g) λn p k=>⟨_,H,I.kept k,?_,q⟩;by_cases d:j>i
 .rw[if_pos d,if_pos d];exact⟨_,rfl⟩
 .rw[if_neg d,if_neg d];exact⟨_,rfl⟩
def ua(g:X.calm=true):Yj X (.builtin "min") (λf H Q=>∃i j,f=[.int i,.int j]/\Q (.int (if j<i then j else i)) H):=by
 intro e s l H f o Q I r h;obtain⟨i,j,rfl,q⟩:=h;obtain⟨u,m,rfl,⟨t,rfl⟩,⟨v,rfl⟩⟩:=vals2 r;refine min_two_ints (I.ok.hd g) λn p k=>⟨_,H,I.kept k,?_,q⟩;by_cases d:j<i
 .rw[if_pos d,if_pos d];exact⟨_,rfl⟩
 .rw[if_neg d,if_neg d];exact⟨_,rfl⟩
def PQ(K:Sz)(x:V)(H:Hp)(n:Nat):Prop:=
 match x with
 |.str y=>y.length<=sizeLine/\n=y.length
 |.byt y=>y.size<=sizeLine/\n=y.size
 |.ref p=>(∃d,SqL K H p d/\n=d.length)\/∃d,SqT K H p d/\n=d.length
 |_=>False
def BI:Yj X (.builtin "len") (λd H Q=>∃x n,d=[x]/\PQ X.K x H n/\Q (.int n) H):=by
 intro v s A H d B Q I r h;obtain⟨x,n,rfl,e,q⟩:=h;obtain⟨u,rfl,i⟩:=vals1 r;have C:=gx;have z:sizeLine=16777216:=a0M;cases x with
 |str y=>obtain⟨t,rfl⟩:=i;obtain⟨w,g⟩:y.length<=sizeLine/\n=y.length:=e;subst g;exact len_str (by omega) ⟨.int _,H,I.tok _,⟨_,rfl⟩,q⟩
 |byt y=>obtain⟨t,rfl⟩:=i;obtain⟨w,g⟩:y.size<=sizeLine/\n=y.size:=e;subst g;exact PySem.W.len_bytes (by omega) ⟨.int _,H,I.tok _,⟨_,rfl⟩,q⟩
 |ref p=>
  cases i;have g:(∃d,SqL X.K H p d/\n=d.length)\/∃d,SqT X.K H p d/\n=d.length:=e;rcases g with⟨d,m,g⟩|⟨d,m,g⟩
  .subst g;obtain⟨o,l,j,hz⟩:=I.list m;have f:=l.length;exact Calls.call_len_list j.isList (by simp only[List.size_toArray];omega) ⟨.int d.length,H,I.tok _,⟨_,by simp only[List.size_toArray];rw[f]⟩,q⟩
  .subst g;obtain⟨o,l,j,hz⟩:=I.tuple m;have f:=l.length;exact len_tuple j (by simp only[List.size_toArray];omega) ⟨.int d.length,H,I.tok _,⟨_,by simp only[List.size_toArray];rw[f]⟩,q⟩
 |_=>exact(show False from e).elim
end
structure FA(h:Heap)(x dx C:Addr)(mA:Sl):Prop where
 obj:h.get? x=some (PySem.W.instObj C dx)
 ns:h.Ns1 dx mA
 ne:dx≠x
def Vw{h:Heap}{f:Addr}{g:Sl}(n:h.Ns1 f g):∃d,h.get? f=some d/\∀b,PySem.W.lookIn b d=some (g b):=by
 obtain⟨o,i,u,l,m,j,_,r⟩:=n;refine⟨o,l,λb=>?_⟩;have e:=r b;unfold nsFind findBy at e;rw[<- a3n]at e;unfold PySem.W.lookIn;rw[m];dsimp only;split
 .rename_i y q;rw[q]at e;exact a0F some e
 .rename_i q;rw[q]at e;have a:i.toList.any (·.refKey)=false:=by rw[List.any_eq_false];intro y s;obtain⟨z,t,c⟩:=j y (a3a.mp s);simp[DictEntry.refKey,c]
  have p:¬i.toList.any (·.refKey)=true:=by rw[a];exact T7
  rw[if_neg p];exact a0F some e
def FA.look(I:FA h x dx C mA):∃b,PySem.W.InstAt h x (PySem.W.instObj C dx) C (some b)/\∀a,PySem.W.lookIn a b=some (mA a):=
 let⟨b,ho,hl⟩:=Vw I.ns
 ⟨b,⟨I.obj,rfl,rfl,ho⟩,hl⟩
section
variable {prog:SG}{w:SI}{A:SQ}{E:Sq}{s:Ss}{K:Sz}{x dx C f:Addr}{mA:Sl}{name:Str}{v:Value}
def get_map(X:K.In s.heap)(I:FA s.heap x dx C mA)(b:PySem.W.plainGet K C name=true)(g:PySem.W.hasDictIn K C=true)
  (c:PySem.W.findIn K (.ref C) name=some none) (d:mA name=some v) (a:PySem.W.handedIn v=true) (h:Q v { s with toks:=s.toks+1 }):
  wpAny (model prog w) A (getAttr (.ref x) name expr) Q E s:=by
 obtain⟨i,J,e⟩:=I.look;exact PySem.W.get_value X J (a2g b).1 (PySem.W.findObj_own g c rfl (by rw[e,d])) a h
def BJ(X:K.In s.heap)(I:FA s.heap x dx C mA)(a:PySem.W.plainGet K C name=true)
  (hf:PySem.W.findIn K (.ref C) name=some (some (.ref f))) (c:PySem.W.isFn K (.ref f)=true) (e:mA name=none) (h:Q (.ref f,[.ref x]) s):
  wpAny (model prog w) A (getMethod (.ref x) name pl) Q E s:=by
 obtain⟨b,J,d⟩:=I.look;exact PySem.W.method_fn X J (a2g a).1 (a2g a).2 hf (a0t.mp c) (by show(PySem.W.lookIn name b).map (·.isSome)=some false;rw[d,e];rfl) h
def FC(X:K.In s.heap)(I:FA s.heap x dx C mA)
  (m:PySem.W.findIn K (.ref C) "__setattr__"=some (some (.builtin "object.__setattr__"))) (hp:PySem.W.plainOver K C=true) (z:PySem.W.takerIn K C name=some none) (q:PySem.W.hasDictIn K C=true)
  (o:PySem.Within mA ns) (hsz:ns.length<=sizeLine)
  (h:∀e,FA e x dx C (λy=>if y=name then some v else mA y)->Heap.SameBut dx s.heap e->Q () { s with heap:=e,toks:=s.toks+2 }):
  wpAny (model prog w) A (setAttr (.ref x) name v) Q E s:=by
 obtain⟨D,J,G⟩:=I.look;refine PySem.W.set_plain X J m (PySem.W.osa_open (s:={ s with toks:=s.toks+1 }) (r:=none) X J hp z λb=>?_);obtain⟨cd,n,g⟩:=PySem.W.any_some q;have p:s.heap.get? x=some ⟨.ref C,some dx,.plain,#[]⟩:=I.obj;refine f8 (S8 (f8 (f8 (a1F p (f8 (PySem.W.Looks.here (s:={ s with toks:=s.toks+1 }) (PySem.W.looks_clsIn X n) ?_))))));rw[g];refine S8 (a:=some dx) (f8 (S8 (f8 ?_)));refine a3o (s:={ s with toks:=s.toks+1 }) I.ns λe d c=>?_;obtain⟨F,u,B,l,j,i⟩:=d.count (a2s name v o);refine f8 (a2B l (by rw[j];exact a2C (a0o i (by rw[S0];omega))) ?_);exact S8 (h _ ⟨(c.2 _ (Ne.symm I.ne)).trans I.obj,d,I.ne⟩ c)
def BK(X:K.In s.heap)(b:PySem.W.makesIn K C=true)
  (c:PySem.W.findIn K (.ref C) "__init__"=some (some (.ref f))) (hf:PySem.W.typeIn K (.ref f)=some (.type "function"))
  (h:codeAny (model prog w) (A.under (.builtin "type.__call__" ⟨.ref C::vs,kw⟩)) (.call (.ref f) ⟨.ref (s.heap.objs.size+1)::vs,kw⟩) (PySem.W.InitBack (s.heap.objs.size+1) R)
   { s with heap:=(s.heap.push PySem.W.emptyDict).push (PySem.W.instObj C s.heap.objs.size) }):
  codeAny (model prog w) A (.call (.ref C) ⟨vs,kw⟩) R s:=by
 obtain⟨i,g,d,t,e⟩:=s;exact PySem.W.make_core (PySem.W.makes_of X b) (PySem.W.looks_findIn X c) (λa=>PySem.W.bind_fn X a hf) (.inl rfl) h
end
def Vx(f:Str)(v:V):List (Str×V)->List (Str×V)
 |[]=>[(f,v)]
 | (g,x)::r=>if g=f then(g,v)::r else(g,x)::Vx f v r
def K8(f g:Str)(v:V):∀fs:List (Str×V),(Vx f v fs).lookup g=if g=f then some v else fs.lookup g
 |[]=>by
  show List.lookup g [(f,v)]=_;by_cases h:g=f
  .have a:(g==f)=true:=a0t.mpr h;simp only[List.lookup,a,if_pos h]
  .have a:(g==f)=false:=a0E.mpr h;simp only[List.lookup,a,if_neg h]
 | (k,x)::r=>by
  have c:=K8 f g v r;rw[show Vx f v ((k,x)::r)=(if k=f then(k,v)::r else(k,x)::Vx f v r)from rfl];by_cases b:k=f
  .rw[if_pos b];by_cases h:g=k
   .have a:(g==k)=true:=a0t.mpr h;simp only[List.lookup,a,if_pos (h.trans b)]
   .have a:(g==k)=false:=a0E.mpr h;simp only[List.lookup,a,if_neg (λe:g=f=>h (e.trans b.symm))]
  .rw[if_neg b];by_cases h:g=k
   .have a:(g==k)=true:=a0t.mpr h;simp only[List.lookup,a,if_neg (λe:g=f=>b (h.symm.trans e))]
   .have a:(g==k)=false:=a0E.mpr h;simp only[List.lookup,a];exact c
def QL(f:Str)(v:V):∀fs:List (Str×V),f∈(Vx f v fs).map (·.1)/\∀g,g∈fs.map (·.1)->g∈(Vx f v fs).map (·.1)
 |[]=>⟨by simp[Vx],λg h=>by simp at h⟩
 | (k,x)::r=>by
  obtain⟨c,b⟩:=QL f v r;rw[show Vx f v ((k,x)::r)=(if k=f then(k,v)::r else(k,x)::Vx f v r)from rfl];by_cases a:k=f
  .rw[if_pos a];subst a;exact⟨by simp,λg h=>by simpa using h⟩
  .rw[if_neg a];refine⟨?_,λg h=>?_⟩
   .rw[T2];exact S6 _ c
   .rw[T2]at h ⊢;rcases a0f.mp h with e|e
    .exact a0f.mpr (.inl e)
    .exact S6 _ (b g e)
def K9(f:Str)(v:V):∀fs:List (Str×V),(Vx f v fs).length<=fs.length+1
 |[]=>by simp[Vx]
 | (k,x)::r=>by
  have b:=K9 f v r;rw[show Vx f v ((k,x)::r)=(if k=f then(k,v)::r else(k,x)::Vx f v r)from rfl];by_cases a:k=f
  .rw[if_pos a,S0,S0];omega
  .rw[if_neg a,S0,S0];omega
def Xf.some_of(r:Xf (some v) o):∃u,o=some u/\RelV v u:=by
 cases o with
 |none=>exact(show False from r).elim
 |some u=>exact⟨u,rfl,r⟩
def Xf.none_of(r:Xf none o):o=none:=by
 cases o with
 |none=>rfl
 |some u=>exact(show False from r).elim
def gz(r:RelV v u):PySem.W.handedIn u=true:=by
 cases v with
 |non=>cases(show u=Value.none from r);rfl
 |bl b=>cases(show u=Value.bool b from r);rfl
 |int i=>obtain⟨t,e⟩:=(show ∃t,u=Value.int i t from r);cases e;rfl
 |str x=>obtain⟨t,e⟩:=(show ∃t,u=Value.str x t from r);cases e;rfl
 |byt b=>obtain⟨t,e⟩:=(show ∃t,u=Value.bytes b t from r);cases e;rfl
 |flt b=>obtain⟨t,e⟩:=(show ∃t,u=Value.float b t from r);cases e;rfl
 |ref a=>cases(show u=Value.ref a from r);rfl
 |ty n=>cases(show u=Value.type n from r);rfl
def dX(c:HOk P w H h)(e:H a=some (.ins C dx fs)):∃b,FA h a dx C b/\(∀f,Xf (fs.lookup f) (b f))/\PySem.Within b (fs.map (·.1))/\fs.length<=1000/\H dx=some (.own a):=by obtain⟨d,z,g,ob,b,n,r,q⟩:=(show qG P w H h a (.ins C dx fs)from c a _ e);exact⟨b,⟨ob,n,g⟩,r,q,z,d⟩
structure Cls(K:Sz)(C:Addr):Prop where
 pg:PySem.W.plainGet K C Str.empty=true
 hd:PySem.W.hasDictIn K C=true
 po:PySem.W.plainOver K C=true
 sa:PySem.W.findIn K (.ref C) "__setattr__"=some (some (.builtin "object.__setattr__"))
def Cls.get{K:Sz}{C:Addr}(c:Cls K C)(f:Str):PySem.W.plainGet K C f=true:=c.pg
def vw(K:Sz)(C:Addr)(f:Str):Prop:=PySem.W.findIn K (.ref C) f=some none
def vw.Ol{K:Sz}{C:Addr}{f:Str}(n:vw K C f):PySem.W.takerIn K C f=some none:=by unfold PySem.W.takerIn;rw[show PySem.W.findIn K (.ref C) f=some none from n];rfl
structure Meth(K:Sz)(C:Addr)(m:Str)(f:Addr):Prop where
 at_:PySem.W.findIn K (.ref C) m=some (some (.ref f))
 fn:PySem.W.isFn K (.ref f)=true
 kp:PySem.W.keepIn K (.ref f)=true
def rG(I:Inv X pins σ H s)(e:H a=some (.ins C dx fs))(c:Cls X.K C)(n:vw X.K C f)(l:fs.lookup f=some v)
  (h:∀u g,Inv X pins σ H g->RelV v u->Q u g):wpAny (TQ X) A (getAttr (.ref a) f b) Q E s:=by
 obtain⟨j,O,r,_,_,_⟩:=dX I.hok e;obtain⟨u,i,d⟩:=Xf.some_of (v:=v) (o:=j f) (by rw[<- l];exact r f);exact get_map I.kIn O (c.get f) c.hd n i (gz d) (h u _ (I.tok _) d)
def c6(I:Inv X pins σ H s)(e:H a=some (.ins C dx fs))(c:Cls X.K C)(k:Meth X.K C m g)(l:fs.lookup m=none)
  (h:Q (.ref g,[.ref a]) s):wpAny (TQ X) A (getMethod (.ref a) m pl) Q E s:=by
 obtain⟨b,O,r,_,_,_⟩:=dX I.hok e;have d:b m=none:=Xf.none_of (by rw[<- l];exact r m);exact BJ I.kIn O (c.get m) k.at_ k.fn d h
def rH(I:Inv X pins σ H s)(e:H a=some (.ins C dx fs))(c:Cls X.K C)(n:vw X.K C f)(G:fs.length<1000)(F:RelV y u)
  (h:∀j,Inv X pins σ (upd H a (.ins C dx (Vx f y fs))) j->Q () j):wpAny (TQ X) A (setAttr (.ref a) f u) Q E s:=by
 obtain⟨l,O,r,m,_,i⟩:=dX I.hok e;have hz:(fs.map (·.1)).length<=sizeLine:=by rw[v4,a0M];omega
 refine FC I.kIn O c.sa c.po n.Ol c.hd m hz λD d v=>h _ ?_;have w:∃o,D.get? dx=some o:=let⟨o,_,_,e',_⟩:=d.ns;⟨o,e'⟩
 refine I.write (x:=a) (e:=dx) (by rw[e];exact True.intro) (.inr i) (λb q p z=>(v.2 b p).trans z) w ?_;refine⟨by rw[zi O.ne];exact i,?_,O.ne,d.obj,_,d.ns,λg=>?_,λg B=>?_⟩
 .have:=K9 f y fs;omega
 .show Xf ((Vx f y fs).lookup g) (if g=f then some u else l g);rw[K8];by_cases q:g=f
  .rw[if_pos q,if_pos q];exact F
  .rw[if_neg q,if_neg q];exact r g
 .by_cases q:g=f
  .rw[q];exact(QL f y fs).1
  .refine(QL f y fs).2 g (m g λz=>B ?_);show(if g=f then some u else l g)=none;rw[if_neg q];exact z
def Inv.made(I:Inv X pins σ H s):Inv X pins σ (upd (upd H s.heap.objs.size (.own (s.heap.objs.size+1))) (s.heap.objs.size+1) (.ins C s.heap.objs.size []))
  { s with heap:=(s.heap.push PySem.W.emptyDict).push (PySem.W.instObj C s.heap.objs.size) }:=by
 have c:(s.heap.push PySem.W.emptyDict).get? s.heap.objs.size=some PySem.W.emptyDict:=a0i s.heap rfl;have g:((s.heap.push PySem.W.emptyDict).push (PySem.W.instObj C s.heap.objs.size)).get? (s.heap.objs.size+1)=some (PySem.W.instObj C s.heap.objs.size):=by
  have:=a0i (s.heap.push PySem.W.emptyDict) (o:=PySem.W.instObj C s.heap.objs.size) rfl
  rwa [a1n]at this
 have h:(s.heap.push PySem.W.emptyDict).Ns s.heap.objs.size (λ_=>none):=⟨PySem.W.emptyDict,#[],_,c,rfl,(λe i=>absurd i (by simp)),λ_=>rfl⟩;have j:=I.laid (a:=s.heap.objs.size) (o:=.own (s.heap.objs.size+1)) (h':=s.heap.push PySem.W.emptyDict) (t':=s.toks) (λb u q=>S5 _ q) (S7 _) ⟨_,c⟩;refine j.laid (a:=s.heap.objs.size+1) (o:=.ins C s.heap.objs.size []) (t':=s.toks) (λb u q=>S5 _ q) (a19 (a1n _ _)) ?_;have d:s.heap.objs.size≠s.heap.objs.size+1:=a0e (a08 _);refine⟨by rw[zi d,zg],a0y _,d,g,λ_=>none,(Heap.Ns1.of_empty h).at λo q=>S5 _ q,λ_=>True.intro,λy f=>absurd rfl f⟩
def ub(b:attributeBase e f env (eval e env)=eval e env)
  (h:wpAny (model prog w) A (eval e env) (λo a=>wpAny (model prog w) A (getAttr o f true) Q E a) E s):wpAny (model prog w) A (eval (.Attribute e f pos) env) Q E s:=
 Attribute_any_ h (by rw[arm_eval_Attribute,b])
def RG(K:Sz)(c:TE)(f:Str):TE:=λe H Q=>c e H λx b=>∃a C d fs v,x=.ref a/\b a=some (.ins C d fs)/\Cls K C/\vw K C f/\fs.lookup f=some v/\Q v b
def RH(K:Sz)(g h:TE)(f:Str):TS:=λD b H=>h b H λy e=>g b e λx d=>∃a C c fs,x=.ref a/\d a=some (.ins C c fs)/\Cls K C/\vw K C f/\fs.length<1000/\
 D.nx b (upd d a (.ins C c (Vx f y fs)))
def D6(he:PE X e ta)(d:attributeBase e f X.env (eval e X.env)=eval e X.env):PE X (.Attribute e f pos) (RG X.K ta f):=by intro b s j H Q I h;refine ub d (thn (he b s j H _ I h) λu z ⟨x,p,w,i,a,C,A,fs,v,r,g,c,n,l,q⟩=>?_);subst r;obtain rfl:u=Value.ref a:=i;exact rG w g c n l λy B m o=>⟨v,p,m,o,q⟩
def D7(A:PE X o ta)(E:PE X value tv)(g:swapsWith value (some (.Attribute o f pos')) pos.line X.env=pure false):PS X (.Assign [.Attribute o f pos'] value pos) (RH X.K ta tv f):=by intro b s d H D I h;refine a18 (thn (E b s d H _ I h) λu e ⟨y,p,w,z,q⟩=>thn (A b e d p _ w q) λB L ⟨x,K,m,j,a,C,J,fs,r,i,c,n,l,v⟩=>?_) g;subst r;obtain rfl:B=Value.ref a:=j;exact rH m i c n l z λG F=>⟨d,_,F,v⟩
section
variable {H:Hp}
inductive tJ(K:Sz)(H:Hp):V->Value->Prop where
 |non:tJ K H .non (.type "NoneType")
 |bl (x:Bool):tJ K H (.bl x) (.type "bool")
 |int (i:Int):tJ K H (.int i) (.type "int")
 |str (x:Str):tJ K H (.str x) (.type "str")
 |flt (x:UInt64):tJ K H (.flt x) (.type "float")
 |lst {a:Addr}{xs:Sx}(e:H a=some (.lst xs)):tJ K H (.ref a) (.type "list")
 |frz {a:Addr}{o:Obj}{xs:Sx}(e:H a=some (.frz o (.lst xs))):tJ K H (.ref a) (.type "list")
 |tup {a:Addr}{xs:Sx}(e:H a=some (.tup xs)):tJ K H (.ref a) (.type "tuple")
 |dK {a:Addr}{kvs:SE}(e:H a=some (.dK kvs)):tJ K H (.ref a) (.type "dict")
 |dT {a:Addr}{kvs:Tu}(e:H a=some (.dT kvs)):tJ K H (.ref a) (.type "dict")
 |ins {a C dx:Addr}{fs:SW}(e:H a=some (.ins C dx fs)) (cl:Cls K C) (ha:PySem.W.findIn K (.ref C) "__class__"=some (some (.builtin "object.__class__")))
   (hn:PySem.W.specialIn K (.builtin "object.__class__") "__get__"=some (some (.builtin "getset_descriptor.__get__"))) (htk:PySem.W.takesIn K (.builtin "object.__class__")=some true)
   (hm:PySem.W.mroIn K C (.type "object")=some true):tJ K H (.ref a) (.ref C)
end
structure jJ(k:Nat)(A:SQ):Prop where
 hd:A.handled=none
 dp:A.depth+3*k+5<recursionLimit
 un:A.units+16*k+200<cLine
def jJ.mono(r:jJ k A)(h:j<=k):jJ j A:=⟨r.hd,by have:=r.dp;omega,by have:=r.un;omega⟩
def jJ.deeper(r:jJ (k+1) A)(env:Env):jJ k (A.deeper env):=
 ⟨r.hd,by have:=r.dp;show A.depth+1+3*k+5<_;omega,by have:=r.un;show A.units+3+16*k+200<_;omega⟩
def jJ.in1(r:jJ (k+1) A):jJ k A.in1:=
 ⟨r.hd,by have:=r.dp;show A.depth+3*k+5<_;omega,by have:=r.un;show A.units+1+16*k+200<_;omega⟩
def rJ{A:SQ}{C:Addr}{us:Sv}{a:Tj}:(A.under (.builtin "type.__call__" ⟨.ref C::us,a⟩)).depth=A.depth+1:=by
 first|rfl|simp[Around.under,Code.weight,Code.isCreation,Code.isGuard,Code.isCaller,Code.frames,Code.isFrame,guardIds]
def rK{A:SQ}{C:Addr}{us:Sv}{a:Tj}:(A.under (.builtin "type.__call__" ⟨.ref C::us,a⟩)).units=A.units+1:=by
 first|rfl|simp[Around.under,Code.cUnits,Code.frames,Code.isFrame]
def jJ.make(r:jJ (k+1) A)(C:Addr)(us:Sv)(a:Tj):jJ k (A.under (.builtin "type.__call__" ⟨.ref C::us,a⟩)):=
 ⟨r.hd,by have:=r.dp;rw[rJ];omega,by have:=r.un;rw[rK];omega⟩
def jJ.depth(r:jJ k A):A.depth<recursionLimit:=by have:=r.dp;omega
def jJ.units(r:jJ k A):A.units+64<cLine:=by have:=r.un;omega
def Om:TA:=λ_ H Q=>Q [] H
def Iy(c:TE)(e:TA):TA:=λa H Q=>c a H λx b=>e a b λf d=>Q (x::f) d
section
variable {X:Cx}{e:Sy}{es:Sw}{te:TE}{t:TA}{pos:Pos}
def Xg:PA X [] Om:=λ_ _ _ _ H Q I h=>a2t ⟨[],H,I,.nil,h⟩
def Zv(r:PE X e te)(q:PA X es t)(d:starEach (e::es) X.env=(false,eval e X.env)::starEach es X.env:=by rfl):PA X (e::es) (Iy te t):=by intro pos a s b H Q I h;rw[d];show wpAny _ _ (spliced ((false,eval e X.env)::backTo pos (starEach es X.env))) _ _ s;refine a1O (thn (r a s b H _ I h) λu c ⟨x,g,o,j,l⟩=>?_);exact thn (q pos a c b g _ o l) λv w ⟨p,n,f,i,m⟩=>⟨x::p,n,f,.cons j i,m⟩
def PR(t:TA):TE:=λc H Q=>t c H λb a=>b.length<=sizeLine/\∀p,a p=none->Q (.ref p) (upd a p (.tup b))
def RI(t:TA):TE:=λc H Q=>t c H λb a=>b.length<=sizeLine/\∀p,a p=none->Q (.ref p) (upd a p (.lst b))
def UZ{x1}(h:PA X es t):PE X (.Tuple es x1 pos) (PR t):=by intro a s i H Q I j;refine wpAny_Tuple_spliced (thn (h pos a s i H _ I j) λg c ⟨l,d,f,r,z,q⟩=>⟨by rw[<- r.length];exact z,?_⟩);have hf:d c.heap.objs.size=none:=f.hok.fresh (S7 _);refine⟨.ref c.heap.objs.size,upd d c.heap.objs.size (.tup l),f.laid (t':=c.toks) (λb u e=>S5 _ e) (S7 _) ?_,rfl,q _ hf⟩;exact⟨z,g,r,⟨_,a0i _ rfl,rfl,_,rfl⟩⟩
def Iz(h:PA X es t):PE X (.List es pos) (RI t):=by intro a s i H Q I j;refine wpAny_List_spliced (thn (h pos a s i H _ I j) λg c ⟨l,d,f,r,z,q⟩=>⟨by rw[<- r.length];exact z,?_⟩);have hf:d c.heap.objs.size=none:=f.hok.fresh (S7 _);refine⟨.ref c.heap.objs.size,upd d c.heap.objs.size (.lst l),f.laid (t':=c.toks) (λb u e=>S5 _ e) (S7 _) ?_,rfl,q _ hf⟩;exact⟨z,g,0,r,a0i _ rfl⟩
end
abbrev Sp:=List V->Hp->VK->XK->Prop
abbrev CXT:=List Env->Hp->Shared->XK->Value->Shared->Prop
structure uc(P:SG)(w:SI)(K:Sz)(mg:Sl)(base:Heap)(A:SQ)(outer:List Env)(s:Ss)(H:Hp):Prop where
 frames:A.frames=some outer
 mod:Mod K mg base
 bs:∀b o,base.get? b=some o->s.heap.get? b=some o/\H b=none
 bsz:base.objs.size<=s.heap.objs.size
 lR:s.heap.FunFrames base outer
 frf:∀b∈frs outer,H b=none
 hok:HOk P w H s.heap
 bare:AllBare s.gens
def CE(outer:List Env)(P:SG)(w:SI)(H:Hp)(s:Ss)(Q:VK)(u:Value)(a:Ss):Prop:=
 ∃v b,a.os=s.os/\AllBare a.gens/\Un (frs outer) [] H b s.heap a.heap/\HOk P w b a.heap/\RelV v u/\Q v b
def CR(CX:CXT)(outer:List Env)(P:SG)(w:SI)(H:Hp)(s:Ss)(Q:VK)(E:XK)(r:Result)(a:Ss):Prop:=
 match r with
 |.ok (.ret u)=>CE outer P w H s Q u a
 |.ok _=>False
 |.error e=>CX outer H s E e a
structure qd(P:SG)(w:SI)(K:Sz)(mg:Sl)(base:Heap)(CX:CXT)(k:Nat)(f:Addr)(fd:SK)(ps:Sn)(sp:Sp):Prop where
 len:∀vs H Q E,sp vs H Q E->vs.length=ps.length
 run:∀(A:SQ)(outer:List Env)(s:Ss)(H:Hp)(args:Args)(us:Sv)(vs:Sx) (Q:VK) (E:XK),jJ k A->uc P w K mg base A outer s H->BindsTo s fd args (ps.zip us)->Vals vs us->sp vs H Q E->
  codeAny (model P w) A (.call (.ref f) args) (CR CX outer P w H s Q E) s
def qd.imp{P:SG}{w:SI}{K:Sz}{mg:Sl}{a:Heap}{CX:CXT}{k:Nat}{f:Addr}{g:SK}{e:Sn}{sp d:Sp}(F:qd P w K mg a CX k f g e sp)
  (h:∀c H Q E,d c H Q E->sp c H Q E):qd P w K mg a CX k f g e d:=
 ⟨λc H Q E q=>F.len c H Q E (h _ _ _ _ q),λA b s H args l c Q E m n i o j=>F.run A b s H args l c Q E m n i o (h _ _ _ _ j)⟩
def uc.make{P:SG}{w:SI}{K:Sz}{mg:Sl}{a:Heap}{A:SQ}{outer:List Env}{s:Ss}{H:Hp}(e:uc P w K mg a A outer s H)(C:Addr)(us:Sv)(b:Tj):
  uc P w K mg a (A.under (.builtin "type.__call__" ⟨.ref C::us,b⟩)) outer s H:=⟨by first|exact e.frames|(simpa[Around.under,Code.envs,Code.isFrame,pushEnvs]using e.frames),e.mod,e.bs,e.bsz,e.lR,e.frf,e.hok,e.bare⟩
def Inv.tK(I:Inv X pins σ H s):uc X.prog X.w X.K X.mg X.base X.A X.stack s H:=
 ⟨I.ok.frames,I.ok.mod,I.bs,a0o I.ok.bsz I.sz,I.stack,I.dS,I.hok,I.bare⟩
def Inv.after(I:Inv X pins σ H s)(h:CE X.stack X.prog X.w H s Q u s'):EP X pins σ Q u s':=by obtain⟨v,j,i,a,un,c,r,q⟩:=h;obtain⟨f,g,d,t,e⟩:=s';obtain rfl:e=s.os:=i;exact⟨v,j,I.call (h':=f) (g':=g) (d':=d) (t':=t) (ch:=[]) un c a (λb z=>absurd z (by simp)),r,q⟩
def Oo(sp:Sp)(dvs:Sx)(E:XK)(t:TA):TE:=λb H Q=>t b H λc a=>sp (c++dvs) a Q E
def Oq(C:Addr)(sp:Sp)(dvs:Sx)(E:XK)(t:TA):TE:=λc H Q=>t c H λe b=>∀x a,b x=none->b a=none->a≠x->
 sp (.ref x::(e++dvs)) (upd (upd b a (.own x)) x (.ins C a [])) (λv d=>v=.non/\Q (.ref x) d) E
def Binds(K:Sz)(d:SK)(b:Sn)(c:Sv):Prop:=
 ∀(s:Ss)(a:Sv),K.In s.heap->(a++c).length=b.length->BindsTo s d ⟨a,[]⟩ (b.zip (a++c))
def Binds.all{K:Sz}{d:SK}{b:Sn}(h:∀a:List Value,a.length=b.length->bindArgs d ⟨a,[]⟩=pure (b.zip a)):Binds K d b []:=λs a _ c=>by rw[a0h]at c ⊢;exact .of_eq (h a c)
def Passes(CX:CXT)(X:Cx)(E:XK):Prop:=∀(a:Sm)(c:St)(H:Hp)(s:Ss)(e:Value)(b:Ss),Inv X a c H s->CX X.stack H s E e b->X.xe e b
section
variable {X:Cx}{CX:CXT}{k:Nat}{f C:Addr}{fd:SK}{ps:Sn}{sp:Sp}{dvs:Sx}{ds:Sv}{E:XK}{x:Str}{p pos:Pos}{e:Sy}{es:Sw}{t:TA}
def ud(F:qd X.prog X.w X.K X.mg X.base CX k f fd ps sp)(l:jJ k X.A)(c:Binds X.K fd ps ds)(g:Vals dvs ds)(i:Passes CX X E)
  (I:Inv X pins σ H s) (r:Vals vs us) (h:sp (vs++dvs) H Q E):wpAny (TQ X) X.A (call (.ref f) us) (EP X pins σ Q) X.xe s:=by
 have b:Vals (vs++dvs) (us++ds):=r.append g;have j:(us++ds).length=ps.length:=by rw[<- b.length];exact F.len _ _ _ _ h
 refine a1c (a1f (F.run X.A X.stack s H ⟨us,[]⟩ (us++ds) (vs++dvs) Q E l I.tK (c s us I.kIn j) b h) λr n a=>?_);cases r with
 |error e=>exact i pins σ H s e n I a
 |ok d=>
  cases d with
  |ret u=>exact I.after a
  |next=>exact False.elim a
  |brk=>exact False.elim a
  |cont=>exact False.elim a
def lV(F:qd X.prog X.w X.K X.mg X.base CX k f fd ps sp)(v:jJ k X.A)(u:Gl X x)(n:X.mg x=some (.ref f))(g:PySem.W.keepIn X.K (.ref f)=true)(d:Binds X.K fd ps ds)(j:Vals dvs ds)(l:Passes CX X E)
  (w:PA X (e::es) t) (b:(x==("__debug__":Str))=false:=by decide) (he:starEach (e::es) X.env=(false,eval e X.env)::starEach es X.env:=by rfl) (hpl:(backTo pos (starEach es X.env)).any (·.1)=false:=by rfl):
  PE X (.Call (.Name x p) (e::es) [] pos) (Oo sp dvs E t):=by
 intro a s i H Q I h;refine a0S (WC I u n ?_ b);refine a1y (h₀:=X.base) I.ok.mod.kin g (thn (w pos a s i H _ I h) λB y ⟨z,A,c,r,q⟩=>⟨c.kIn,?_⟩) he hpl;exact ud F v d j l c r q
structure Mk(K:Sz)(C f:Addr):Prop where
 makes:PySem.W.makesIn K C=true
 init:PySem.W.findIn K (.ref C) "__init__"=some (some (.ref f))
 fn:PySem.W.isFn K (.ref f)=true
 kp:PySem.W.keepIn K (.ref C)=true
def BL(M:Mk X.K C f)(F:qd X.prog X.w X.K X.mg X.base CX k f fd ps sp)(A:jJ (k+1) X.A)(i:Binds X.K fd ps ds)(l:Vals dvs ds)
  (n:Passes CX X E) (I:Inv X pins σ H s) (r:Vals vs us)
  (h:∀x c,H x=none->H c=none->c≠x->sp (.ref x::(vs++dvs)) (upd (upd H c (.own x)) x (.ins C c [])) (λv z=>v=.non/\Q (.ref x) z) E):
  wpAny (TQ X) X.A (call (.ref C) us) (EP X pins σ Q) X.xe s:=by
 have g:=h (s.heap.objs.size+1) s.heap.objs.size (I.hok.fresh (a03 _)) (I.hok.fresh (S7 _)) (a0e (a08 _));have b:=Inv.made (C:=C) I;have d:Vals (V.ref (s.heap.objs.size+1)::(vs++dvs)) (Value.ref (s.heap.objs.size+1)::(us++ds)):=.cons rfl (r.append l);have D:(Value.ref (s.heap.objs.size+1)::us++ds).length=ps.length:=by have e:=d.length;rw[F.len _ _ _ _ g]at e;exact e.symm
 refine a1c (BK (f:=f) I.kIn M.makes M.init (a0t.mp M.fn) (a1f (F.run _ X.stack _ _ ⟨Value.ref (s.heap.objs.size+1)::us,[]⟩ (Value.ref (s.heap.objs.size+1)::(us++ds)) _ _ E (A.make C us [])
  (b.tK.make C us []) (i _ (Value.ref (s.heap.objs.size+1)::us) b.kIn D) d g) λr w a=>?_))
 cases r with
 |error e=>exact n pins σ _ _ e w b a
 |ok j=>
  cases j with
  |ret u=>obtain⟨v,B,G,q,ev,y⟩:=b.after a;subst ev;exact⟨q,⟨V.ref (s.heap.objs.size+1),B,G,rfl,y⟩⟩
  |next=>exact False.elim a
  |brk=>exact False.elim a
  |cont=>exact False.elim a
def ue(M:Mk X.K C f)(F:qd X.prog X.w X.K X.mg X.base CX k f fd ps sp)(u:jJ (k+1) X.A)(n:Gl X x)(l:X.mg x=some (.ref C))(d:Binds X.K fd ps ds)(i:Vals dvs ds)(j:Passes CX X E)
  (v:PA X (e::es) t) (b:(x==("__debug__":Str))=false:=by decide) (he:starEach (e::es) X.env=(false,eval e X.env)::starEach es X.env:=by rfl) (hpl:(backTo pos (starEach es X.env)).any (·.1)=false:=by rfl):
  PE X (.Call (.Name x p) (e::es) [] pos) (Oq C sp dvs E t):=by
 intro a s g H Q I h;refine a0S (WC I n l ?_ b);refine a1y (h₀:=X.base) I.ok.mod.kin M.kp (thn (v pos a s g H _ I h) λA w ⟨y,z,c,r,q⟩=>⟨c.kIn,?_⟩) he hpl;exact BL M F u d i j c r q
end
def PK(X:Cx)(d:List Keyword)(t:TA):Prop:=
 ∀(c:Pos)(a:Sm)(s:Ss)(b:St)(H:Hp)(Q:List V->Hp->Prop),Inv X a b H s->t b H Q->wpAny (TQ X) X.A (evalAll ((backToKw c (keywordEach d X.env)).map (·.2))) (AP X a b Q) X.xe s
section
variable {X:Cx}{x:Str}{pos kpos:Pos}{e:Sy}{kws:List Keyword}{te:TE}{t:TA}{nm:Option Str}
def IA:PK X [] Om:=λ_ _ _ _ H Q I h=>wpAny_evalAll_nil ⟨[],H,I,.nil,h⟩
def FD(z:PE X e te)(y:PK X kws t):PK X (⟨nm,e,kpos⟩::kws) (Iy te t):=by intro pos a s b H Q I h;show wpAny _ _ (evalAll ((do let v<-eval e X.env;standAt pos;pure v)::(backToKw pos (keywordEach kws X.env)).map (·.2))) _ _ s;refine a3p (f8 (thn (z a s b H _ I h) λu c ⟨x,g,r,j,l⟩=>f8 (a1v (S8 ?_))));exact thn (y pos a c b g _ r l) λA B ⟨w,q,d,i,n⟩=>⟨x::w,q,d,.cons j i,n⟩
end
structure zr(N P:Sn)(sc:Scope):Prop where
 kind:sc.kind=.function
 co:sc.isCoroutine=false
 gen:sc.isGenerator=false
 nd:N.Nodup
 pre:N.take P.length=P
 par:∀x∈P,sc.names.lookup x=some .local\/sc.names.lookup x=some .cell
 Nx:∀y∈sc.names,y.2≠.free
def gA{a:Tt}{x:Str}:∀{binds:Tj}{m:Sl},(∀v,(x,v)∉binds)->bindL a binds m x=m x
 |[],_,_=>rfl
 | (n,v)::r,m,h=>by
  unfold bindL;rw[gA λw b=>h w (S6 _ b)];split
  .have:x≠n:=by rintro rfl;exact h v S4
   simp[this]
  .rfl
def gB{a:Tt}{x:Str}:∀{binds:Tj}{m:Sl},(∀v,(x,v)∉binds)->bindC a binds m x=m x
 |[],_,_=>rfl
 | (n,v)::r,m,h=>by
  unfold bindC;rw[gB λw b=>h w (S6 _ b)];split
  .rfl
  .have:x≠n:=by rintro rfl;exact h v S4
   simp[this]
def gC{a:Tt}{x:Str}{v:Value}:∀{P:Sn}{b:Sv}{i:Nat}{m:Sl},P.Nodup->P[i]?=some x->b[i]?=some v->a x=some .local->
  bindL a (P.zip b) m x=some v
 |[],_,_,_,_,h,_,_=>by simp at h
 |_::_,[],_,_,_,_,h,_=>by simp at h
 |p::P,w::b,0,m,f,c,d,e=>by simp at c d;subst c;subst d;show bindL a ((p,w)::P.zip b) m p=_;unfold bindL;rw[gA λv g=>(a04.mp f).1 (a2T g).1,if_pos e];simp
 |p::P,w::b,i+1,m,f,c,d,e=>by show bindL a ((p,w)::P.zip b) m x=_;unfold bindL;exact gC (i:=i) (a04.mp f).2 (by simpa using c) (by simpa using d) e
def gD{a:Tt}{x:Str}{v:Value}:∀{P:Sn}{b:Sv}{i:Nat}{m:Sl},P.Nodup->P[i]?=some x->b[i]?=some v->a x≠some .local->
  bindC a (P.zip b) m x=some v
 |[],_,_,_,_,h,_,_=>by simp at h
 |_::_,[],_,_,_,_,h,_=>by simp at h
 |p::P,w::b,0,m,f,c,d,e=>by simp at c d;subst c;subst d;show bindC a ((p,w)::P.zip b) m p=_;unfold bindC;rw[gB λv g=>(a04.mp f).1 (a2T g).1,if_neg e];simp
 |p::P,w::b,i+1,m,f,c,d,e=>by show bindC a ((p,w)::P.zip b) m x=_;unfold bindC;exact gD (i:=i) (a04.mp f).2 (by simpa using c) (by simpa using d) e
def start(N:Sn)(vs:Sx):St:=vs.map some++List.replicate (N.length-vs.length) none
def dY(CX:CXT)(P:SG)(w:SI)(K:Sz)(mg:Sl)(c:Heap)(N:Sn)(b:Str)(a:Scope)(f:Addr)(cd:Value)(A:SQ)(outer:List Env)(s:Ss)(H:Hp)(E:XK):Cx where
 prog:=P
 w:=w
 K:=K
 mg:=mg
 base:=c
 A:=A.deeper (envOfC b a s.heap.objs.size f cd)
 N:=N
 s₀:=s
 H₀:=H
 env:=envOfC b a s.heap.objs.size f cd
 outer:=outer
 stack:=envOfC b a s.heap.objs.size f cd::outer
 ex:=[]
 calm:=true
 fn:=λ_=>true
 pn:=[]
 xe:=λe g=>wpAny (model P w) (A.deeper (envOfC b a s.heap.objs.size f cd)) (leaving (envOfC b a s.heap.objs.size f cd) e) (λ_ d=>CX outer H s E e d) (λh d=>CX outer H s E h d) g
def n_{a:Scope}{n:Nat}{x:Str}(h:a.names.lookup x=some .cell):∃c,(cellsFrom n a.names []).lookup x=some c:=by have q:=a10 a.names n [] (.inl h);exact a0I.mp q
def gE{CX:CXT}{P:SG}{w:SI}{K:Sz}{mg:Sl}{l:Heap}{N o:Sn}{g:Str}{d:Scope}{f:Addr}{cd:Value}{A:SQ}{outer:List Env}{s J:Ss}{H:Hp}{E:XK}{us:Sv}{vs:Sx}
  (S:zr N o d) (M:A.handled=none) (m:uc P w K mg l A outer s H) (W:vs.length=o.length) (r:Vals vs us)
  (x:InCallC s s.heap.objs.size (bindL (envOfC g d s.heap.objs.size f cd).kindOf (o.zip us) λ_=>none) (cellsFrom (s.heap.objs.size+1) d.names []) (bindC (envOfC g d s.heap.objs.size f cd).kindOf (o.zip us) λ_=>none) J):
  Inv (dY CX P w K mg l N g d f cd A outer s H E) [] (start N vs) H J:=by
 have O:o.length<=N.length:=by have:=a0F List.length S.pre;rw[a0J]at this;omega
 obtain⟨G,T,rfl,L⟩:=x.done;have B:∀b:Addr,b∉(dY CX P w K mg l N g d f cd A outer s H E).ex:=λb z=>absurd (show b∈([]:List Addr)from z) (by simp);refine⟨⟨m.mod,S.kind,rfl,rfl,S7 _,λy z c G j=>?_,λy C=>?_,λy c _ h=>?_,λ_=>M,Around.frames_deeper m.frames,.inr ⟨rfl,rfl⟩,λb z=>absurd z (B b),m.bs,m.bsz,λb _ _=>B b,λb z=>absurd z (B b),m.lR,m.frf⟩,
  rfl,m.bare,Un.kept L,⟨_,x.toInCall.ns,λi y v G j U=>?_⟩,λy c h=>⟨_,x.cell y c h⟩,m.hok.fresh (S7 _),λy c h=>?_,λp hp=>absurd (show p∈([]:List (Addr×Obj))from hp) (by simp),m.hok.kept L,?_⟩
 .exact name_of_addr x.apart (a1p G) (a1p j)
 .have C:d.names.lookup y=some .cell\/d.names.lookup y=some .free:=C;rcases C with C|C
  .exact n_ C
  .exact absurd rfl (S.Nx _ (a1p C))
 .exact a1N (x.above y c (a1p h))
 .have F:i<vs.length:=by
   unfold start at j;by_cases F:i<vs.length
   .exact F
   .rw[a00 (by simpa using F)]at j;rw[a07]at j;split at j<;>cases j
  have R:vs[i]?=some v:=by
   unfold start at j;rw[a0r (by simpa using F),a0k]at j;cases e:vs[i]? with
   |none=>rw[e]at j;cases j
   |some a=>rw[e]at j;cases j;rfl
  obtain⟨u,I,Q⟩:=r.get R;have hp:o[i]?=some y:=by rw[<- S.pre,List.getElem?_take_of_lt (by omega)];exact G
  have D:o.Nodup:=by rw[<- S.pre];exact S.nd.sublist (List.take_sublist _ _)
  refine⟨u,Q,?_⟩;rcases S.par y (a1H hp)with k|k
  .exact .inl ⟨k,gC D hp I k⟩
  .obtain⟨c,e⟩:=n_ (n:=s.heap.objs.size+1) k;refine .inr ⟨.inl k,c,e,?_⟩;have q:=x.cell y c e;rw[gD D hp I (by show d.names.lookup y≠_;rw[k];decide)]at q;exact q
 .exact m.hok.fresh (a1N (x.above y c (a1p h)))
 .unfold start;show _=N.length;rw[S9,v4,a1i];omega
def IB{CX:CXT}{P:SG}{w:SI}{K:Sz}{mg:Sl}{i:Heap}{k:Nat}{f:Addr}{p d:Str}{h:Arguments}{j:SY}{a:Scope}{dV kV G Z g ct oc:Value}{Y od:Te}
  {R:SX}{N L:Sn}{sp:Sp}(lk:K.lookup f=some ⟨oc,od,.func (PySem.W.fnOf p d h j a dV kV G Z Y g ct),R⟩) (W:PySem.W.codeIn K g d=true) (S:zr N L a)
  (len:∀l H Q E,sp l H Q E->l.length=L.length)
  (WA:∀(A:SQ)(c:List Env)(s:Ss)(H:Hp)(l:Sx)(Q:VK)(E:XK),jJ k (A.deeper (envOfC d a s.heap.objs.size f g))->sp l H Q E->
   ∃t,PSs (dY CX P w K mg i N d a f g A c s H E) j t/\t { nx:=λ_ z=>Q .non z,rt:=Q } (start N l) H):
  qd P w K mg i CX (k+1) f (PySem.W.fnOf p d h j a dV kV G Z Y g ct) L sp:=by
 refine⟨len,λA c s H args us l Q E T D hb r hsp=>?_⟩;have hl:=len _ _ _ _ hsp;have KX:K.In s.heap:=D.mod.kin.keeps λb o e=>(D.bs b o e).1;have U:s.heap.NoLimit:=D.mod.nolimit.keeps λb o e=>(D.bs b o e).1;have B:∀y∈L.zip us,a.names.lookup y.1=some .local\/(a.names.lookup y.1=some .cell/\((cellsFrom (s.heap.objs.size+1) a.names []).lookup y.1).isSome=true):=λ⟨n,v⟩ hy=>by
  rcases S.par n (a2T hy).1 with q|q
  .exact .inl q
  .exact .inr ⟨q,a10 _ _ _ (.inl q)⟩
 refine codeAny_call_function T.depth (KX _ _ lk) rfl S.co S.gen rfl (PySem.W.codeRec_of KX W) (hb _ _ _ _ ?_);refine a2n S.kind B λenv he X x=>?_;subst he;refine⟨U.keeps x.toInCall.keep,codeAny_func ?_⟩;obtain⟨t,ht,hq⟩:=WA A c s H l Q E (T.deeper _) hsp;have I:Inv (dY CX P w K mg i N d a f g A c s H E) [] (start N l) H X:=gE S T.hd D hl r x;refine a0A (ht [] X (start N l) H _ I hq) (λfl O C=>?_) λe O C=>C;have F:∀{m:St}{z:Hp}{v:V}{u:Value},Inv (dY CX P w K mg i N d a f g A c s H E) [] m z O->RelV v u->Q v z->CE c P w H s Q u O:=
  λ{m z v u} J M q=>⟨v,z,J.os,J.bare,J.base,J.hok,M,q⟩
 cases fl with
 |ret u=>obtain⟨v,m,z,J,M,q⟩:=C;exact F J M q
 |next=>obtain⟨m,z,J,q⟩:=C;exact F (v:=V.non) (u:=Value.none) J rfl q
 |brk=>obtain⟨_,_,_,q⟩:=C;exact False.elim q
 |cont=>obtain⟨_,_,_,q⟩:=C;exact False.elim q
section
variable {X:Cx}{x:Str}{p pos:Pos}{e:Sy}{es:Sw}{t:TA}{id T:String}{r:List V->Hp->VK->Prop}
def tCB(r:List V->Hp->VK->Prop)(t:TA):TE:=λb H Q=>t b H λc a=>r c a Q
def oa(g:Yj X (.builtin id) r)(m:Gl X x)(l:X.mg x=none)(w:bootBuiltins x=some (.builtin id))(u:PA X (e::es) t)(v:x≠"__name__":=by decide)(b:(x==("__debug__":Str))=false:=by decide)
  (he:starEach (e::es) X.env=(false,eval e X.env)::starEach es X.env:=by rfl) (hpl:(backTo pos (starEach es X.env)).any (·.1)=false:=by rfl):PE X (.Call (.Name x p) (e::es) [] pos) (tCB r t):=by
 intro a s c H Q I h;refine a0S (UX I m l w ?_ v b);exact PyProof.Rows.callWith_builtin1 (thn (u pos a s c H _ I h) λn d ⟨f,i,q,j,o⟩=>g a d c i f n Q q j o) he hpl
def gG(g:Yj X (.type T) r)(m:Gl X x)(l:X.mg x=none)(w:bootBuiltins x=some (.type T))(u:PA X (e::es) t)(v:x≠"__name__":=by decide)(b:(x==("__debug__":Str))=false:=by decide)
  (he:starEach (e::es) X.env=(false,eval e X.env)::starEach es X.env:=by rfl) (hpl:(backTo pos (starEach es X.env)).any (·.1)=false:=by rfl):PE X (.Call (.Name x p) (e::es) [] pos) (tCB r t):=by
 intro a s c H Q I h;refine a0S (UX I m l w ?_ v b);exact a1G (thn (u pos a s c H _ I h) λn d ⟨f,i,q,j,o⟩=>g a d c i f n Q q j o) he hpl
end
end L2
namespace HT
open PySem PyProof.Rows
section
def sIx(n d:Nat):Option Int->Nat
 |none=>d
 |some v=>if v<0 then(v+(n:Int)).toNat else min v.toNat n
end
end HT
namespace L2
open PySem PySem.Spec PyProof.Rows
abbrev TO:=St->Hp->(Option Int->Hp->Prop)->Prop
def PO(X:Cx)(e:Tz)(t:TO):Prop:=
 ∀(a:Sm)(s:Ss)(b:St)(H:Hp)(Q:Option Int->Hp->Prop),Inv X a b H s->t b H Q->
  wpAny (TQ X) X.A (evalPart e X.env) (λu d=>∃o c,Inv X a b c d/\IsPart u o/\Q o c) X.xe s
def FE:TO:=λ_ H Q=>Q none H
def Ot(t:TE):TO:=λb H Q=>t b H λx a=>∃i,x=.int i/\Q (some i) a
section
variable {X:Cx}{e:Sy}{te:TE}{lo hi:Tz}{tl th:TO}{pos p2:Pos}
def FF:PO X none FE:=by intro a s b H Q I h;rw[evalPart_none];exact S8 ⟨none,H,I,.none,h⟩
def FG(h:PE X e te):PO X (some e) (Ot te):=by intro a s g H Q I d;rw[evalPart_some];refine thn (h a s g H _ I d) λu l ⟨x,b,j,c,f⟩=>?_;obtain⟨i,rfl,q⟩:=f;obtain⟨t,rfl⟩:=c;exact⟨some i,b,j,.int i t,q⟩
def SlR(X:Cx)(r:V->Option Int->Option Int->Hp->VK->Prop):Prop:=
 ∀(a:Sm)(s:Ss)(d:St)(H:Hp)(x:V)(v c b:Value)(lo hi:Tr) (f:Addr) (Q:VK),Inv X a d H s->RelV x v->s.heap.IsSliceOf f c b .none->IsPart c lo->IsPart b hi->r x lo hi H Q->
  ∃T id,typeLookup (.type T) "__getitem__"=pure (some (.builtin id))/\s.TypeIs v T/\wpAny (TQ X) X.A (getItem v (.ref f)) (EP X a d Q) X.xe s
def SlR.or(h:SlR X r)(h':SlR X r'):SlR X (λx lo hi H Q=>r x lo hi H Q\/r' x lo hi H Q):=by
 intro a s g H x v f d lo hi i Q I c b l j q;rcases q with q|q
 .exact h a s g H x v f d lo hi i Q I c b l j q
 .exact h' a s g H x v f d lo hi i Q I c b l j q
def tSl(r:V->Option Int->Option Int->Hp->VK->Prop)(te:TE)(tl th:TO):TE:=λa H Q=>te a H λx b=>tl a b λl d=>th a d λu c=>r x l u c Q
def og(G:SlR X r)(he:PE X e te)(M:PO X lo tl)(j:PO X hi th):PE X (.Subscript e (.Slice lo hi none p2) pos) (tSl r te tl th):=by intro a s d H Q I h;refine Subscript_ (thn (he a s d H _ I h) λv m ⟨x,y,F,z,C⟩=>?_);refine wpAny_Slice (thn (M a m d y _ F C) λg K ⟨l,E,n,w,D⟩=>thn (j a K d E _ n D) λf c ⟨u,i,N,p,B⟩=>?_);rw[evalPart_none];refine S8 ?_;have L:Inv X a d i { c with heap:=c.heap.push { cls:=.type "slice",data:=.fields #[g,f,.none] } }:=N.kept (t':=c.toks) λb ob q=>S5 _ q;obtain⟨T,id,o,J,A⟩:=G a { c with heap:=c.heap.push { cls:=.type "slice",data:=.fields #[g,f,.none] } } d i x v g f l u c.heap.objs.size Q L z (Heap.IsSliceOf.new ..) w p B;show wpAny (TQ X) X.A (subscriptTail e (.Slice lo hi none p2) v (.ref c.heap.objs.size)) (EP X a d Q) X.xe { c with heap:=c.heap.push { cls:=.type "slice",data:=.fields #[g,f,.none] } };exact tail_any (ops:=[.ref c.heap.objs.size,v]) J o A (by with_unfolding_all rfl)
def D8(xs:Sx)(lo hi:Tr):List V:=(xs.drop (HT.sIx xs.length 0 lo)).take (HT.sIx xs.length xs.length hi-HT.sIx xs.length 0 lo)
def lX(xs:Sx)(lo hi:Tr):(D8 xs lo hi).length<=xs.length:=by unfold D8;rw[a0J,a09];omega
end
def ixN(n:Nat)(i:Int):Option Nat:=if 0<=i then(if i<n then some i.toNat else none)else if -(n:Int)<=i then some (i+n).toNat else none
def atI{a:Type}(xs:List a)(i:Int):Option a:=(ixN xs.length i).bind λj=>xs[j]?
def uf(h:ixN n i=some j):seqIndex? i n=some j/\j<n/\-(n:Int)<=i/\i<n:=by
 unfold ixN at h;by_cases b:0<=i
 .rw[if_pos b]at h;by_cases a:i<n
  .rw[if_pos a]at h;have e:i.toNat=j:=a0x h;exact⟨by rw[a3y b a,e],by omega,by omega,a⟩
  .rw[if_neg a]at h;cases h
 .rw[if_neg b]at h;by_cases a:-(n:Int)<=i
  .rw[if_pos a]at h;have e:(i+n).toNat=j:=a0x h;exact⟨by rw[a3q (by omega) a,e],by omega,a,by omega⟩
  .rw[if_neg a]at h;cases h
def lY{a:Type}{xs:List a}{v:a}(h:atI xs i=some v):∃j,seqIndex? i xs.length=some j/\xs[j]?=some v/\j<xs.length/\-(xs.length:Int)<=i/\i<xs.length:=by
 unfold atI at h;cases e:ixN xs.length i with
 |none=>rw[e]at h;cases h
 |some j=>rw[e]at h;obtain⟨b,c,d,f⟩:=uf e;exact⟨j,b,h,c,d,f⟩
def WD(b:Sy):Prop:=∀o i,subscripted b false o i=operate [o,i] (getItem o i)
def IxR(X:Cx)(r:R2):Prop:=
 ∀(c a:Sy)(b:Sm)(s:Ss)(d:St)(H:Hp)(x y:V)(v u:Value) (Q:VK),Inv X b d H s->RelV x v->RelV y u->r x y H Q->
  subscripted a false v u=operate [v,u] (getItem v u)->wpAny (TQ X) X.A (subscriptTail c a v u) (EP X b d Q) X.xe s
def MtR(X:Cx)(id:String)(r:V->List V->Hp->VK->Prop):Prop:=
 ∀(a:Sm)(s:Ss)(c:St)(H:Hp)(x:V)(d:Sx)(v:Value) (b:Sv) (Q:VK),Inv X a c H s->RelV x v->Vals d b->r x d H Q->
  wpAny (TQ X) X.A (call (.builtin id) (v::b)) (EP X a c Q) X.xe s
section
variable {X:Cx}{a b:Sy}{ta tb:TE}{pos:Pos}
def IxR.or(h:IxR X r)(h':IxR X r'):IxR X (λx y H Q=>r x y H Q\/r' x y H Q):=by
 intro d c e s j H x y v u Q I i f q g;rcases q with q|q
 .exact h d c e s j H x y v u Q I i f q g
 .exact h' d c e s j H x y v u Q I i f q g
def BM(l:IxR X r)(o:PE X a ta)(d:PE X b tb)(e:WD b):PE X (.Subscript a b pos) (tOp r ta tb):=by intro c s g H Q I h;exact Subscript_ (Oh o d I h λv u n x y j i f m q=>l a b c n g j x y v u Q i f m q (e _ _))
def PU(K:Sz):R2:=λx y H Q=>∃p c i v,x=.ref p/\y=.int i/\SqL K H p c/\atI c i=some v/\Q v H
def PX(K:Sz):R2:=λx y H Q=>∃p c i v,x=.ref p/\y=.int i/\SqT K H p c/\atI c i=some v/\Q v H
def PY:R2:=λx y H Q=>∃z i c,x=.str z/\y=.int i/\z.length<=sizeLine/\atI z.cps.toList i=some c/\Q (.str ⟨#[c]⟩) H
def FH:IxR X (PU X.K):=by
 intro n l c s B H x y v u Q I E L h A;obtain⟨p,P,i,z,rfl,rfl,K,G,q⟩:=h;cases E;obtain⟨t,rfl⟩:=L;obtain⟨o,r,g,hz⟩:=I.list K;obtain⟨j,e,M,R,O,F⟩:=lY G;obtain⟨w,C,f⟩:=r.get M;have N:=r.length;have S:=gx;have d:EP X c B Q w s:=⟨z,H,I,f,q⟩;by_cases D:0<=i
 .have m:i.toNat=j:=by rw[a3y D F]at e;exact a0x e
  exact item_listR g.isList D (by omega) (by rw[m];simpa using C) d A
 .have m:(i+(o.toArray.size:Int)).toNat=j:=by rw[a3q (by omega) O]at e;rw[a0b,<- N];exact a0x e
  exact a2Y (x:=w) g.isList.typeIs slot_list_getitem.lookup
   (wpAny_getItem_list_neg (Q:=λr J=>r=w/\EP X c B Q r J) g.isList (by omega) (by rw[a0b]<;>omega) (by omega) (by rw[m];simpa using C) ⟨rfl,d⟩) A
def IC:IxR X (PX X.K):=by
 intro g e c s l H x y v u Q I o G h n;obtain⟨p,M,i,z,rfl,rfl,E,B,q⟩:=h;cases o;obtain⟨t,rfl⟩:=G;obtain⟨F,r,m,hz⟩:=I.tuple E;obtain⟨j,D,J,N,P,L⟩:=lY B;obtain⟨w,A,d⟩:=r.get J;have K:=r.length;have O:=gx;have f:EP X c l Q w s:=⟨z,H,I,d,q⟩;exact a2Y (x:=w) m.typeIs slot_tuple_getitem.lookup
  (getItem_tuple (j:=j) (Q:=λr C=>r=w/\EP X c l Q r C) m (by omega) (by omega) (by rw[a0b,<- K];exact D) (by simpa using A) ⟨rfl,f⟩) n
def oh:IxR X PY:=by
 intro e d f s D H x y v u Q I m r h l;obtain⟨z,i,c,rfl,rfl,hz,p,q⟩:=h;obtain⟨t,rfl⟩:=m;obtain⟨E,rfl⟩:=r;obtain⟨j,g,w,F,C,n⟩:=lY p;have B:z.cps.toList.length=z.length:=by simp[Str.length]
 rw[B]at g C n;have G:=gx;exact tail_any (typeIs_str s z t) slot_str_getitem.lookup (getItem_str (c:=c) (by
  have A:decide (i < -(2 ^ 63:Int))=false:=a0a (by omega);have o:decide (i ≥ 2 ^ 63)=false:=a0a (by omega);rw[A,o,Bool.or_false]) (by rw[g];simpa using w) ⟨.str ⟨#[c]⟩,H,I.tok _,⟨_,rfl⟩,q⟩) l
def rIx(K:Sz):R2:=λx y H Q=>PU K x y H Q\/PX K x y H Q\/PY x y H Q
def D9:IxR X (rIx X.K):=FH.or (IC.or oh)
def rL(its:Sv)(n j:Nat)(u:Value):Obj.mapSeq (·.setIfInBounds j u) { cls:=.type "list",data:=.seq its.toArray n }={ cls:=.type "list",data:=.seq (its.set j u).toArray n }:=by simp[Obj.mapSeq]
def Inv.lst(I:Inv X pins σ H s)(h:H p=some (.lst xs)):
  ∃(c:Sv)(n:Nat),Vals xs c/\s.heap.get? p=some { cls:=.type "list",data:=.seq c.toArray n }/\xs.length<=sizeLine:=by
 obtain⟨z,c,n,r,e⟩:=I.hok p _ h;exact⟨c,n,r,e,z⟩
def Inv.ID{pins:Sm}{σ:St}{H:Hp}{s:Ss}{p:Addr}{xs ys:Sx}{its its':Sv}{n c:Nat}{f:Obj->Obj}(I:Inv X pins σ H s)(h:H p=some (.lst xs))
  (g:s.heap.get? p=some { cls:=.type "list",data:=.seq its.toArray n }) (hf:f { cls:=.type "list",data:=.seq its.toArray n }={ cls:=.type "list",data:=.seq its'.toArray c }) (r:Vals ys its') (hz:ys.length<=sizeLine) (t:Nat):
  Inv X pins σ (upd H p (.lst ys)) { s with heap:=s.heap.update p f,toks:=t }:=by
 have e:(s.heap.update p f).get? p=some { cls:=.type "list",data:=.seq its'.toArray c }:=by rw[a0R f g (by rw[hf]<;>rfl),hf]
 refine I.write (x:=p) (e:=p) (by rw[h];trivial) (.inl rfl) (λb u d q=>(a0q _ _ (Ne.symm d)).trans q) ⟨_,e⟩ ?_;exact⟨hz,its',c,r,e⟩
def Ou:V->V->V->Hp->(Hp->Prop)->Prop:=λo i v H Q=>∃p c k j,o=.ref p/\i=.int k/\H p=some (.lst c)/\ixN c.length k=some j/\Q (upd H p (.lst (c.set j v)))
def set_list:PM X Ou:=by
 intro c s z H o i v K F u Q I A E B h;obtain⟨p,D,k,j,rfl,rfl,hp,C,q⟩:=h;cases A;obtain⟨t,rfl⟩:=E;obtain⟨d,n,r,g,hz⟩:=I.lst hp;obtain⟨e,G,x,y⟩:=uf C;have l:=r.length;have J:=gx;have m:Inv X c z (upd H p (.lst (D.set j v))) { s with heap:=s.heap.update p (Obj.mapSeq (·.setIfInBounds j u)) }:=
  I.ID hp g (rL d n j u) (r.set B j) (by rw[a0v];exact hz) s.toks
 by_cases w:0<=k
 .have f:k.toNat=j:=by rw[a3y w y]at e;exact a0x e
  exact PySem.W.ki_setAt g w (by omega) (by rw[a0b,<- l];exact y) (by rw[f];exact⟨_,m,q⟩)
 .have f:(k+(d.toArray.size:Int)).toNat=j:=by rw[a3q (by omega) x]at e;rw[a0b,<- l];exact a0x e
  exact PySem.W.ki_setBack g (by omega) (by rw[a0b,<- l];exact x) (by omega) (by rw[f];exact⟨_,m,q⟩)
def gH(d c:Tr)(n:Nat):(sliceBounds d c none n).1=((HT.sIx n 0 d:Nat):Int)/\(sliceBounds d c none n).2.1=((HT.sIx n n c:Nat):Int)/\(sliceBounds d c none n).2.2=1:=by
 refine⟨?_,?_,rfl⟩
 .cases d with
  |none=>simp[sliceBounds,HT.sIx]
  |some i=>
   simp only[sliceBounds,HT.sIx,Option.getD_none,show(1:Int)>0 by decide,if_true];by_cases h:i<0
   .simp only[h,if_true]<;>omega
   .simp only[h,if_false]<;>omega
 .cases c with
  |none=>simp[sliceBounds,HT.sIx]
  |some i=>
   simp only[sliceBounds,HT.sIx,Option.getD_none,show(1:Int)>0 by decide,if_true];by_cases h:i<0
   .simp only[h,if_true]<;>omega
   .simp only[h,if_false]<;>omega
def dZ(its:Sv)(c d:Tr):slicePick its.toArray c d none=((its.drop (HT.sIx its.length 0 c)).take (HT.sIx its.length its.length d-HT.sIx its.length 0 c)).toArray:=by obtain⟨e,f,g⟩:=gH c d its.toArray.size;unfold slicePick;rw[e,f,g];simp only[sliceRange_one,pick_run,List.size_toArray]<;>rfl
def RJ(K:Sz):V->Option Int->Option Int->Hp->VK->Prop:=λx e d H Q=>∃a c,x=.ref a/\SqL K H a c/\∀p,H p=none->Q (.ref p) (upd H p (.lst (D8 c e d)))
def ug:SlR X (RJ X.K):=by intro g s w H x v z y e f A Q I l j n m h;obtain⟨a,c,rfl,p,q⟩:=h;cases l;obtain⟨u,r,i,hz⟩:=I.list p;have d:=r.length;refine⟨"list",_,slot_list_getitem.lookup,i.isList.typeIs,?_⟩;refine wpAny_getItem_list_slice i.isList j n m .none (by simp) ?_ (by rw[List.size_toArray]<;>omega);rw[dZ,<- d];refine⟨.ref s.heap.objs.size,_,I.laid (t':=s.toks) (o:=.lst (D8 c e f)) (λb ob q=>S5 _ q) (S7 _) ?_,rfl,q _ (I.hok.fresh (S7 _))⟩;exact⟨a0o (lX c e f) hz,_,0,(r.drop (HT.sIx c.length 0 e)).take (HT.sIx c.length c.length f-HT.sIx c.length 0 e),a0i _ rfl⟩
def X9:V->Bool
 |.non=>true
 |.bl _=>true
 |.int _=>true
 |.str _=>true
 |_=>false
def eqV:V->V->Bool
 |.non,.non=>true
 |.bl a,.bl b=>a==b
 |.bl a,.int b=>(if a then 1 else 0)==b
 |.int a,.bl b=>a==(if b then 1 else 0)
 |.int a,.int b=>a==b
 |.str a,.str b=>a==b
 |_,_=>false
def D_(e:RelV y u)(c:RelV x v)(g:X9 y=true)(f:X9 x=true):SeqAt.EqAt A s u v (eqV y x):=by
 cases y with
 |non=>
  cases e;cases x with
  |non=>cases c;exact SeqAt.EqAt.same _
  |bl b=>cases c;exact SeqAt.EqAt.none_bool b
  |int b=>obtain⟨t,rfl⟩:=c;exact SeqAt.EqAt.none_int b t
  |str b=>obtain⟨t,rfl⟩:=c;exact SeqAt.EqAt.none_str b t
  |_=>exact absurd (show false=true from f) T7
 |bl a=>
  cases e;cases x with
  |non=>cases c;exact SeqAt.EqAt.bool_none a
  |bl b=>cases c;exact SeqAt.EqAt.bool_bool a b
  |int b=>obtain⟨t,rfl⟩:=c;exact SeqAt.EqAt.bool_int a b t
  |str b=>obtain⟨t,rfl⟩:=c;exact SeqAt.EqAt.bool_str a b t
  |_=>exact absurd (show false=true from f) T7
 |int a=>
  obtain⟨d,rfl⟩:=e;cases x with
  |non=>cases c;exact SeqAt.EqAt.int_none a d
  |bl b=>cases c;exact SeqAt.EqAt.int_bool a d b
  |int b=>obtain⟨t,rfl⟩:=c;exact SeqAt.EqAt.int_int a d b t
  |str b=>obtain⟨t,rfl⟩:=c;exact a3j a d b t
  |_=>exact absurd (show false=true from f) T7
 |str a=>
  obtain⟨d,rfl⟩:=e;cases x with
  |non=>cases c;exact SeqAt.EqAt.str_none a d
  |bl b=>cases c;exact SeqAt.EqAt.str_bool a d b
  |int b=>obtain⟨t,rfl⟩:=c;exact a3k a d b t
  |str b=>obtain⟨t,rfl⟩:=c;exact SeqAt.EqAt.str_str a d b t
  |_=>exact absurd (show false=true from f) T7
 |_=>exact absurd (show false=true from g) T7
def eqU(x:V)(u:Value):Bool:=match u with
 |.none=>eqV .non x
 |.bool b=>eqV (.bl b) x
 |.int i _=>eqV (.int i) x
 |.str z _=>eqV (.str z) x
 |_=>false
def Ea(r:RelV y u)(f:X9 y=true):eqU x u=eqV y x:=by
 cases y with
 |non=>cases r;rfl
 |bl b=>cases r;rfl
 |int i=>obtain⟨t,rfl⟩:=r;rfl
 |str z=>obtain⟨t,rfl⟩:=r;rfl
 |_=>exact absurd (show false=true from f) T7
def U0{x:V}:∀{c:Sx}{d:Sv},Vals c d->c.all X9=true->d.any (eqU x)=c.any λy=>eqV y x
 |_,_,.nil,_=>rfl
 |y::c,u::d,.cons r t,f=>by rw[a2o,a1a]at f;rw[a0O,a0O,Ea r f.1,U0 t f.2]
def Vy{A:SQ}{s:Ss}{x:V}{v:Value}(g:RelV x v)(h:X9 x=true):∀{e:Sx}{d:Sv},Vals e d->e.all X9=true->∀u∈d,SeqAt.EqAt A s u v (eqU x u)
 |_,_,.nil,_=>λu c=>by cases c
 |y::e,u::d,.cons r t,f=>λi c=>by
  rw[a2o,a1a]at f;rcases a0f.mp c with rfl|c
  .rw[Ea r f.1];exact D_ r g f.1 h
  .exact Vy g h t f.2 i c
def inV(x:V)(xs:Sx):Bool:=xs.any λy=>eqV y x
def rIn(K:Sz)(d:Bool):R2:=λx y H Q=>∃p c,y=.ref p/\(SqL K H p c\/SqT K H p c)/\X9 x=true/\c.all X9=true/\Q (.bl (if d then !inV x c else inV x c)) H
def uh:OpR X (compareOp .In) (rIn X.K false):=by
 intro i s m H x y v u Q I g l h;obtain⟨p,n,rfl,d,j,fs,q⟩:=h;cases l;rcases d with d|d
 .obtain⟨c,r,e,hz⟩:=I.list d;refine SeqAt.in_listAt (eqU x) e.isList (λw f=>Vy g j r fs w (by simpa using f)) ⟨.bl _,H,I,rfl,?_⟩;rw[show c.toArray.any (eqU x)=c.any (eqU x) by simp,U0 r fs];exact q
 .obtain⟨c,r,e,hz⟩:=I.tuple d;refine SeqAt.in_tupleAt (eqU x) e (λw f=>Vy g j r fs w (by simpa using f)) ⟨.bl _,H,I,rfl,?_⟩;rw[show c.toArray.any (eqU x)=c.any (eqU x) by simp,U0 r fs];exact q
def gI:OpR X (compareOp .NotIn) (rIn X.K true):=by
 intro i s m H x y v u Q I g l h;obtain⟨p,n,rfl,d,j,fs,q⟩:=h;cases l;rcases d with d|d
 .obtain⟨c,r,e,hz⟩:=I.list d;refine SeqAt.notIn_listAt (eqU x) e.isList (λw f=>Vy g j r fs w (by simpa using f)) ⟨.bl _,H,I,rfl,?_⟩;rw[show c.toArray.any (eqU x)=c.any (eqU x) by simp,U0 r fs];exact q
 .obtain⟨c,r,e,hz⟩:=I.tuple d;refine SeqAt.notIn_tupleAt (eqU x) e (λw f=>Vy g j r fs w (by simpa using f)) ⟨.bl _,H,I,rfl,?_⟩;rw[show c.toArray.any (eqU x)=c.any (eqU x) by simp,U0 r fs];exact q
def gJ:OpR X (compareOp .NotIn) (λx y H Q=>∃i j,x=.str i/\y=.str j/\Q (.bl (!(!(Builtin.Str.occurrences j i 0 j.length 1).isEmpty))) H):=by intro c s g H x y v u Q I e d h;obtain⟨i,j,rfl,rfl,q⟩:=h;obtain⟨t,rfl⟩:=e;obtain⟨f,rfl⟩:=d;exact notIn_str ⟨.bl _,H,I,rfl,q⟩
def Yj.or(h:Yj X f r)(h':Yj X f r'):Yj X f (λd H Q=>r d H Q\/r' d H Q):=by
 intro c s g H d e Q I i q;rcases q with q|q
 .exact h c s g H d e Q I i q
 .exact h' c s g H d e Q I i q
def gK:Yj X (.type "list") (λD H Q=>∃p i,D=[.ref p]/\(SqL X.K H p i\/SqT X.K H p i)/\∀l,H l=none->Q (.ref l) (upd H l (.lst i))):=by
 intro j s F H D G Q I r h;obtain⟨p,i,rfl,x,q⟩:=h;obtain⟨u,rfl,E⟩:=vals1 r;cases E;have w:∀(c:Sv),Vals i c->i.length<=sizeLine->∀(d:Heap)(f:Nat),(∀b C,s.heap.get? b=some C->d.get? b=some C)->
   d.get? s.heap.objs.size=some { cls:=.type "list",dict:=none,data:=.seq c.toArray f,slots:=#[] }->EP X j F Q (.ref s.heap.objs.size) { s with heap:=d }:=λc g hz d f v e=>
  ⟨.ref s.heap.objs.size,_,I.laid (t':=s.toks) v (S7 _) (show qG X.prog X.w _ d _ (.lst i)from⟨hz,c,f,g,e⟩),rfl,q _ (I.hok.fresh (S7 _))⟩
 rcases x with x|x
 .obtain⟨c,g,z,hz⟩:=I.list x;have m:=g.length;obtain⟨o,y,A,n,B⟩:=z.isList;exact call_list_seq p (.inl rfl) y A B (λd f v e=>w c g hz d f v e) (by simp only[List.size_toArray]<;>omega)
 .obtain⟨c,g,z,hz⟩:=I.tuple x;have m:=g.length;obtain⟨o,y,A,n,B⟩:=z;exact call_list_seq p (.inr rfl) y A B (λd f v e=>w c g hz d f v e) (by simp only[List.size_toArray]<;>omega)
def tyV(K:Sz)(T:String)(x:V)(H:Hp):Prop:=match x with
 |.str _=>T="str"
 |.int _=>T="int"
 |.ref p=>(T="list" /\ ∃d,SqL K H p d)\/(T="tuple" /\ ∃o,K.lookup p=some o/\o.cls=.type "tuple"/\o.dict=none)\/
   (T="dict"/\((∃c,H p=some (.dK c))\/∃c,H p=some (.dT c)))\/(T="set" /\ ∃S n,H p=some (.set S n))
 |_=>False
def Eb(I:Inv X pins σ H s)(r:RelV x v)(g:tyV X.K T x H):
  s.TypeIs v T/\∀a,v=.ref a->∃ob,s.heap.get? a=some ob/\ob.dict=none:=by
 cases x with
 |str z=>obtain⟨t,rfl⟩:=r;cases(show T="str" from g);exact⟨typeIs_str s z t,λ_ e=>nomatch e⟩
 |int i=>obtain⟨t,rfl⟩:=r;cases(show T="int" from g);exact⟨typeIs_int s i t,λ_ e=>nomatch e⟩
 |ref p=>
  cases r;rcases g with⟨rfl,y,u⟩|⟨rfl,o,d,q,l⟩|⟨rfl,d⟩|⟨rfl,S,n,d⟩
  .obtain⟨w,_,m,_⟩:=I.list u;refine⟨m.isList.typeIs,λa e=>?_⟩;cases e;obtain⟨o,n,e,c,l,_⟩:=m;exact⟨o,e,l⟩
  .refine⟨⟨o,I.kIn p o d,q⟩,λa e=>?_⟩;cases e;exact⟨o,I.kIn _ o d,l⟩
  .have z:∃o,s.heap.get? p=some o/\o.ExactDict:=by
    rcases d with⟨h,d⟩|⟨h,d⟩
    .obtain⟨_,_,_,_,o,_,_,e,f,_⟩:=I.hok p _ d;exact⟨o,e,f⟩
    .obtain⟨_,_,_,_,o,_,_,e,f,_⟩:=I.hok p _ d;exact⟨o,e,f⟩
   obtain⟨o,e,f⟩:=z;refine⟨⟨o,e,f.1⟩,λa j=>?_⟩;cases j;exact⟨o,e,f.2.1⟩
  .obtain⟨o,_,_,_,e,f,_⟩:=I.hok p _ d;refine⟨⟨o,e,f.1⟩,λa j=>?_⟩;cases j;exact⟨o,e,f.2.1⟩
 |_=>exact False.elim g
def RK(K:Sz)(T:String)(r:V->List V->Hp->VK->Prop)(d:TE):TE:=λe H Q=>d e H λx c=>tyV K T x c/\r x [] c Q
def tBM(K:Sz)(T:String)(r:V->List V->Hp->VK->Prop)(e:TE)(t:TA):TE:=λd H Q=>e d H λx c=>tyV K T x c/\t d c λg f=>r x g f Q
variable {o e:Sy}{es:Sw}{to:TE}{t:TA}{name:Str}{jI wW:Pos}{T id:String}{r:V->List V->Hp->VK->Prop}
def IE(u:PlainAttrs T)(d:Slot T name id)(f:typeOf (.builtin id)=pure (.type "method_descriptor"))(y:MtR X id r)(m:PE X o to)
  (n:attributeBase o name X.env (eval o X.env)=eval o X.env:=by rfl) (q:(jI.endLine==wW.line)=true:=by rfl):PE X (.Call (.Attribute o name jI) [] [] wW) (RK X.K T r to):=by
 intro c s g H Q I h;refine wpAny_Call_method0_late n q (thn (m c s g H _ I h) λv l ⟨x,p,j,i,w,A⟩=>?_);obtain⟨z,B⟩:=Eb j i w;exact⟨T,id,u,d,f,z,B,a1B rfl (PySem.evalArgs_none (y c l g p x [] v [] Q j i .nil A))⟩
def BO(A:PlainAttrs T)(f:Slot T name id)(i:typeOf (.builtin id)=pure (.type "method_descriptor"))(F:MtR X id r)(u:PE X o to)(P:PA X (e::es) t)
  (y:attributeBase o name X.env (eval o X.env)=eval o X.env:=by rfl)
  (E:((backTo wW (starEach (e::es) X.env)).all (λx=>!x.1)&&(backToKw wW (keywordEach [] X.env)).all (λx=>x.1.isSome)
   && decide ((e::es).length+([]:List Keyword).length+(if([]:List Keyword).isEmpty then 0 else 1)<30))=true:=by rfl)
  (B:(jI.endLine==wW.line)=true:=by rfl) (p:starEach (e::es) X.env=(false,eval e X.env)::starEach es X.env:=by rfl) (d:(backTo wW (starEach es X.env)).any (·.1)=false:=by rfl):
  PE X (.Call (.Attribute o name jI) (e::es) [] wW) (tBM X.K T r to t):=by
 intro c s g H Q I h;refine wpAny_Call_method_late y E B rfl (thn (u c s g H _ I h) λv n ⟨x,z,m,l,D,K⟩=>?_);obtain⟨J,O⟩:=Eb m l D;refine⟨T,id,A,f,i,J,O,?_⟩;have j:=P wW c n g z _ m K;rw[p]at j ⊢;refine a1B (by show(false||(backTo wW (starEach es X.env)).any (·.1))=false;rw[d]<;>rfl) (a2a ?_);exact thn j λG N ⟨w,M,q,C,L⟩=>F c N g M x w v G Q q l C L
end
def MtM(X:Cx)(id:String)(r:V->List V->Hp->VK->Prop):Prop:=
 ∀(a:Sm)(s:Ss)(c:St)(H:Hp)(x:V)(d:Sx)(v:Value) (b:Sv) (Q:VK),Inv X a c H s->RelV x v->Vals d b->r x d H Q->
  wpAny (TQ X) X.A (call (.builtin id) (v::b)) (EP X a c Q) X.xe s
def Vals.one:∀{x:V}{a:Sv},Vals [x] a->∃u,a=[u]/\RelV x u
 |_,_,.cons r .nil=>⟨_,rfl,r⟩
def Vals.zero:∀{a:Sv},Vals [] a->a=[]
 |_,.nil=>rfl
def Vals.rep{xs:Sx}{us:Sv}(h:Vals xs us):∀k:Nat,Vals (List.replicate k xs).flatten (List.replicate k us).flatten
 |0=>.nil
 |k+1=>by rw[a0Z,a0Z,a1l,a1l];exact Vals.append h (Vals.rep h k)
def foldl_rep(its:Sv):∀(k:Nat)(a:Sv),
  List.foldl (λd c=>d++c) a.toArray (List.replicate k its.toArray)=(a++(List.replicate k its).flatten).toArray
 |0,a=>by simp
 |k+1,a=>by
  have e:a.toArray++its.toArray=(a++its).toArray:=by simp
  have b:(a++its)++(List.replicate k its).flatten=a++(List.replicate (k+1) its).flatten:=by rw[a0Z,a1l,a0w]
  rw[<- b,<- foldl_rep its k (a++its),<- e,a0Z,a1j]
def Inv.PZ{its its':Sv}{n:Nat}{f:Array Value->Array Value}{t':Nat}(I:Inv X pins σ H s)(c:H l=some (.lst xs))
  (e:s.heap.get? l=some { cls:=.type "list",data:=.seq its.toArray n }) (hf:f its.toArray=its'.toArray) (d:Vals ys its') (hz:ys.length<=sizeLine):
  Inv X pins σ (upd H l (.lst ys)) { s with heap:=s.heap.update l (Obj.mapSeq f),toks:=t' }:=by
 have q:=PySem.IsL.update e f;rw[hf]at q;refine I.write (x:=l) (e:=l) (by rw[c];exact trivial) (.inl rfl) (λg u a b=>(a0q s.heap (Obj.mapSeq f) (Ne.symm a)).trans b) ⟨_,q⟩ ?_;exact⟨hz,its',_,d,q⟩
def Inv.Ov(I:Inv X pins σ H s)(a:Vals ys its)(hz:ys.length<=sizeLine):
  Inv X pins σ (upd H s.heap.objs.size (.lst ys)) { s with heap:=s.heap.push { cls:=.type "list",data:=.seq its.toArray },toks:=t' }:=
 I.laid (λ_ _ q=>S5 _ q) (S7 _) ⟨hz,its,0,a,a0i _ rfl⟩
def Inv.fresh(I:Inv X pins σ H s):H s.heap.objs.size=none:=I.hok.fresh (S7 _)
def Inv.IF(I:Inv X pins σ H s)(b:H l=some (.lst xs)):xs.length<=sizeLine/\∃(a:Sv)(n:Nat),Vals xs a/\xs.length=a.length/\s.heap.get? l=some { cls:=.type "list",data:=.seq a.toArray n }:=by obtain⟨z,a,n,r,e⟩:=I.hok l _ b;exact⟨z,a,n,r,r.length,e⟩
def BP(h:n<=sizeLine):Builtin.List.listTooLong n=false:=by unfold Builtin.List.listTooLong;exact a0a (by omega)
section
variable {X:Cx}
def FI:V->List V->Hp->VK->Prop:=λx b H Q=>∃l a y,x=.ref l/\b=[y]/\H l=some (.lst a)/\a.length<sizeLine/\Q .non (upd H l (.lst (a++[y])))
def U1:MtM X "list.append" FI:=by intro b s i H x j v m Q I d g h;obtain⟨l,o,y,rfl,rfl,c,hz,q⟩:=h;cases d;obtain⟨u,rfl,f⟩:=g.one;obtain⟨z,a,n,r,p,e⟩:=I.IF c;refine a2v F.slot_list_append ⟨_,e,rfl⟩ F.entry_list_append (F.args_list_append_2 _ _) (PySem.list_append l a.toArray n u (by rw[a0b];omega)) ⟨e,?_⟩;refine⟨.non,_,I.PZ (its':=a++[u]) c e (by simp) (r.append (.cons f .nil)) ?_,rfl,q⟩;rw[S9,a16];omega
def IG:V->List V->Hp->VK->Prop:=λx b H Q=>∃l a,x=.ref l/\b=[]/\H l=some (.lst a)/\Q .non (upd H l (.lst []))
def BQ:MtM X "list.clear" IG:=by intro c s i H x j v m Q I f g h;obtain⟨l,o,rfl,rfl,d,q⟩:=h;cases f;have a:=g.zero;subst a;obtain⟨z,b,n,r,p,e⟩:=I.IF d;refine a2v F.slot_list_clear ⟨_,e,rfl⟩ F.entry_list_clear (F.args_list_clear_1 _) (AutoSeq1.list_clear_list_0 l b.toArray n (by rw[a0b];omega)) ⟨e,?_⟩;exact⟨.non,_,I.PZ (its':=[]) (ys:=[]) d e rfl .nil (a0y _),rfl,q⟩
def P0:R2:=λx y H Q=>∃l b c a,x=.ref l/\y=.ref b/\H l=some (.lst c)/\H b=some (.lst a)/\c.length+a.length<=sizeLine/\∀p,H p=none->Q (.ref p) (upd H p (.lst (c++a)))
def Ec:OpR X (binaryOp .Add) P0:=by
 intro d s A H x y v u Q I g p h;obtain⟨l,b,C,D,rfl,rfl,o,hB,hz,q⟩:=h;cases g;cases p;obtain⟨z,c,n,r,E,e⟩:=I.IF o;obtain⟨w,a,B,j,i,m⟩:=I.IF hB;refine PySem.P.add_list e m ?_ (by rw[a0b,a0b];omega);have f:c.toArray++a.toArray=(c++a).toArray:=by simp
 rw[f];exact⟨.ref _,_,I.Ov (t':=s.toks) (r.append j) (by rw[S9];omega),rfl,q _ I.fresh⟩
def P1:R2:=λx y H Q=>∃l k a,x=.ref l/\y=.int k/\H l=some (.lst a)/\-(2 ^ 63)<=k/\k<2 ^ 63/\a.length*k.toNat<=sizeLine/\
 ∀p,H p=none->Q (.ref p) (upd H p (.lst (List.replicate k.toNat a).flatten))
def len_rep{a:Type}(xs:List a)(k:Nat):(List.replicate k xs).flatten.length=k*xs.length:=by
 induction k with
 |zero=>simp
 |succ k b=>rw[a0Z,a1l,S9,b,Nat.succ_mul,Nat.add_comm]
def IH:OpR X (binaryOp .Mult) P1:=by
 intro p s K H x y v u Q I w E h;obtain⟨l,k,M,rfl,rfl,D,C,G,hz,q⟩:=h;cases w;obtain⟨t,rfl⟩:=E;obtain⟨z,b,n,r,J,e⟩:=I.IF D;have f:b.toArray.size*k.toNat<=sizeLine:=by rw[a0b,<- J];exact hz
 have i:¬b.toArray.size*k.toNat>(2 ^ 63-1) / 8:=by
  have:(sizeLine:Nat)<=(2 ^ 63-1) / 8:=by decide
  omega
 have g:¬(!Builtin.List.listFitsIndex k)=true:=by rw[fitsIndex_both C G];exact T7
 have c:¬Builtin.List.listTooLong (b.toArray.size*k.toNat)=true:=by rw[BP f];exact T7
 have d:List.foldl (λo j=>o++j) #[] (List.replicate (if b.toArray.isEmpty=true then 0 else k.toNat) b.toArray)=(List.replicate k.toNat b).flatten.toArray:=by
  have A:∀m:Nat,List.foldl (λo j=>o++j) #[] (List.replicate m b.toArray)=(List.replicate m b).flatten.toArray:=λm=>by have:=foldl_rep b m [];rw[a05]at this;exact this
  rw[A];cases b with
  |nil=>simp
  |cons a L=>rw[if_neg (by simp)]
 refine wpAny_binaryOp_repeat_ref (T:="list") (U:="int") (by decide) ⟨_,e,rfl⟩ (λB=>typeIs_int B k t) noFill_list_mul F.fills_int_mul F.slot_int_rmul repeat_list F.slot_int_index.lookup
  (a2v F.slot_int_rmul (typeIs_int s k t) F.entry_int_rmul (F.args_int_rmul_2 _ _) (int___rmul___int_list k t l b.toArray n)
   ⟨e,rfl,⟨_,e,rfl⟩,a2v F.slot_list_mul ⟨_,e,rfl⟩ F.entry_list_mul (F.args_list_mul_2 _ _) (AutoListH.list___mul___list_int_3 l b.toArray n k t g i c) ⟨e,?_⟩⟩)
 rw[d];exact⟨.ref _,_,I.Ov (t':=s.toks) (r.rep k.toNat) (by rw[len_rep,Nat.mul_comm];exact hz),rfl,q _ I.fresh⟩
end
section
variable {κ:Type}[DecidableEq κ]
def X_(kvs:List (κ×V))(k:κ):Option V:=(kvs.find? λa=>decide (a.1=k)).map (·.2)
def putK(kvs:List (κ×V))(k:κ)(v:V):List (κ×V):=
 if(kvs.any λa=>decide (a.1=k))=true then kvs.map (λa=>if a.1=k then(a.1,v)else a)else kvs++[(k,v)]
def Uz{p:κ×V}{r:List (κ×V)}{k:κ}(e:p.1=k):X_ (p::r) k=some p.2:=by simp[X_,List.find?_cons,e]
def UA{p:κ×V}{r:List (κ×V)}{k:κ}(e:¬p.1=k):X_ (p::r) k=X_ r k:=by simp[X_,List.find?_cons,e]
def oi(k:κ):∀a:List (κ×V),(a.any λb=>decide (b.1=k))=(X_ a k).isSome
 |[]=>rfl
 |p::r=>by
  rw[a0O];by_cases e:p.1=k
  .simp only[Uz e,decide_eq_true e,Bool.true_or,Option.isSome_some]
  .rw[UA e,a0a e,Bool.false_or];exact oi k r
def K_(kvs:List (κ×V))(k:κ)(v:V):(putK kvs k v).length<=kvs.length+1:=by
 unfold putK;split
 .rw[v4];omega
 .rw[S9,S0,a2b];omega
def Xf.Yk(r:Xf o u):o.isSome=u.isSome:=by
 cases o with
 |none=>cases u with
  |none=>rfl
  |some _=>exact(show False from r).elim
 |some _=>cases u with
  |none=>exact(show False from r).elim
  |some _=>rfl
def Xf.getD(r:Xf o u)(rd:RelV d d'):RelV (o.getD d) (u.getD d'):=by
 cases o with
 |none=>cases u with
  |none=>exact rd
  |some _=>exact(show False from r).elim
 |some _=>cases u with
  |none=>exact(show False from r).elim
  |some _=>exact r
def KV.val{kvs:List (κ×V)}{vs:List (κ×Value)}(r:KV kvs vs)(k:κ):Xf (X_ kvs k) (valueAt vs k):=by
 unfold KV at r
 induction r with
 |nil=>exact True.intro
 |@cons p q i a h t f=>
  obtain⟨d,g⟩:=h;by_cases e:p.1=k
  .have c:q.1=k:=d.symm.trans e;have b:valueAt (q::a) k=some q.2:=by simp[valueAt,List.find?_cons,c]
   rw[Uz e,b];exact g
  .have c:¬q.1=k:=λz=>e (d.trans z);have b:valueAt (q::a) k=valueAt a k:=by simp[valueAt,List.find?_cons,c]
   rw[UA e,b];exact f
def KV.any{kvs:List (κ×V)}{vs:List (κ×Value)}(r:KV kvs vs)(k:κ):(kvs.any λa=>decide (a.1=k))=vs.any λa=>decide (a.1=k):=by
 unfold KV at r
 induction r with
 |nil=>rfl
 |cons h t b=>rw[a0O,a0O,b,h.1]
def KV.Ow{kvs:List (κ×V)}{vs:List (κ×Value)}(r:KV kvs vs)(k:κ)(c:RelV y u):
  KV (kvs.map λa=>if a.1=k then(a.1,y)else a) (vs.map λa=>if a.1=k then(a.1,u)else a):=by
 unfold KV at r ⊢
 induction r with
 |nil=>exact .nil
 |@cons p q i g h t d=>
  rw[T2,T2];refine .cons ?_ d;obtain⟨b,f⟩:=h;by_cases e:p.1=k
  .rw[if_pos e,if_pos (b.symm.trans e)];exact⟨b,c⟩
  .rw[if_neg e,if_neg (λz=>e (b.trans z))];exact⟨b,f⟩
def KV.put{kvs:List (κ×V)}{vs:List (κ×Value)}(r:KV kvs vs)(k:κ)(a:RelV y u):KV (putK kvs k y) (stored vs k u):=by
 unfold putK stored;rw[r.any k];by_cases e:(vs.any λb=>decide (b.1=k))=true
 .rw[if_pos e,if_pos e];exact r.Ow k a
 .rw[if_neg e,if_neg e];exact Paired.snoc r ⟨rfl,a⟩
def KV.length{kvs:List (κ×V)}{vs:List (κ×Value)}(r:KV kvs vs):kvs.length=vs.length:=a1u r
end
def d0(r:RelV (kV k) u):(yJ P w).is k u=true:=by
 cases k with
 |inl i=>obtain⟨t,e⟩:=(show ∃t,u=Value.int i t from r);subst e;exact lN P w i t
 |inr x=>obtain⟨t,e⟩:=(show ∃t,u=Value.str x t from r);subst e;exact lO P w x t
def U2{P:SG}{w:SI}:∀{a:Ti}{b:Sv},Vals (a.map kV) b->ItemsAre (yJ P w) a b
 |[],_,r=>by rw[a3r]at r;cases r;exact .nil
 |k::a,_,r=>by
  rw[T2]at r;cases r with
  |cons h t=>exact .cons (d0 h) (U2 t)
abbrev KT(H:Hp):List (List Key×V)->List (List Key×Addr×Value)->Prop:=Paired λp q=>p.1=q.1/\H q.2.1=some (.tup (p.1.map kV))/\RelV p.2 q.2.2
def KT.val(r:KT H kvs xs)(k:Ti):Xf (X_ kvs k) ((atKey xs k).map (·.2)):=by
 induction r with
 |nil=>exact True.intro
 |@cons p q i c h t f=>
  obtain⟨d,_,g⟩:=h;by_cases e:p.1=k
  .have a:q.1=k:=d.symm.trans e;have b:atKey (q::c) k=some q.2:=by simp[atKey,List.find?_cons,a]
   rw[Uz e,b];exact g
  .have a:¬q.1=k:=λz=>e (d.trans z);have b:atKey (q::c) k=atKey c k:=by simp[atKey,List.find?_cons,a]
   rw[UA e,b];exact f
def KT.Ow(r:KT H kvs xs)(k:Ti)(d:RelV y u):
  KT H (kvs.map λb=>if b.1=k then(b.1,y)else b) (xs.map (putAt k u)):=by
 induction r with
 |nil=>exact .nil
 |@cons p q j i h t f=>
  rw[T2,T2];refine .cons ?_ f;obtain⟨a,c,g⟩:=h;unfold putAt;by_cases e:p.1=k
  .rw[if_pos e,if_pos (a.symm.trans e)];exact⟨a,c,d⟩
  .rw[if_neg e,if_neg (λz=>e (a.trans z))];exact⟨a,c,g⟩
def KT.put(r:KT H kvs xs)(k:Ti)(c:H b=some (.tup (k.map kV)))(a:RelV y u):
  KT H (putK kvs k y) (storedH xs k b u):=by
 have e:(kvs.any λd=>decide (d.1=k))=(atKey xs k).isSome:=by rw[oi,(r.val k).Yk,a06]
 unfold putK storedH;rw[e];by_cases q:(atKey xs k).isSome=true
 .rw[if_pos q,if_pos q];exact r.Ow k a
 .rw[if_neg q,if_neg q];exact Paired.snoc r ⟨rfl,c,a⟩
def KT.keeps(r:KT H kvs xs)(c:∀b a,H b=some (.tup a)->H' b=some (.tup a)):KT H' kvs xs:=
 Paired.Oa r λ_ _ z=>⟨z.1,c _ _ z.2.1,z.2.2⟩
def II(ok:HOk P w H h)(e:Rd H a u):qG P w H h a u:=e.ok ok
def Kc(ok:HOk P w H h)(e:Rd H a (.dK kvs)):kvs.length<=sizeLine/\(a==sysModules)=false/\∃b,KV kvs b/\h.DictOf (yJ P w) a b:=
 show qG P w H h a (.dK kvs)from II ok e
def IJ(ok:HOk P w H h)(e:H a=some (.dK kvs)):kvs.length<=sizeLine/\(a==sysModules)=false/\∃b,KV kvs b/\h.DictOf (yJ P w) a b:=Kc ok (.inl e)
def U3(ok:HOk P w H h)(e:H a=some (.tup (ks.map kV))):(tupleKind (yJ P w)).is h ks a:=by obtain⟨_,b,r,o,c,d,n,f⟩:=(show qG P w H h a (.tup (ks.map kV))from ok a _ e);exact⟨o,b.toArray,n,c,d,f,by simpa using U2 r⟩
def U4(ok:HOk P w H h)(e:Rd H a (.dT kvs)):kvs.length<=sizeLine/\(a==sysModules)=false/\
  ∃c,KT H kvs c/\h.DictOfH (tupleKind (yJ P w)) a c:=by
 obtain⟨z,y,c,r,o,u,f,j,n,s,v,g⟩:=(show qG P w H h a (.dT kvs)from II ok e);refine⟨z,y,c,r,o,u,f,j,n,s,v,λx b=>?_,g⟩;have all:∀{l:Tu}{m:List (List Key×Addr×Value)},KT H l m->∀x∈m,(tupleKind (yJ P w)).is h x.1 x.2.1:=by
  intro l m q
  induction q with
  |nil=>intro x b;exact nomatch b
  |@cons p q B A d t i=>
   intro x b;rcases a0f.mp b with e|b
   .subst e;exact U3 ok (by rw[<- d.1];exact d.2.1)
   .exact i x b
 exact all r x b
def Ox(ok:HOk P w H h)(e:H a=some (.dT kvs)):kvs.length<=sizeLine/\(a==sysModules)=false/\
  ∃b,KT H kvs b/\h.DictOfH (tupleKind (yJ P w)) a b:=U4 ok (.inl e)
def lK(H:Hp)(a:Addr)(y:V)(r:Option V):Prop:=
 (∃c k,Rd H a (.dK c)/\y=kV k/\r=X_ c k)\/∃c k b,Rd H a (.dT c)/\y=.ref b/\H b=some (.tup (k.map kV))/\r=X_ c k
def BR(H:Hp)(a:Addr)(y v:V)(H':Hp):Prop:=
 (∃c k,H a=some (.dK c)/\y=kV k/\c.length<sizeLine/\H'=upd H a (.dK (putK c k v)))\/
 ∃c k b,H a=some (.dT c)/\y=.ref b/\H b=some (.tup (k.map kV))/\c.length<sizeLine/\H'=upd H a (.dT (putK c k v))
def BR.k{H:Hp}{a:Addr}{kvs:SE}{k:Key}{v:V}(e:H a=some (.dK kvs))(b:kvs.length<sizeLine):BR H a (kV k) v (upd H a (.dK (putK kvs k v))):=.inl ⟨kvs,k,e,rfl,b,rfl⟩
def BR.t{H:Hp}{a b:Addr}{kvs:Tu}{k:Ti}{v:V}(e:H a=some (.dT kvs))(d:H b=some (.tup (k.map kV)))(c:kvs.length<sizeLine):
  BR H a (.ref b) v (upd H a (.dT (putK kvs k v))):=.inr ⟨kvs,k,b,e,rfl,d,c,rfl⟩
def Inv.big(I:Inv X pins σ H s):sysModules<s.heap.objs.size:=by have h:mainGlobals<s.heap.objs.size:=(I.mod.glob.keeps I.bk).lt;exact a2c (by decide) h
def ui(w:A.units+1<cLine)(I:Inv X pins σ H s)(g:lK H a y (some v))(r:RelV y u)(h:∀f q,Inv X pins σ H q->RelV v f->Q f q):
  wpAny (TQ X) A (getItem (.ref a) u) Q E s:=by
 rcases g with⟨i,k,e,n,l⟩|⟨i,k,b,e,n,D,l⟩
 .subst n;obtain⟨z,B,x,d,dd⟩:=Kc I.hok e;obtain⟨f,m,c⟩:=Xf.some_of (v:=v) (o:=valueAt x k) (by rw[l];exact d.val k);exact wpAny_getItem_of (d0 r) dd.mapOf m (h f _ (I.tok _) c)
 .subst n;cases(show u=Value.ref b from r);obtain⟨z,B,C,d,dd⟩:=U4 I.hok e;obtain⟨f,m,c⟩:=Xf.some_of (v:=v) (o:=(atKey C k).map (·.2)) (by rw[l];exact d.val k);obtain⟨p,hp,j⟩:=u8.mp m;refine a3s (a0T w) (U3 I.hok D) dd hp ?_;rw[j];exact h f _ (I.tok _) c
def RL(n:A.units+1<cLine)(I:Inv X pins σ H s)(g:lK H a y o)(j:RelV y u)(h:∀m,Inv X pins σ H m->Q (.bool o.isSome) m):
  wpAny (TQ X) A (compareOp .In u (.ref a)) Q E s:=by
 rcases g with⟨f,k,e,i,l⟩|⟨f,k,b,e,i,p,l⟩
 .subst i;obtain⟨z,d,v,c,dd⟩:=Kc I.hok e;refine wpAny_in_of (d0 j) d dd.mapOf ?_;rw[<- (c.val k).Yk,<- l];exact h _ (I.tok _)
 .subst i;cases(show u=Value.ref b from j);obtain⟨z,d,r,c,dd⟩:=U4 I.hok e;refine wpAny_in_heap (a0T n) (U3 I.hok p) d dd ?_;have q:=(c.val k).Yk;rw[a06]at q;rw[<- q,<- l];exact h _ (I.tok _)
def FJ(n:A.units+1<cLine)(I:Inv X pins σ H s)(g:lK H a y o)(j:RelV y u)(h:∀m,Inv X pins σ H m->Q (.bool (!o.isSome)) m):
  wpAny (TQ X) A (compareOp .NotIn u (.ref a)) Q E s:=by
 rcases g with⟨f,k,e,i,l⟩|⟨f,k,b,e,i,p,l⟩
 .subst i;obtain⟨z,d,v,c,dd⟩:=Kc I.hok e;refine wpAny_notIn_of (d0 j) d dd.mapOf ?_;rw[<- (c.val k).Yk,<- l];exact h _ (I.tok _)
 .subst i;cases(show u=Value.ref b from j);obtain⟨z,d,r,c,dd⟩:=U4 I.hok e;refine wpAny_notIn_heap (a0T n) (U3 I.hok p) d dd ?_;have q:=(c.val k).Yk;rw[a06]at q;rw[<- q,<- l];exact h _ (I.tok _)
def lZ(I:Inv X pins σ H s)(f:Mut (H a))(d:Heap.SameBut a s.heap h')(he:∃q,h'.get? a=some q)(new:qG X.prog X.w (upd H a ob) h' a ob):
  Inv X pins σ (upd H a ob) { s with heap:=h',toks:=t' }:=
 I.write (x:=a) (e:=a) f (.inl rfl) (λb q c z=>(d.2 b c).trans z) he new
def oj(z:kvs.length<=sizeLine)(c:(a==sysModules)=false)(b:KV kvs vs)(dd:h'.DictOf (yJ P w) a vs):
  qG P w H' h' a (.dK kvs):=⟨z,c,vs,b,dd⟩
def uj(J:A.units+1<cLine)(I:Inv X pins σ H s)(g:BR H a y v H')(D:RelV y u)(x:RelV v r)(h:∀B,Inv X pins σ H' B->Q () B):
  wpAny (TQ X) A (setItem (.ref a) u r) Q E s:=by
 rcases g with⟨d,k,e,w,l,o⟩|⟨d,k,b,e,w,F,l,o⟩
 .subst w o;obtain⟨z,n,K,f,dd⟩:=IJ I.hok e;have hz:K.length<=sizeLine:=by rw[<- f.length];exact z
  have p:(putK d k v).length<=sizeLine:=by have:=K_ d k v;omega
  refine wpAny_setItem_pairs (hsz:=hz) (d0 D) dd λC i m=>h _ ?_;have M:∃q,C.get? a=some q:=let⟨q,_,_,j,_⟩:=i;⟨q,j⟩
  exact lZ I (by rw[e];exact True.intro) m M (oj p n (f.put k x) i)
 .subst w o;cases(show u=Value.ref b from D);obtain⟨z,n,N,f,dd⟩:=Ox I.hok e;have hz:N.length<=sizeLine:=by rw[<- a1u f];exact z
  have p:(putK d k v).length<=sizeLine:=by have:=K_ d k v;omega
  refine wpAny_setItem_heap (hsz:=hz) (a0T J) (U3 I.hok F) dd λC i m=>h _ ?_;obtain⟨q,R,G,j,O,P,S,_,L⟩:=i;refine lZ I (by rw[e];exact True.intro) m ⟨q,j⟩ ⟨p,n,_,(f.put k F x).keeps λc T ec=>?_,q,R,G,j,O,P,S,L⟩;rw[zi (N_ ec e (λz=>nomatch z))];exact ec
def Oy(I:Inv X pins σ H s)(e:Rd H a (.dK kvs))(h:∀t c,Inv X pins σ H c->Q (.int kvs.length t) c):wpAny (TQ X) A (call (.builtin "len") [.ref a]) Q E s:=by obtain⟨z,d,f,b,dd⟩:=Kc I.hok e;refine call_len_dict d dd (by rw[<- b.length];rw[a0M]at z;omega) ?_;rw[<- b.length];exact h _ _ (I.tok _)
def l4(I:Inv X pins σ H s)(g:lK H a y o):s.TypeIs (.ref a) "dict":=by
 rcases g with⟨c,k,e,_,_⟩|⟨c,k,b,e,_,_,_⟩
 .obtain⟨_,_,f,_,dd⟩:=Kc I.hok e;exact dd.typeIs
 .obtain⟨_,_,d,_,dd⟩:=U4 I.hok e;exact dd.typeIs
def Oz(g f i:TE):TS:=λD b H=>i b H λv d=>g b d λx h=>f b h λy e=>∃a c,x=.ref a/\BR e a y v c/\D.nx b c
def l5(d:X.A.units+1<cLine)(m:PE X o td)(n:PE X i ty)(L:PE X value tv)(f:swapsWith value (some (.Subscript o i pos')) pos.line X.env=pure false):
  PS X (.Assign [.Subscript o i pos'] value pos) (Oz td ty tv):=by
 intro b s c H D I h;refine wpAny_Assign_Subscript (thn (L b s c H _ I h) λr e ⟨v,p,F,q,A⟩=>thn (m b e c p _ F A) λu J ⟨x,E,l,j,B⟩=>thn (n b J c E _ l B) λP O ⟨y,Q,M,G,a,w,C,g,z⟩=>?_) f;subst C;obtain rfl:u=Value.ref a:=j;exact uj d M g G q λN K=>⟨c,w,K,z⟩
def om(h:Heap)(a:sysModules<h.objs.size):qG P w H (h.push { cls:=.type "dict",data:=.dict #[] }) h.objs.size (.dK []):=
 ⟨a0y _,a0E.mpr (Ne.symm (a0e a)),[],.nil,Heap.DictOf.new h⟩
def BS(h:Heap)(a:sysModules<h.objs.size):qG P w H (h.push { cls:=.type "dict",data:=.dict #[] }) h.objs.size (.dT []):=
 ⟨a0y _,a0E.mpr (Ne.symm (a0e a)),[],.nil,_,#[],0,a0i _ rfl,⟨rfl,rfl,rfl⟩,rfl,rfl,List.nodup_nil⟩
def IK:TE:=λ_ H Q=>∀p,H p=none->Q (.ref p) (upd H p (.dK []))
def IL:TE:=λ_ H Q=>∀p,H p=none->Q (.ref p) (upd H p (.dT []))
def BU:PE X (.Dict [] [] pos) IK:=λb s c H Q I h=>
 wpAny_Dict_empty ⟨.ref s.heap.objs.size,_,I.laid (a:=s.heap.objs.size) (o:=.dK []) (t':=s.toks) (λ_ _ q=>S5 _ q) (S7 _) (om s.heap I.big),rfl,h _ (I.hok.fresh (S7 _))⟩
def BV:PE X (.Dict [] [] pos) IL:=λb s c H Q I h=>
 wpAny_Dict_empty ⟨.ref s.heap.objs.size,_,I.laid (a:=s.heap.objs.size) (o:=.dT []) (t':=s.toks) (λ_ _ q=>S5 _ q) (S7 _) (BS s.heap I.big),rfl,h _ (I.hok.fresh (S7 _))⟩
def uk:List (TE×TE)->St->Hp->(List (V×V)->Hp->Prop)->Prop
 |[],_,H,Q=>Q [] H
 | (c,g)::r,a,H,Q=>c a H λx b=>g a b λy f=>uk r a f λe d=>Q ((x,y)::e) d
abbrev VV:List (V×V)->List (Value×Value)->Prop:=Paired λp q=>RelV p.1 q.1/\RelV p.2 q.2
def PPs(X:Cx)(e:Pos)(c:List (Option Expr))(a:Sw)(f:List (TE×TE)):Prop:=
 ∀(b:Sm)(s:Ss)(d:St)(H:Hp)(Q:List (V×V)->Hp->Prop),Inv X b d H s->uk f d H Q->
  wpAny (TQ X) X.A (evalPairs (pairTrees c a X.env e)) (λi j=>∃g h,Inv X b d h j/\VV g i/\Q g h) X.xe s
def FK:PPs X pos [] [] []:=λa s b H Q I h=>pairTrees_nil_walk ⟨[],H,I,.nil,h⟩
def BW(e:PE X k tk)(A:PE X v tv)(q:PPs X pos ks vs trs):
  PPs X pos (some k::ks) (v::vs) ((tk,tv)::trs):=λa s b H Q I h=>
 pairTrees_cons_walk (thn (e a s b H _ I h) λu d ⟨x,i,p,f,m⟩=>thn (A a d b i _ p m) λC z ⟨y,o,g,r,n⟩=>
  thn (q a z b o _ g n) λE D ⟨l,w,B,c,j⟩=>⟨(x,y)::l,w,B,.cons ⟨f,r⟩ c,j⟩)
def gL(kvs a:SE):List (Key×V):=a.foldl (λb c=>putK b c.1 c.2) kvs
def KV.merge:∀{a:SE}{d:To}{b:SE}{c:To},KV a d->KV b c->KV (gL b a) (merged c d):=by
 intro a d b c r;unfold KV at r
 induction r generalizing b c with
 |nil=>intro q;exact q
 |@cons p q i j h t g=>
  intro f;have e:KV (putK b p.1 p.2) (stored c q.1 q.2):=by have:=f.put p.1 h.2;rw[<- h.1];exact this
  exact g e
def Vz:∀(b a:SE),(gL a b).length<=a.length+b.length
 |[],a=>by show a.length<=a.length+0;omega
 |p::r,a=>by have c:=Vz r (putK a p.1 p.2);have d:=K_ a p.1 p.2;show(gL (putK a p.1 p.2) r).length<=_;rw[S0];omega
def c7{P:SG}{w:SI}:∀{d:SE}{f:List (Value×Value)},VV (d.map λg=>(kV g.1,g.2)) f->∃e,Carries (yJ P w) f e/\KV d e
 |[],_,r=>by rw[a3r]at r;cases r;exact⟨[],True.intro,.nil⟩
 |p::d,_,r=>by
  rw[T2]at r;cases r with
  |@cons a b l bs h t=>obtain⟨e,c,q⟩:=c7 (P:=P) (w:=w) t;obtain⟨j,i⟩:=b;exact⟨(p.1,i)::e,⟨d0 h.1,rfl,c⟩,.cons ⟨rfl,h.2⟩ q⟩
def OA(b:List (TE×TE)):TE:=λf H Q=>∀p,H p=none->uk b f (upd H p (.dK [])) λe c=>c p=some (.dK [])/\∃a:List (Key×V),e=a.map (λd=>(kV d.1,d.2))/\a.length<=15/\Q (.ref p) (upd c p (.dK (gL [] a)))
def FL(h:PPs X pos keys values trs)(f:keys.all (·.isSome)=true)(G:keys.length=values.length)(y:keys≠[])
  (i:keys.length<=15):PE X (.Dict keys values pos) (OA trs):=by
 intro d s r H Q I q;have F:=I.hok.fresh (S7 s.heap.objs.size);have C:=I.laid (a:=s.heap.objs.size) (o:=.dK []) (h':=s.heap.push { cls:=.type "dict",data:=.dict #[] }) (t':=s.toks) (λ_ _ q=>S5 _ q) (S7 _) (om s.heap I.big);refine wpAny_Dict_walk (knd:=yJ X.prog X.w) f G y i (thn (h d _ r _ _ C (q _ F)) λL M ⟨J,K,l,j,e,b,n,N,B⟩=>?_);subst n;obtain⟨D,c,rk⟩:=c7 (P:=X.prog) (w:=X.w) j;obtain⟨z,v,E,u,dd⟩:=IJ l.hok e;cases u;refine⟨D,c,dd,λm g p=>⟨.ref s.heap.objs.size,_,?_,rfl,B⟩⟩;have hz:(gL [] b).length<=sizeLine:=by have A:=Vz b [];rw[a2b]at A;rw[a0M];omega
 have x:∃q,m.get? s.heap.objs.size=some q:=let⟨q,_,_,hq,_⟩:=g;⟨q,hq⟩
 exact lZ l (by rw[e];exact True.intro) p x (oj hz v (rk.merge .nil) g)
structure M1(X:Cx)(o:Sy)(m:Str)(jI:Pos)(e:Sy)(wW:Pos):Prop where
 base:attributeBase o m X.env (eval o X.env)=eval o X.env
 few:((backTo wW (starEach [e] X.env)).all (λx=>!x.1)&&(backToKw wW (keywordEach [] X.env)).all (λx=>x.1.isSome)
  && decide (([e]:List Expr).length+([]:List Keyword).length+(if([]:List Keyword).isEmpty then 0 else 1)<30))=true
 line:(jI.endLine==wW.line)=true
 trees:backTo wW (starEach [e] X.env)=[(false,eval e X.env)]
structure M2(X:Cx)(o:Sy)(m:Str)(jI:Pos)(e f:Sy)(wW:Pos):Prop where
 base:attributeBase o m X.env (eval o X.env)=eval o X.env
 few:((backTo wW (starEach [e,f] X.env)).all (λx=>!x.1)&&(backToKw wW (keywordEach [] X.env)).all (λx=>x.1.isSome)
  && decide (([e,f]:List Expr).length+([]:List Keyword).length+(if([]:List Keyword).isEmpty then 0 else 1)<30))=true
 line:(jI.endLine==wW.line)=true
 trees:backTo wW (starEach [e,f] X.env)=[(false,eval e X.env),(false,eval f X.env)]
def IsD(H:Hp)(a:Addr):Prop:=(∃b,Rd H a (.dK b))\/∃b,Rd H a (.dT b)
def Ed(I:Inv X pins σ H s)(d:IsD H a):
  s.TypeIs (.ref a) "dict"/\(∀b,Value.ref a=.ref b->∃ob,s.heap.get? b=some ob/\ob.dict=none)/\(a==sysModules)=false:=by
 rcases d with⟨g,e⟩|⟨g,e⟩
 .obtain⟨_,f,j,_,dd⟩:=Kc I.hok e;refine⟨dd.typeIs,λb q=>?_,f⟩;cases q;obtain⟨ob,_,_,c,h,_⟩:=dd;exact⟨ob,c,h.2.1⟩
 .obtain⟨_,f,i,_,dd⟩:=U4 I.hok e;refine⟨dd.typeIs,λb q=>?_,f⟩;cases q;obtain⟨ob,_,_,c,h,_⟩:=dd;exact⟨ob,c,h.2.1⟩
def IP(p:A.units+1<cLine)(I:Inv X pins σ H s)(g:lK H a y o)(m:RelV y u)(h:∀j n,Inv X pins σ H n->RelV (o.getD .non) j->Q j n):
  wpAny (TQ X) A (call (.builtin "dict.get") [.ref a,u]) Q E s:=by
 rcases g with⟨f,k,e,i,l⟩|⟨f,k,b,e,i,q,l⟩
 .subst i;obtain⟨z,d,v,c,dd⟩:=Kc I.hok e;refine a2D a02 dd.typeIs a1C (a2P _ _) (meets_dict_get (yJ X.prog X.w) a (d0 m) d) ⟨_,dd.mapOf,h _ _ (I.tok _) ?_⟩;rw[l];exact(c.val k).getD rfl
 .subst i;cases(show u=Value.ref b from m);obtain⟨z,d,r,c,dd⟩:=U4 I.hok e;refine a2D a02 dd.typeIs a1C (a2P _ _) (meetsH_dict_get (tupleKind (yJ X.prog X.w)) a b d) ⟨a0T p,k,r,U3 I.hok q,dd,h _ _ (I.tok _) ?_⟩;rw[l];exact(c.val k).getD rfl
def IQ(q:A.units+1<cLine)(I:Inv X pins σ H s)(g:lK H a y o)(n:RelV y u)(rd:RelV d r)(h:∀m p,Inv X pins σ H p->RelV (o.getD d) m->Q m p):
  wpAny (TQ X) A (call (.builtin "dict.get") [.ref a,u,r]) Q E s:=by
 rcases g with⟨i,k,e,j,l⟩|⟨i,k,b,e,j,v,l⟩
 .subst j;obtain⟨z,f,x,c,dd⟩:=Kc I.hok e;refine a2D a02 dd.typeIs a1C (a2Q _ _ _) (meets_dict_get_default (yJ X.prog X.w) a (d0 n) f r) ⟨_,dd.mapOf,h _ _ (I.tok _) ?_⟩;rw[l];exact(c.val k).getD rd
 .subst j;cases(show u=Value.ref b from n);obtain⟨z,f,w,c,dd⟩:=U4 I.hok e;refine a2D a02 dd.typeIs a1C (a2Q _ _ _) (meetsH_dict_get_default (tupleKind (yJ X.prog X.w)) a b f r) ⟨a0T q,k,w,U3 I.hok v,dd,h _ _ (I.tok _) ?_⟩;rw[l];exact(c.val k).getD rd
def IS(f e:TE):TE:=λc H Q=>f c H λx b=>∃a,x=.ref a/\IsD b a/\e c b λy d=>∃o,lK d a y o/\Q (o.getD .non) d
def IT(g f e:TE):TE:=λb H Q=>g b H λx c=>∃a,x=.ref a/\IsD c a/\f b c λy h=>e b h λz d=>∃o,lK d a y o/\Q (o.getD z) d
def BX(j:X.A.units+1<cLine)(q:PE X o td)(he:PE X e ty)(m:M1 X o "get" jI e wW):PE X (.Call (.Attribute o "get" jI) [e] [] wW) (IS td ty):=by intro b s f H Q I h;refine wpAny_Call_method m.base m.few m.line a2R a02 a21 (thn (q b s f H _ I h) λu l ⟨x,v,i,n,a,w,d,z⟩=>?_);subst w;obtain rfl:u=Value.ref a:=n;obtain⟨r,C,_⟩:=Ed i d;refine⟨r,C,?_⟩;rw[m.trees];refine a1B rfl (a2a (a1O (thn (he b l f v _ i z) λJ K ⟨y,B,p,D,L,g,A⟩=>a2t ?_)));exact IP j p g D λF G E c=>⟨_,B,E,c,A⟩
def BY(l:X.A.units+1<cLine)(r:PE X o td)(he:PE X e ty)(hf:PE X f tx)(m:M2 X o "get" jI e f wW):PE X (.Call (.Attribute o "get" jI) [e,f] [] wW) (IT td ty tx):=by
 intro b s i H Q I h;refine wpAny_Call_method m.base m.few m.line a2R a02 a21 (thn (r b s i H _ I h) λu n ⟨x,w,j,p,a,B,d,C⟩=>?_);subst B;obtain rfl:u=Value.ref a:=p;obtain⟨v,F,_⟩:=Ed j d;refine⟨v,F,?_⟩;rw[m.trees];refine a1B rfl (a2a (a1O (thn (he b n i w _ j C) λS K ⟨y,E,q,G,D⟩=>
  a1O (thn (hf b K i E _ q D) λT R ⟨z,J,N,L,U,g,A⟩=>a2t ?_))))
 exact IQ l N g G L λP O M c=>⟨_,J,M,c,A⟩
def BZ(I:Inv X pins σ H s)(e:Rd H a (.dK kvs))(h:∀p g,H p=none->Inv X pins σ (upd H p (.dK kvs)) g->Q (.ref p) g):wpAny (TQ X) A (call (.type "dict") [.ref a]) Q E s:=by obtain⟨z,j,m,c,dd⟩:=Kc I.hok e;refine kt_call_dict j dd (by rw[<- c.length];exact z) λl d i=>?_;refine h _ _ (I.hok.fresh (S7 _)) (I.laid (a:=s.heap.objs.size) (o:=.dK kvs) (t':=s.toks) (λb q f=>?_) (S7 _) (oj z (a0E.mpr (Ne.symm (a0e I.big))) c d));exact(i.2 b (a0e (T1 f))).trans (S5 _ f)
end L2
namespace Att
open PySem PySem.W PySem.Calls PyProof.Rows
def U5:∀(c:SS)(d:Sv),WellAll P h d (c.map WData.int)->IntsAre d c:=by
 intro c
 induction c with
 |nil=>intro d w;rw[a3r]at w;cases w;exact .nil
 |cons n c e=>
  intro d w;rw[T2]at w;cases w with
  |cons a b=>cases a;exact .cons _ _ (e _ b)
def um{l:OpenLaw}{n:Nat}(y:l.most=some n){P:Params}{h:Heap}{args:List WData}{vals:Sv}
  (c:l.row.toRowW.claim.pre args=true) (m:WellAll P h vals args):
  ∃a o b,vals=[Value.ref a]/\args=[WData.list (b.map WData.int)]/\h.get? a=some { cls:=.type "list",data:=.seq o.toArray }/\IntsAre o b/\b.length<=n:=by
 have j:WShape.hasAll [] args [.list .int]=true:=(pre_splitW c).1;have p:l.pre.holds [] { args:=args }=true:=(pre_splitW c).2;obtain⟨d,r,rfl,x,z⟩:=hasAllW_cons j;obtain rfl:=hasAllW_nil z;obtain⟨B,rfl,A⟩:=hasW_list x;obtain⟨b,rfl⟩:=items_int A;have e:b.length<=n:=by
  unfold OpenLaw.pre at p;have i:(WTm.not (.lt (.lit (.int (n:Int))) (.len (.arg 0)))).holds [] { args:=[.list (b.map .int)] }=true:=by have i:=(holds_andW p).1;rw[y]at i;exact i
  have g:=condW_of i (w_not (w_lt w_lit (w_len_list (w_arg rfl))));rw[v4]at g;refine Nat.le_of_not_lt λq=>?_;have w:(n:Int)<((b.length:Nat):Int):=by omega
  first
   | (rw[T5 w]at g;exact absurd g (by decide))
   | (simp at g;omega)
 cases m with
 |cons v s=>
  cases s;cases v with
  |list u f=>exact⟨_,_,b,rfl,rfl,u,U5 b _ f,e⟩
def uo(l:OpenLaw)(args:List WData):l.row.toRowW.claim.post args (.bool true) args=true:=
 postW_of (r:=l.row.toRowW) (X:=(true==true))
  (show WShape.has [] (.bool true) .bool=true by first|rfl|decide|simp[WShape.has,WShape.arms,WShape.armsAll])
  (show(WTm.eq .res (.lit (.bool true))).value [] { args:=args,res:=some (.bool true),after:=args }=some (.bool (true==true))from w_eq_bool (w_res rfl) w_lit) rfl
def l6{l:OpenLaw}{n:Nat}{q:SG}{c:Sn}{XP:(Str->Option Value)->Heap->Prop}{D:World->Heap->Prop}{d:DefRec}
  (P:l.most=some n) (z:d.params.defaults=[])
  (call:∀(w:SI)(e b:Ss)(v x:Sl)(fa:Addr)(o:Obj)(y cd h:Value)(a:Addr) (i:Sv) (u:SS),
   Ground q c [] XP w e v x b.heap->D w b.heap->
   b.heap.get? fa=some o->o.data=.func (docDef d.name d.params d.body d.scope y cd h)->b.heap.CodeRec cd d.name->v d.name=some (.ref fa)->
   b.heap.get? a=some { cls:=.type "list",data:=.seq i.toArray }->IntsAre i u->u.length<=n->b.gens = #[]->
   codeAny (model l.prog w) callerA (.call (.ref fa) ⟨[.ref a],[]⟩) (λr s=>r=.ok (.ret (.bool true))/\OldK b.heap s.heap/\s.os=b.os/\AllBare s.gens) b):
  WalkO q c XP D l.row.toRowW d [] (λf i=>PySem.call f i):=by
 intro w e b v x G Y fa o y cd h O kV I J C hD A L args E T m F N B H;obtain rfl:O=.none:=Dflts.none hD z;obtain rfl:kV=.none:=Dflts.noKw hD;obtain⟨a,i,u,rfl,rfl,p,g,j⟩:=um P m B;refine enter_call (a1f (call w e b v x fa o y cd h a i u G Y I (fd_plain J) C A p g j L) λr s M=>?_);obtain⟨rfl,Q,R,S⟩:=M;exact⟨.inl ⟨.bool true,.bool true,[],rfl,λ_=>rfl,.bool true,uo l _,λ_=>⟨List.Pairwise.nil,λ_ K=>(nomatch K)⟩⟩,Q,R,S⟩
end Att
namespace L2
open PySem PySem.Spec PyProof.Rows
def gM:∀{a:Sv}{b:SS},IntsAre a b->Vals (b.map V.int) a
 |_,_,.nil=>.nil
 |_,_,.cons n t h=>.cons ⟨t,rfl⟩ (gM h)
def inClass(s:Tf)(j:Nat):Stmt:=match s with
 |.ClassDef _ _ _ a _ _ _ _ _ _ _=>a.getD j (.Pass ⟨0,0,0,0⟩)
 |_=>.Pass ⟨0,0,0,0⟩
def U6(s:Tf):Arguments:=match s with
 |.FunctionDef _ a _ _ _ _ _ _ _ _=>a
 |_=>{ posonlyargs:=[],args:=[],vararg:=none,kwonlyargs:=[],kw_defaults:=[],kwarg:=none,defaults:=[] }
def Zw(s:Tf):List Stmt:=match s with
 |.FunctionDef _ _ b _ _ _ _ _ _ _=>b
 |_=>[]
def zj(s:Tf):Scope:=match s with
 |.FunctionDef _ _ _ _ _ _ a _ _ _=>a
 |_=>{ kind:=.function,names:=[],isGenerator:=false,isCoroutine:=false }
abbrev E0:XK:=λ_ _ _=>False
structure Fun(K:Sz)(x qual:Str)(st:Tf)(f:Addr)(fd:SK):Prop where
 ex:∃(oc:Value)(od:Te)(kV doc pm:Value)(an:Te)(cdv ct:Value)(osl:SX),
  fd=PySem.W.fnOf x qual (U6 st) (Zw st) (zj st) .none kV doc pm an cdv ct/\K.lookup f=some ⟨oc,od,.func fd,osl⟩/\PySem.W.codeIn K cdv qual=true
 kp:PySem.W.keepIn K (.ref f)=true
section
variable {K:Sz}
def Fun.binds{x a:Str}{st:Tf}{f:Addr}{j:SK}{g:Sn}(F:Fun K x a st f j)
  (h:∀(kV c i:Value)(d:Te)(b ct:Value)(e:Sv),e.length=g.length->bindArgs (PySem.W.fnOf x a (U6 st) (Zw st) (zj st) .none kV c i d b ct) ⟨e,[]⟩=pure (g.zip e)):Binds K j g []:=by
 obtain⟨p,n,kV,c,i,d,b,ct,m,rfl,o,l⟩:=F.ex;exact .all (h kV c i d b ct)
def Ee{x a:Str}{st:Tf}{f:Addr}{i:Value}{od g:Te}{e:SX}{kV d h b ct:Value}(l:K.lookup f=some ⟨i,od,.func (PySem.W.fnOf x a (U6 st) (Zw st) (zj st) .none kV d h g b ct),e⟩)
  (c:PySem.W.codeIn K b a=true) (k:PySem.W.keepIn K (.ref f)=true):Fun K x a st f (PySem.W.fnOf x a (U6 st) (Zw st) (zj st) .none kV d h g b ct):=⟨⟨i,od,kV,d,h,g,b,ct,e,rfl,l,c⟩,k⟩
end
def qu(a:jJ k A):A.units+1<cLine:=a1g (a3i (by decide:1<=64) _) a.units
def pv(i:Nat)(d:X.N[i]?=some x:=by rfl)(c:Vis X.env.scope x:=by first|exact Or.inl rfl|exact Or.inr (Or.inl rfl)|exact Or.inr (Or.inr rfl))(b:(x==("__debug__":Str))=false:=by decide)
  (a:(x==("__classdict__":Str))=false:=by decide):PE X (.Name x pos) (rA i):=Ih d c b a
def FN{A B:Prop}(h:B):if false=true then A else B:=by rw[if_neg T7];exact h
def FO{A B:Prop}(h:A):if true=true then A else B:=by rw[if_pos rfl];exact h
def zA(H H':Hp):Prop:=∀b o,H b=some o->H' b=some o
def zA.refl(H:Hp):zA H H:=λ_ _ h=>h
def zA.trans(a:zA H H1)(b:zA H1 H2):zA H H2:=λc o h=>b c o (a c o h)
end L2
set_option maxHeartbeats 4000000
namespace L2
open PySem PySem.Spec PyProof.Rows PySem.W
def kZ:List Value:=[.type "ValueError",.type "Exception",.type "BaseException",.type "object"]
def gN:List Value->List Value
 |.ref _::r=>gN r
 |l=>l
structure QI(K:SV)(C:Addr):Prop where
 over:(clsIn K C).any (λcd=>gN cd.mro==kZ && !cd.mro.isEmpty&&cd.hasDict)=true
 sa:findIn K (.ref C) "__setattr__"=some (some (.builtin "object.__setattr__"))
 ga:findIn K (.ref C) "__getattribute__"=some (some (.builtin "BaseException.__getattribute__"))
 gn:findIn K (.ref C) "__getattr__"=some none
 ty:typeIn K (.ref C)=some (.type "type")
def Xh(a:Value):∀l:List Value,gN l=kZ->refuseLoop a "__setattr__" l=pure ()
 |[],e=>by cases e
 |.ref c::r,e=>by rw[refuseLoop_ref];exact Xh a r e
 |.type n::r,e=>by rw[show Value.type n::r=kZ from e];exact PySem.F.store_ValueError.passes a
 |.none::r,e=>by cases e
 |.bool _::r,e=>by cases e
 |.int _ _::r,e=>by cases e
 |.str _ _::r,e=>by cases e
 |.bytes _ _::r,e=>by cases e
 |.float _ _::r,e=>by cases e
 |.builtin _::r,e=>by cases e
 |.ellipsis::r,e=>by cases e
 |.notImplemented::r,e=>by cases e
def gO{x:String}(a:kZ.contains (.type x)=true):∀l:List Value,gN l=kZ->l.contains (.type x)=true
 |[],e=>by cases e
 |.ref c::r,e=>by rw[List.contains_cons,gO a r e,Bool.or_true]
 |.type n::r,e=>by rw[show Value.type n::r=kZ from e];exact a
 |.none::r,e=>by cases e
 |.bool _::r,e=>by cases e
 |.int _ _::r,e=>by cases e
 |.str _ _::r,e=>by cases e
 |.bytes _ _::r,e=>by cases e
 |.float _ _::r,e=>by cases e
 |.builtin _::r,e=>by cases e
 |.ellipsis::r,e=>by cases e
 |.notImplemented::r,e=>by cases e
def QI.cd{K:SV}{C:Addr}(c:QI K C):∃cd,clsIn K C=some cd/\gN cd.mro=kZ/\cd.mro.isEmpty=false/\cd.hasDict=true:=by obtain⟨cd,a,h⟩:=any_some c.over;simp only[Bool.and_eq_true,beq_iff_eq,Bool.not_eq_true']at h;exact⟨cd,a,h.1.1,h.1.2,h.2⟩
def QI.sub{K:SV}{C:Addr}(c:QI K C){x:String}(b:kZ.contains (.type x)=true):mroIn K C (.type x)=some true:=by obtain⟨cd,a,d,e,_⟩:=c.cd;unfold mroIn;rw[a,Option.bind_some,if_neg (by rw[e];decide),gO b _ d]
def qf(C:Addr)(od:Te)(t:Addr)(T:Value)(sl:SX):Obj:=⟨.ref C,od,.fields #[.ref t,T,.none,.none,.bool false,.none],sl⟩
section
variable {prog:SG}{w:SI}{A:SQ}{E:Sq}{s:Ss}{K:SV}{x dx C t:Addr}{T:Value}{sl:SX}{mA:Sl}{name:Str}{v:Value}{R:Result->Shared->Prop}
def oq(X:K.In s.heap)(c:QI K C)(I:InstAt s.heap x (qf C od t T sl) C oo)(u:takerIn K C name=some none)
  (h:∀b,wpAny (model prog w) A.in1 (Builtin.ObjectAttr.storeInOwnDict (.ref x) (.ref C) (.str name tk) name v b)
   (λj i=>match j with | .done f=>R (.ok f) i | .again l=>l.quiet=true/\codeAny (model prog w) A l R i) (λe i=>R (.error e) i) s):
  codeAny (model prog w) A (.call (.builtin "object.__setattr__") ⟨[.ref x,.str name tk,v],[]⟩) R s:=by
 have g:=PySem.F.store_object;obtain⟨cd,o,n,z,_⟩:=c.cd;have sub:Looks (model prog w) s.heap (isInstance (.ref x) (.type "object")) true:=I.type.andThen (a2k X (c.sub (x:="object") (by decide)));refine a1I g.slot.plain g.entry (@check_slot (model prog w) _ _ s "object.__setattr__" "object" "__setattr__" (.ref x) [.str name tk,v] [] _ g.kind g.split sub (g.args (.ref x) (.str name tk) v) ?_);obtain⟨d,y,r⟩:=a0d.mp u;have p:Looks (model prog w) s.heap (mroOf (.ref C)) cd.mro:=(a3z X o).andThen .now;have q:Looks (model prog w) s.heap (Builtin.ObjectAttr.storeTaker? d) none:=by
  cases d with
  |none=>exact .now
  |some a=>
   obtain⟨b,m,e⟩:=u8.mp r;refine(looks_takesIn X m).andThen ?_;cases b with
   |true=>cases e
   |false=>exact .now
 rw[osa_eq,refuse_eq];refine f8 (f8 (I.type.here (f8 (p.here ?_))));rw[Xh _ _ n];refine S8 (f8 (I.type.here (f8 ((a1P X y).here (f8 (q.here ?_))))));exact h _
def rM(X:K.In s.heap)(c:QI K C)(i:s.heap.get? x=some (qf C none t T sl))(G:takerIn K C name=some none)
  (h:∀f,f.get? x=some (qf C (some s.heap.objs.size) t T sl)->f.Ns1 s.heap.objs.size (λy=>if y=name then some v else none)->
   (∀b o,b≠x->s.heap.get? b=some o->f.get? b=some o)->Q () { s with heap:=f,toks:=s.toks+2 }):
  wpAny (model prog w) A (setAttr (.ref x) name v) Q E s:=by
 have I:InstAt s.heap x (qf C none t T sl) C none:=⟨i,rfl,rfl,trivial⟩;refine set_plain X I c.sa (oq (s:={ s with toks:=s.toks+1 }) X c I G λb=>?_);obtain⟨cd,z,_,_,B⟩:=c.cd;have a:x≠s.heap.objs.size:=a0e (T1 i);have g:(s.heap.push emptyDict).get? x=some (qf C none t T sl):=S5 _ i;refine f8 (S8 (f8 (f8 (a1F i (f8 (Looks.here (s:={ s with toks:=s.toks+1 }) (a3z X z) ?_))))));rw[B];refine f8 (wpAny_alloc' (f8 (wpAny_update' g (S8 ?_))));have l:((s.heap.push emptyDict).update x λo=>{ o with dict:=some s.heap.objs.size }).get? x=some (qf C (some s.heap.objs.size) t T sl):=a0R _ g rfl;have n:((s.heap.push emptyDict).update x λo=>{ o with dict:=some s.heap.objs.size }).get? s.heap.objs.size=some emptyDict:=(a2h _ _ _ _ a.symm).trans (Heap.get?_push_at rfl rfl);have j:((s.heap.push emptyDict).update x λo=>{ o with dict:=some s.heap.objs.size }).Ns s.heap.objs.size (λ_=>none):=⟨_,#[],_,n,rfl,λe D=>absurd D (by simp),λ_=>rfl⟩;refine f8 (S8 (f8 ?_));refine a3o (s:={ s with heap:=(s.heap.push emptyDict).update x λo=>{ o with dict:=some s.heap.objs.size },toks:=s.toks+1 }) (Heap.Ns1.of_empty j) λf d r=>?_;obtain⟨J,F,H,q,p,m⟩:=d.count (a2s name v PySem.Within.nil);refine f8 (a2B q (by rw[p];exact a2C (a0o m (by rw[S0,a2b,a0M];omega))) ?_);refine S8 (h _ ((r.2 _ a).trans l) d λb o u e=>?_);exact(r.2 _ (a0e (T1 e))).trans ((a2h _ _ _ _ u).trans (S5 _ e))
def uq(X:K.In s.heap)(c:QI K C)(m:s.heap.get? x=some (qf C (some dx) t T sl))(n:s.heap.Ns1 dx mA)(z:dx≠x)(B:takerIn K C name=some none)
  (q:PySem.Within mA ns) (hsz:ns.length<=sizeLine)
  (h:∀e,e.Ns1 dx (λy=>if y=name then some v else mA y)->Heap.SameBut dx s.heap e->Q () { s with heap:=e,toks:=s.toks+2 }):
  wpAny (model prog w) A (setAttr (.ref x) name v) Q E s:=by
 obtain⟨o,g,_⟩:=Vw n;have I:InstAt s.heap x (qf C (some dx) t T sl) C (some o):=⟨m,rfl,rfl,g⟩;refine set_plain X I c.sa (oq (s:={ s with toks:=s.toks+1 }) X c I B λb=>?_);obtain⟨cd,p,_,_,r⟩:=c.cd;refine f8 (S8 (f8 (f8 (a1F m (f8 (Looks.here (s:={ s with toks:=s.toks+1 }) (a3z X p) ?_))))));rw[r];refine S8 (a:=some dx) (f8 (S8 (f8 ?_)));refine a3o (s:={ s with toks:=s.toks+1 }) n λe d f=>?_;obtain⟨F,u,D,l,j,i⟩:=d.count (a2s name v q);refine f8 (a2B l (by rw[j];exact a2C (a0o i (by rw[S0];omega))) ?_);exact S8 (h _ d f)
def RM(X:K.In s.heap)(c:QI K C)(hx:s.heap.get? x=some (qf C (some dx) t T sl))(hn:s.heap.Ns1 dx mA)(ha:findIn K (.ref C) name=some none)
  (hv:mA name=some v) (hh:handedIn v=true) (h:Q v { s with toks:=s.toks+1 }):wpAny (model prog w) A (getAttr (.ref x) name expr) Q E s:=by
 obtain⟨od,hod,hl⟩:=Vw hn;have I:InstAt s.heap x (qf C (some dx) t T sl) C (some od):=⟨hx,rfl,rfl,hod⟩;obtain⟨cd,hc,ho,ne,hdct⟩:=c.cd;obtain⟨hp,g,d,tk,os⟩:=s;have L0:=I.type (M:=model prog w);have L1:=a1P (M:=model prog w) X c.ga;have L2:=a1P (M:=model prog w) X c.gn;have Lb:Looks (model prog w) hp (isInstance (.ref x) (.type "BaseException")) true:=L0.andThen (a2k X (c.sub (x:="BaseException") (by decide)));have L3:=looks_find (M:=model prog w) X I (findObj_own (by unfold hasDictIn;rw[hc];exact hdct) ha rfl (by rw[hl,hv]));have ga:=PySem.F.excAttr_ValueError.ga;have f3:=ga.bind (.ref x);unfold getAttr getAttrBy;refine f8 (a2E (a0H (f8 (L0.at (f8 (L1.at ?_))))));dsimp only;rw[show(onTheHeap (Value.ref C)&&Value.builtin "BaseException.__getattribute__"==Value.builtin "object.__getattribute__")=false from by
  rw[show(Value.builtin "BaseException.__getattribute__"==Value.builtin "object.__getattribute__")=false from by decide +kernel];rfl]
 show wpAny _ _ (getAttrByItsOwn _ _ _ _ _ _) _ _ _;unfold getAttrByItsOwn;refine f8 (show wpAny _ _ (typeLookup (.ref C) "__getattr__") _ _ _ from L2.at ?_);unfold callGetattribute boundAndCalled;rw[show(expr&&onTheHeap (Value.builtin "BaseException.__getattribute__"))=false from by cases expr<;>rfl];refine f8 (a1L (a0H ?_));show wpAny _ _ (bindSpecial _ _ >>= _) _ _ _;rw[f3];refine f8 (S8 (a1c (a1I ga.plain F.entry_bexc_ga ?_)));have hk:builtinKind "BaseException.__getattribute__"=some .slot:=by decide +kernel
 have hs:splitId "BaseException.__getattribute__"=some ("BaseException","__getattribute__"):=by decide +kernel
 refine @check_slot (model prog w) _ _ ⟨hp,g,d,tk+1,os⟩ "BaseException.__getattribute__" "BaseException" "__getattribute__" (.ref x) [.str name tk] [] _ hk hs Lb (F.args_bexc_ga (.ref x) (.str name tk)) ?_;unfold Builtin.«object.__getattribute__»
 repeat lk
 show wpAny _ _ (handedOut v) _ _ _;rw[handedOut_of hh];exact S8 h
end
def strKeys(es:Array DictEntry):Bool:=es.toList.all λe=>match e.key with | .str _ _=>true|_=>false
def gQ(K:SV):List Value->Bool
 |.ref a::r=>(match K.lookup a with
   |some ⟨_,_,.cls cd,_⟩=>(match K.lookup cd.ns with
     |some ⟨_,_,.dict b _,_⟩=>strKeys b&&(b.toList.all λe=>!e.key.isStr "__init__")
     |_=>false)
   |_=>false)&&gQ K r
 |l=>l==kZ
def rN{h:Heap}{N:Addr}{c:Value}{dd:Te}{es:Array DictEntry}{ep:Nat}{sl:SX}(e:h.get? N=some ⟨c,dd,.dict es ep,sl⟩)(k:strKeys es=true)
  (d:(es.toList.all λe=>!e.key.isStr "__init__")=true):∃m,h.Ns N m/\m "__init__"=none:=by
 refine⟨λn=>nsFind es n,⟨_,es,ep,e,rfl,λx a=>?_,λ_=>rfl⟩,?_⟩
 .have q:=a1o.mp k x (a3a.mpr a);split at q
  .rename_i n t b;exact⟨n,t,b⟩
  .cases q
 .show nsFind es "__init__"=none;unfold nsFind findBy;rw[<- a3n,List.find?_eq_none.mpr λx a=>by simpa using a1o.mp d x a];rfl
def ur{K:SV}{h:Heap}(X:K.In h):∀l:List Value,gQ K l=true->OwnTail h kZ l
 |.ref a::r,e=>by
  unfold gQ at e;obtain⟨b,i⟩:=a3b.mp e;split at b
  .rename_i c dd cd x s;split at b
   .rename_i v o w u j f;obtain⟨g,q⟩:=a3b.mp b;obtain⟨m,p,d⟩:=rN (X _ _ f) g q;exact .own (X _ _ s) p d (ur X r i)
   .cases b
  .cases b
 |[],e=>by cases e
 |.type n::r,e=>by rw[show Value.type n::r=kZ from a0t.mp e];exact .base
 |.none::r,e=>by rw[show Value.none::r=kZ from a0t.mp e];exact .base
 |.bool _::r,e=>by rw[a0t.mp e];exact .base
 |.int _ _::r,e=>by rw[a0t.mp e];exact .base
 |.str _ _::r,e=>by rw[a0t.mp e];exact .base
 |.bytes _ _::r,e=>by rw[a0t.mp e];exact .base
 |.float _ _::r,e=>by rw[a0t.mp e];exact .base
 |.builtin _::r,e=>by rw[a0t.mp e];exact .base
 |.ellipsis::r,e=>by rw[a0t.mp e];exact .base
 |.notImplemented::r,e=>by rw[a0t.mp e];exact .base
structure XMk(K:SV)(C f:Addr):Prop where
 cls:∃nm q N bs bm sn sub ab col dd k0 k1 k2 k3 k5,K.lookup C=some (excClassObj nm q C N bs bm true sn sub ab col dd k0 k1 k2 k3 k5 "ValueError.__new__")/\gQ K bm=true
 init:findIn K (.ref C) "__init__"=some (some (.ref f))
 fn:typeIn K (.ref f)=some (.type "function")
 kp:keepIn K (.ref C)=true
section
variable {prog:SG}{w:SI}{A:SQ}{E:Sq}{K:SV}{C f:Addr}{h:Heap}{g:Array GenState}{d:Drawn}{t:Nat}{os:OsState}
def Ef(rest:Sv):Obj:={ cls:=.type "tuple",data:=.seq rest.toArray }
def OB{rest:Sv}{Q:Sq}(M:XMk K C f)(X:K.In h)(hrest:rest.length<=sizeLine)
  (hq:codeAny (model prog w) (A.under (.builtin "type.__call__" ⟨.ref C::rest,[]⟩)) (.call (.ref f) ⟨.ref (h.objs.size+1)::rest,[]⟩) (λr s'=>match r with | .ok (.ret v)=>v=.none/\Q (.ref (h.objs.size+1)) s' | .ok _=>False | .error e=>E e s')
   ⟨(h.push (Ef rest)).push (qf C none h.objs.size .none #[]),g,d,t,os⟩):
  wpAny (model prog w) A (call (.ref C) rest) Q E ⟨h,g,d,t,os⟩:=by
 obtain⟨nm,q,N,bs,bm,sn,sub,ab,col,dd,k0,k1,k2,k3,k5,hK,hT⟩:=M.cls;have hC:=X _ _ hK;have T:=ur X _ hT;have F:=PySem.F.excBase_ValueError;have f1:=tc_lookup;have f2:=tc_bind (.ref C);have hTy:(⟨h,g,d,t,os⟩:Shared).TypeIs (.ref C) "type":=⟨_,hC,rfl⟩;refine a1c (codeAny_of_tree ?_);show wpAny _ _ (callAny (.ref C) _) _ _ _
 repeat(any_goals(first|assumption|with_reducible refine wpAny_loadPart_at hC ?_|wp_step))
 refine And.intro rfl (codeAny_call_builtin_at (a3t _ (by decide +kernel)) entry_typeCall (wpAny_check_type_call_sub hC ?_))
 repeat(first|with_reducible refine wpAny_loadPart_at hC ?_|with_reducible refine wpAny_madeBy_exc hC ?_|wp_step)
 refine codeAny_call_builtin_code (a3t _ F.quiet) (wpAny_check_new_subT F T hC (codeAny_exc_new_subT F T hC ?_ hrest));show wpAny _ _ _ _ _ ⟨(h.push (Ef rest)).push (qf C none h.objs.size .none #[]),g,d,t,os⟩;have kp:∀b o,h.get? b=some o->((h.push (Ef rest)).push (qf C none h.objs.size .none #[])).get? b=some o:=λb o e=>S5 _ (S5 _ e);have hx:((h.push (Ef rest)).push (qf C none h.objs.size .none #[])).get? (h.objs.size+1)=some (qf C none h.objs.size .none #[]):=by heap_get
 have X1:K.In ((h.push (Ef rest)).push (qf C none h.objs.size .none #[])):=X.keeps kp;have t1:Looks (model prog w) ((h.push (Ef rest)).push (qf C none h.objs.size .none #[])) (typeOf (.ref (h.objs.size+1))) (.ref C):=(Looks.ld hx).andThen .now;have s1:Looks (model prog w) ((h.push (Ef rest)).push (qf C none h.objs.size .none #[])) (isSubtype (.ref C) (.ref C)) true:=a2k X1 (by
  unfold mroIn clsIn;rw[hK];simp)
 have i1:=a1P (M:=model prog w) X1 M.init;have b1:=bind_fn (M:=model prog w) X1 (.ref (h.objs.size+1)) M.fn;unfold isInstance callSpecial? specialOf
 repeat(first|with_reducible refine a1c ?_|lk)
 refine a1f hq λr s' z=>?_;rcases r with e|(v|_|_|_)<;>first|exact z|exact z.elim|skip
 obtain⟨rfl,z⟩:=z;exact S8 (S8 z)
end
def XO(e C:Addr)(od:Te)(T:Value):HO:=.ext λh=>∃t a,h.get? e=some (qf C od t T a)
def XD(b:Addr)(fs:SW):HO:=.ext λh=>∃a,h.Ns1 b a/\(∀f,Xf (fs.lookup f) (a f))/\PySem.Within a (fs.map (·.1))/\fs.length<=1000
def XO.ok(x:h.get? e=some (qf C od t T sl)):qG P w H h e (XO e C od T):=
 ⟨⟨t,sl,x⟩,⟨_,x⟩,λ_ _ ⟨b,a,p⟩ k=>⟨b,a,k _ p⟩⟩
def XO.get(x:qG P w H h e (XO e C od T)):∃t a,h.get? e=some (qf C od t T a):=x.1
def XD.ok(n:h.Ns1 dx mA)(r:∀f,Xf (fs.lookup f) (mA f))(e:PySem.Within mA (fs.map (·.1)))(l:fs.length<=1000):qG P w H h dx (XD dx fs):=by refine⟨⟨mA,n,r,e,l⟩,?_,λg i ⟨m,⟨o,c,b,a,q⟩,d⟩ k=>⟨m,⟨o,c,b,k _ a,q⟩,d⟩⟩;obtain⟨o,c,b,a,_⟩:=n;exact⟨o,a⟩
def XD.get(x:qG P w H h dx (XD dx fs)):∃a,h.Ns1 dx a/\(∀f,Xf (fs.lookup f) (a f))/\PySem.Within a (fs.map (·.1))/\fs.length<=1000:=x.1
def Inv.FP(I:Inv X pins σ H s)(he:H e=some (XO e C od T))(ch:Tg)(d:∀b∈ch,X.s₀.heap.objs.size<=b/\H b=none/\b≠X.env.locals/\(∀x c,X.env.cells.lookup x=some c->c≠b)/\∀p∈X.pn++pins,p.1≠b)
  (keep:∀b o,b≠e->b∉ch->b∉frs X.stack->s.heap.get? b=some o->h'.get? b=some o)
  (l:∀b o,b∈frs X.stack->s.heap.get? b=some o->∃g,h'.get? b=some { o with slots:=g })
  (J:∃t g,h'.get? e=some (qf C od t T' g)):Inv X pins σ (upd H e (XO e C od T')) { s with heap:=h' }:=by
 have w:∀b,H b=none->b≠e:=λb n z=>by rw[z,he]at n;cases n
 have D:∀b o,H b=some o->b∉frs X.stack:=λb o q z=>by rw[I.dS b z]at q;cases q
 have E:∀b o,H b=some o->b∉ch:=λb o q z=>by rw[(d b z).2.1]at q;cases q
 obtain⟨M,N,i⟩:=J;have any:∀b o,b∉ch->b≠e->s.heap.get? b=some o->∃g,h'.get? b=some { o with slots:=g }:=λb o h B q=>by
  by_cases hf:b∈frs X.stack
  .exact l b o hf q
  .exact⟨o.slots,keep b o B h hf q⟩
 refine I.step (g':=s.gens) (d':=s.drawn) (t':=s.toks) (ch:=ch) (λb h=>⟨.inr (d b h).1,(d b h).2.2⟩) (λb o y h f q n=>keep b o (w b n) f (λz=>?_) q) (λb o _ _ f q n=>any b o f (w b n) q)
  (λb o _ _ n=>by rw[zi (w b n)];exact n) (λb o f q=>?_) (λb L q=>?_) (λb o u q=>?_) (λb P q=>⟨#[],?_⟩) (λm K=>?_) (λb u q=>?_) I.bare
 .rcases a0f.mp (I.cZ b z)with z|z
  .exact y z
  .exact h z
 .by_cases a:b=e
  .exact⟨_,a▸i⟩
  .obtain⟨g,A⟩:=any b o f a q;exact⟨_,A⟩
 .have:b≠e:=λz=>by rw[z,he]at q;cases q
  rw[zi this];exact q
 .have:b≠e:=λz=>by rw[z,he]at q;cases q
  rw[zi this];exact q
 .have:b≠e:=λz=>by rw[z,he]at q;cases q
  rw[zi this,q];simp
 .obtain⟨o,O,F,G,r⟩:=K;have y:H X.env.locals=none:=I.free;obtain⟨g,A⟩:=any _ o (λz=>(d _ z).2.2.1 rfl) (w _ y) G;exact⟨_,O,F,A,r⟩
 .by_cases a:b=e
  .subst a;rw[zg]at q;cases q;exact XO.ok i
  .rw[zi a]at q;refine(I.hok b u q).rn (λc v f r=>?_) (λc r=>?_) λc L r=>?_
   .rcases f with z|z
    .subst z;exact keep c v a (E c u q) (D c u q) r
    .have:c≠e:=λj=>by rw[j,he]at z;cases z
     exact keep c v this (E c _ z) (D c _ z) r
   .have:c≠e:=λj=>by rw[j,he]at r;cases r
    rw[zi this];exact r
   .have:c≠e:=λj=>by rw[j,he]at r;cases r
    rw[zi this];exact r
structure Tb(X:Cx)(pins:Sm)(H:Hp)(s:Ss)(Ta:Addr)(fl:Value):Prop where
 tbk:∃oT ts,s.heap.get? Ta=some oT/\oT.data=.fields ts/\ts[3]?=some fl
 new:X.s₀.heap.objs.size<=Ta
 free:H Ta=none
 pin:∀p∈X.pn++pins,p.1≠Ta
def Own(X:Cx):Prop:=X.stack=X.env::X.outer/\X.env.frame=some X.env.locals
def Tb.ok(I:Inv X pins σ H s)(b:Tb X pins H s Ta fl):Ta≠X.env.locals/\(∀x c,X.env.cells.lookup x=some c->c≠Ta)/\Ta∉frs X.stack:=by
 obtain⟨n,j,e,f,_⟩:=b.tbk;have g:Ta≠X.env.locals:=λz=>by obtain⟨m,⟨o,l,i,a,d,_⟩,_⟩:=I.loc;rw[z]at e;rw[e]at a;cases a;rw[f]at d;cases d
 refine⟨g,λx c q z=>?_,λz=>?_⟩
 .obtain⟨v,o,a,d⟩:=I.cell x c q;rw[z,e]at a;cases a;rw[f]at d;cases d
 .rcases a0f.mp (I.cZ _ z)with z|z
  .exact g z
  .obtain⟨_,o,a,h⟩:=I.lR.mem z;rw[e]at a;cases a;exact h _ f
def d3(I:Inv X pins σ H s)(he:H e=some (XO e C od (.ref Ta)))(b:Tb X pins H s Ta fl)
  (u:∀h,Inv X pins σ (upd H e (XO e C od (.ref Ta))) { s with heap:=h }->Tb X pins (upd H e (XO e C od (.ref Ta))) { s with heap:=h } Ta (f.elim .none λf=>rawInt f)->Q () { s with heap:=h }):
  wpAny M A (setFlight (.ref e) f) Q E s:=by
 obtain⟨t,v,j⟩:=XO.get (I.hok e _ he);obtain⟨w,y,l,i,r⟩:=id b.tbk;obtain⟨m,p,n⟩:=b.ok I;have g:Ta≠e:=λz=>by have:=b.free;rw[z,he]at this;cases this
 have sz:=(a1M.mp r).1;unfold setFlight;refine f8 (a2l j rfl (x:=.ref Ta) rfl ?_);rw[if_pos (show(Value.ref Ta != Value.none)=true from by simp)];refine a22 l i sz ?_;have d:∀c,c≠Ta->(s.heap.update Ta (Obj.mapFields (·.setIfInBounds 3 (f.elim .none λf=>rawInt f)))).get? c=s.heap.get? c:=λc a=>a0q _ _ (Ne.symm a);refine u _ (I.FP he [Ta] (λc a=>?_) (λc o _ a _ q=>(d c (by simpa using a)).trans q) (λc o a q=>⟨o.slots,(d c (λz=>n (z▸a))).trans q⟩) ⟨t,v,(d e (Ne.symm g)).trans j⟩) ⟨⟨_,_,Heap.get?_update_self _ l (Obj.isFreed_of_fields (Obj.data_mapFields i _)),Obj.data_mapFields i _,by simp[sz]⟩,b.new,by rw[zi g];exact b.free,b.pin⟩;obtain rfl:c=Ta:=by simpa using a
 exact⟨b.new,b.free,m,p,b.pin⟩
def B0(I:Inv X pins σ H s)(he:H e=some (XO e C od .none))(a:Q () s):wpAny M A (setFlight (.ref e) f) Q E s:=by obtain⟨t,c,b⟩:=XO.get (I.hok e _ he);unfold setFlight;refine f8 (a2l b rfl (x:=.none) rfl ?_);exact S8 a
def gR(b:Own X)(w:A.frames=some X.stack)(I:Inv X pins σ H s)(he:H e=some (XO e C od T))
  (F:∀u r,Inv X pins σ (upd H e (XO e C od (.ref u))) { s with heap:=r }->Tb X pins (upd H e (XO e C od (.ref u))) { s with heap:=r } u (rawInt X.env.locals)->Q () { s with heap:=r }):
  wpAny M A (do setField (.ref e) 1 (<- EntryCells.newEntry head (<- frameOf X.env) .none (rawInt X.env.locals) .none (<- entryPlaceOf X.env.locals hadNext))) Q E s:=by
 obtain⟨t,y,B⟩:=XO.get (I.hok e _ he);have l:=I.stack;rw[b.1]at l w;refine f8 (wpAny_frameOf_fun w l b.2 λf a=>?_);refine f8 (wpAny_entryPlaceOf λG i=>?_);unfold EntryCells.newEntry newFields;refine f8 (a1V ?_ (i.sizeOk5 _ _ _ _ _));have h:e∉frs (X.env::X.outer):=λz=>by have:=I.dS e (by rw[b.1];exact z);rw[he]at this;cases this
 have g:f.get? e=some (qf C od t T y):=(a.2.1 e h).trans B;have j:e≠f.objs.size:=a0e (T1 g);refine a22 (S5 _ g) rfl (by show 1<6;decide) ?_;have d:∀c o,c≠e->f.get? c=some o->∀x:Obj,((f.push x).update e (Obj.mapFields (·.setIfInBounds 1 (Value.ref f.objs.size)))).get? c=some o:=λc o m q x=>
  (a0q _ _ (Ne.symm m)).trans (S5 _ q)
 have n:H f.objs.size=none:=I.hok.fresh (a19 a.1.symm);refine F f.objs.size _ (I.FP he [] (λ_ z=>nomatch z) (λc o m _ hf q=>d c o m ((a.2.1 c (by rw[b.1]at hf;exact hf)).trans q) _) (λc o hf q=>?_) ⟨t,y,?_⟩) ⟨⟨_,_,(a0q _ _ j).trans (a0i _ rfl),rfl,?_⟩,?_,?_,λp hp z=>?_⟩
 .obtain⟨v,D⟩:=a.2.2 c o q;exact⟨v,d c _ (λz=>h (by rw[b.1]at hf;exact z▸hf)) D _⟩
 .exact a0R _ (S5 _ g) rfl
 .rcases i with rfl|⟨_,_,_,_,_,_,_,rfl⟩<;>simp
 .rw[a.1];exact I.sz
 .rw[zi (Ne.symm j)];exact n
 .have q:=(I.pin p hp).1;exact absurd (T1 q) (by rw[z,a.1];exact a0X _)
structure XIs(K:SV)(C:Addr):Prop where
 ha:findIn K (.ref C) "__class__"=some (some (.builtin "object.__class__"))
 hn:specialIn K (.builtin "object.__class__") "__get__"=some (some (.builtin "getset_descriptor.__get__"))
 htk:takesIn K (.builtin "object.__class__")=some true
section
variable {prog:SG}{w:SI}{A:SQ}{E:Sq}{s:Ss}{K:SV}{x C:Addr}{sl:SX}
def IU(X:K.In s.heap)(c:QI K C)(z:XIs K C)(I:InstAt s.heap x ox C (some od))
  (h:Q (some (.ref C)) { s with toks:=s.toks+1 }):wpAny (model prog w) A (getAttr? (.ref x) "__class__") Q E s:=by
 obtain⟨cd,hc,ho,ne,hdct⟩:=c.cd;have hm:=c.sub (x:="object") (by decide);obtain⟨hp,g,d,tk,os⟩:=s;have L0:=I.type (M:=model prog w);have L1:=a1P (M:=model prog w) X c.ga;have L2:=a1P (M:=model prog w) X c.gn;have Lb:Looks (model prog w) hp (isInstance (.ref x) (.type "BaseException")) true:=L0.andThen (a2k X (c.sub (x:="BaseException") (by decide)));have hf:findObj K C (some od) "__class__"=some (.bind (.builtin "getset_descriptor.__get__") (.builtin "object.__class__")):=findObj_data (by rw[hc];rfl) z.ha z.hn z.htk;have L3:=looks_find (M:=model prog w) X I hf;have ga:=PySem.F.excAttr_ValueError.ga;have f3:=ga.bind (.ref x);unfold getAttr? getAttrBy? getAttrBy;refine f8 (a2E (f8 (a1L (a0H (f8 (L0.at (f8 (L1.at ?_))))))));dsimp only;rw[show(onTheHeap (Value.ref C)&&Value.builtin "BaseException.__getattribute__"==Value.builtin "object.__getattribute__")=false from by
  rw[show(Value.builtin "BaseException.__getattribute__"==Value.builtin "object.__getattribute__")=false from by decide +kernel];rfl]
 show wpAny _ _ (getAttrByItsOwn _ _ _ _ _ _) _ _ _;unfold getAttrByItsOwn;refine f8 (show wpAny _ _ (typeLookup (.ref C) "__getattr__") _ _ _ from L2.at ?_);refine f8 (a1L (a0H ?_));show wpAny _ _ (bindSpecial _ _ >>= _) _ _ _;rw[f3];refine f8 (S8 (a1c (a1I ga.plain F.entry_bexc_ga ?_)));have hk:builtinKind "BaseException.__getattribute__"=some .slot:=by decide +kernel
 have hs:splitId "BaseException.__getattribute__"=some ("BaseException","__getattribute__"):=by decide +kernel
 refine @check_slot (model prog w) _ _ ⟨hp,g,d,tk+1,os⟩ "BaseException.__getattribute__" "BaseException" "__getattribute__" (.ref x) [.str "__class__" tk] [] _ hk hs Lb (F.args_bexc_ga (.ref x) (.str "__class__" tk)) ?_;unfold Builtin.«object.__getattribute__»
 repeat(first|with_reducible refine a1c ?_|lk)
 refine class_get (s:=⟨hp,g,d,tk+1,os⟩) (ox:=ox) (od:=some od) X I hm ?_;exact S8 (S8 (S8 h))
def B3{ox od:Obj}(c:QI K C)(z:XIs K C):KitX K (.ref x) (.ref C) (λh=>InstAt h x ox C (some od))where
 ty:=λ_ _ _ I=>I.type
 it:=λ_ _ X _=>by
  obtain⟨cd,a,_⟩:=c.cd;unfold clsIn at a;split at a
  .rename_i i j d e f;intro r m o p k q;unfold isType loadHead;exact f8 (a1F (k _ _ (X _ _ f)) (S8 q))
  .cases a
 ne:=λh g dd l n sl X b=>by
  obtain⟨cd,a,_⟩:=c.cd;refine Bool.eq_false_iff.mpr λq=>?_;obtain rfl:C=g:=Value.ref.inj (a0t.mp q);unfold clsIn at a;split at a
  .rename_i i j d e f;cases(X _ _ f).symm.trans b
  .cases a
 ca:=λX I k=>IU X c z I k
end
def d6(h:H a=some o):upd H a o=H:=by
 funext b;unfold upd;split
 .rename_i e;rw[e,h]
 .rfl
def XC(e C a:Addr):HO:=.ext λh=>∃t T b,h.get? e=some (qf C (some a) t T b)
def XC.ok(x:h.get? e=some (qf C (some dx) t T sl)):qG P w H h e (XC e C dx):=
 ⟨⟨t,T,sl,x⟩,⟨_,x⟩,λ_ _ ⟨c,b,a,p⟩ k=>⟨c,b,a,k _ p⟩⟩
def XC.get(x:qG P w H h e (XC e C dx)):∃t T a,h.get? e=some (qf C (some dx) t T a):=x.1
section
variable {X:Cx}{pins:Sm}{σ:St}{H:Hp}{s:Ss}{e C dx Ta:Addr}{od:Te}{T fl:Value}{M:Model}{A:SQ}{E:Sq}{Q:Unit->Shared->Prop}
def Inv.uu(I:Inv X pins σ H s)(he:H e=some (XO e C (some dx) T)):Inv X pins σ (upd H e (XC e C dx)) s:=by
 obtain⟨t,i,f⟩:=XO.get (I.hok e _ he);refine I.un (h':=s.heap) (t':=s.toks) ⟨λb o q _ _ _=>q,λb o q _ _ _=>⟨o.slots,q⟩,λb o _ n _=>?_,λb o q _=>⟨o,q⟩,λb g q=>?_,λb o u q=>?_,λb h q=>⟨#[],?_⟩⟩ λb u q=>?_
 .have:b≠e:=λz=>by rw[z,he]at n;cases n
  rw[zi this];exact n
 .have:b≠e:=λz=>by rw[z,he]at q;cases q
  rw[zi this];exact q
 .have:b≠e:=λz=>by rw[z,he]at q;cases q
  rw[zi this];exact q
 .have:b≠e:=λz=>by rw[z,he]at q;cases q
  rw[zi this,q];simp
 .by_cases d:b=e
  .subst d;rw[zg]at q;cases q;exact XC.ok f
  .rw[zi d]at q;refine(I.hok b u q).rn (λ_ _ _ r=>r) (λc r=>?_) λc g r=>?_
   .have:c≠e:=λa=>by rw[a,he]at r;cases r
    rw[zi this];exact r
   .have:c≠e:=λa=>by rw[a,he]at r;cases r
    rw[zi this];exact r
def Fl(X:Cx)(pins:Sm)(H:Hp)(s:Ss)(e C:Addr)(od:Te):Prop:=
 ∃T,H e=some (XO e C od T)/\(T=.none\/∃Ta fl,T=.ref Ta/\Tb X pins H s Ta fl/\(fl=.none\/∃n:Int,fl=rawInt n))
def d7(h:Own X)(r:A.frames=some X.stack)(I:Inv X pins σ H s)(f:Fl X pins H s e C od)
  (n:∀l i,Inv X pins σ (upd H e (XO e C od (.ref l))) { s with heap:=i }->Tb X pins (upd H e (XO e C od (.ref l))) { s with heap:=i } l (rawInt X.env.locals)->Q () { s with heap:=i }):
  wpAny M A (noteFrame (.ref e) X.env) Q E s:=by
 obtain⟨T,a,F⟩:=f;obtain⟨t,K,p⟩:=XO.get (I.hok e _ a);unfold noteFrame;simp only[h.2];refine f8 (a2l p rfl (x:=T) rfl ?_);rcases F with rfl|⟨Ta,fl,rfl,b,y⟩
 .rw[if_neg (by decide)];exact gR h r I a n
 .rw[if_pos (show(Value.ref Ta != Value.none)=true from by simp)];obtain⟨L,N,u,v,w⟩:=id b.tbk;refine f8 (a2l u v w ?_);by_cases j:¬(fl==rawInt X.env.locals)=true
  .rw[if_neg j];obtain⟨B,J,G⟩:=b.ok I;have m:Ta≠e:=λz=>by have:=b.free;rw[z,a]at this;cases this
   have sz:=(a1M.mp w).1;refine f8 (a22 u v sz ?_);have g:∀c,c≠Ta->(s.heap.update Ta (Obj.mapFields (·.setIfInBounds 3 .none))).get? c=s.heap.get? c:=λc d=>a0q _ _ (Ne.symm d);have D:Inv X pins σ H { s with heap:=s.heap.update Ta (Obj.mapFields (·.setIfInBounds 3 .none)) }:=by
    have:=I.FP (T':=.ref Ta) a [Ta] (h':=s.heap.update Ta (Obj.mapFields (·.setIfInBounds 3 .none))) (λc d=>by
     obtain rfl:c=Ta:=by simpa using d
     exact⟨b.new,b.free,B,J,b.pin⟩) (λc o _ d _ q=>(g c (by simpa using d)).trans q) (λc o d q=>⟨o.slots,(g c (λz=>G (z▸d))).trans q⟩) ⟨t,K,(g e (Ne.symm m)).trans p⟩
    rwa [d6 a]at this
   exact gR h r D a λl i=>n l i
  .have j:=Classical.not_not.mp j;rw[if_pos j];obtain rfl:fl=rawInt X.env.locals:=eq_of_beq j;refine S8 ?_;have:=n Ta s.heap (by rw[d6 a];exact I) (by rw[d6 a];exact b);exact this
end
def OC(X:Cx)(E:XK)(v:Value)(c:Ss):Prop:=∃d b e C a,v=.ref e/\Inv X.nox [] d b c/\Fl X.nox [] b c e C (some a)/\E (.ref e) (some a) (upd b e (XC e C a))
def CXe(P:SG)(w:SI):CXT:=λa H s E v c=>∃e C f d h g b,v=.ref e/\c.os=s.os/\AllBare c.gens/\Un (frs a) [] H b s.heap c.heap/\HOk P w b c.heap/\
 b e=some (XO e C (some f) (.ref d))/\c.heap.get? d=some h/\h.data=.fields g/\g[3]?=some .none/\b d=none/\s.heap.objs.size<=d/\E (.ref e) (some f) (upd b e (XC e C f))
abbrev thr(X:Cx)(E:XK):Cx:=X.gm (OC X E)
def Inv.thrown(I:Inv X pins σ H s)(h:CXe X.prog X.w X.stack H s E v s'):
  ∃a e C d,v=.ref e/\Inv X pins σ a s'/\Fl X pins a s' e C (some d)/\E (.ref e) (some d) (upd a e (XC e C d)):=by
 obtain⟨e,C,d,l,m,x,a,rfl,i,c,un,f,n,o,u,w,r,g,q⟩:=h;have j:Inv X pins σ a s':=I.Ig i un f c λb z=>absurd z (by simp);refine⟨a,e,C,d,rfl,j,⟨_,n,.inr ⟨l,_,rfl,⟨⟨m,x,o,u,w⟩,a0o I.sz g,r,λp hp z=>?_⟩,.inl rfl⟩⟩,q⟩;have:=T1 (I.pin p hp).1;rw[z]at this;exact absurd g (Nat.not_le.mpr this)
def Inv.ot(I:Inv X pins σ H s):Inv X [] σ H s:=I.UW λ_ h=>nomatch h
def Fl.ot(f:Fl X pins H s e C od):Fl X [] H s e C od:=by obtain⟨T,d,h⟩:=f;refine⟨T,d,h.imp id λ⟨g,a,c,b,i⟩=>⟨g,a,c,⟨b.tbk,b.new,b.free,λp hp=>b.pin p ?_⟩,i⟩⟩;rw[a0h]at hp;exact a1m _ hp
def Fl.gm(f:Fl X pins H s e C od):Fl (X.gm E) pins H s e C od:=by obtain⟨T,d,h⟩:=f;exact⟨T,d,h.imp id λ⟨g,a,c,b,i⟩=>⟨g,a,c,⟨b.tbk,b.new,b.free,b.pin⟩,i⟩⟩
def zI:Passes (CXe X.prog X.w) (thr X E) E:=λa b H s v i I h=>by obtain⟨g,e,C,c,rfl,d,f,q⟩:=Inv.thrown (X:=thr X E) I h;exact⟨b,g,e,C,c,rfl,(d.QJ.gm _).ot,(Fl.gm (X:=thr X E) f.ot),q⟩
def IV:Passes (CXe P w) X E0:=λa d H s v b I h=>by obtain⟨e,C,f,g,i,c,j,_,_,_,_,_,_,_,_,_,_,_,q⟩:=h;exact False.elim q
def zD(a:Own X):PassesOwn (TQ X) X.A X.env (OC X E):=λv o ⟨i,r,e,C,m,n,I,f,q⟩=>by
 subst n;have l:X.A.frames=some X.nox.stack:=I.ok.frames;refine d7 (X:=X.nox) a l I f λc p d b=>?_;obtain⟨t,u,j⟩:=XO.get (d.hok e _ zg);refine f8 (a2l j rfl (x:=.ref c) rfl ?_);rw[if_neg (show ¬((Value.ref c==Value.none)=true)from by simp)];refine d3 d zg b λs g h=>?_;rw[Yu]at g h;refine⟨i,_,e,C,m,rfl,g,⟨_,zg,.inr ⟨c,_,rfl,h,.inr ⟨(X.env.locals:Int),?_⟩⟩⟩,?_⟩
 .rw[a.2];rfl
 .rw[Yu];exact q
def Eg{P:SG}{w:SI}{K:SV}{mg:Sl}{c:Heap}{N:Sn}{d:Str}{a:Scope}{f:Addr}{cd:Value}{A:SQ}{outer:List Env}{s:Ss}{H:Hp}{E:XK}{v:Value}{j:Ss}
  (h:OC (dY (CXe P w) P w K mg c N d a f cd A outer s H E) E v j):(dY (CXe P w) P w K mg c N d a f cd A outer s H E).xe v j:=by
 obtain⟨D,G,e,C,u,B,I,p,q⟩:=h;subst B;have m:Own (dY (CXe P w) P w K mg c N d a f cd A outer s H E):=⟨rfl,rfl⟩;show wpAny (model P w) _ (leaving _ (.ref e)) _ _ j;unfold leaving;refine f8 (d7 (X:=(dY (CXe P w) P w K mg c N d a f cd A outer s H E).nox) m I.ok.frames I p λx F n b=>?_);refine d3 n zg b λJ g i=>?_;rw[Yu]at g i;obtain⟨o,z,r,l,y⟩:=i.tbk;exact⟨e,C,u,x,o,z,_,rfl,g.os,g.bare,g.base,g.hok,zg,r,l,y,i.free,i.new,by rw[Yu];exact q⟩
def PSs.IW{X:Cx}{E:Sq}{st:SY}{t:TS}(h:PSs (X.gm E) st t)(c:∀v s,E v s->X.xe v s):PSs X st t:=λa s d H D I b=>
 a0A (h a s d H D (I.gm E) b) (λ_ _ q=>q.QJ) c
section
variable {P:SG}{w:SI}{K:SV}{mg:Sl}{base:Heap}
def Fun.okX{x b:Str}{st:Tf}{f:Addr}{i:SK}{N e:Sn}{k:Nat}{sp:Sp}(F:Fun K x b st f i)(S:zr N e (zj st))(len:∀d H Q E,sp d H Q E->d.length=e.length)
  (j:∀(c:Value)(A:SQ)(a:List Env)(s:Ss)(H:Hp)(d:Sx)(Q:VK) (E:XK),jJ k (A.deeper (envOfC b (zj st) s.heap.objs.size f c))->sp d H Q E->
   ∃t,PSs (thr (dY (CXe P w) P w K mg base N b (zj st) f c A a s H E) E) (Zw st) t/\t { nx:=λ_ o=>Q .non o,rt:=Q } (start N d) H):qd P w K mg base (CXe P w) (k+1) f i e sp:=by
 obtain⟨z,r,kV,m,y,u,c,ct,l,rfl,p,g⟩:=F.ex;refine IB p g S len λA a s H d Q E n hsp=>?_;obtain⟨t,h,q⟩:=j c A a s H d Q E n hsp;exact⟨t,h.IW λv s h=>Eg h,q⟩
end
def IX(C:Addr)(sp:Sp)(E:XK)(t:TA):TE:=λc H Q=>t c H λb a=>b.length<=1000/\∀x,a x=none->sp (.ref x::b) (upd a x (XO x C none .none)) (λv d=>v=.non/\Q (.ref x) d) E
def Inv.OD(I:Inv X pins σ H s):
  Inv X pins σ (upd H (s.heap.objs.size+1) (XO (s.heap.objs.size+1) C none .none)) { s with heap:=(s.heap.push (Ef us)).push (qf C none s.heap.objs.size .none #[]) }:=
 I.laid (t':=s.toks) (λb u e=>S5 _ (S5 _ e)) (a03 _) (XO.ok (t:=s.heap.objs.size) (sl:=#[]) (by heap_get))
def uv(M:XMk X.K C f)(F:qd X.prog X.w X.K X.mg X.base CX k f fd ps sp)(A:jJ (k+1) X.A)(m:Binds X.K fd ps [])
  (o:Passes CX X E) (I:Inv X pins σ H s) (r:Vals vs us) (K:vs.length<=1000) (h:∀x,H x=none->sp (.ref x::vs) (upd H x (XO x C none .none)) (λv z=>v=.non/\Q (.ref x) z) E):
  wpAny (TQ X) X.A (call (.ref C) us) (EP X pins σ Q) X.xe s:=by
 have l:=h (s.heap.objs.size+1) (I.hok.fresh (a03 _));have b:=Inv.OD (C:=C) (us:=us) I;have i:Vals (V.ref (s.heap.objs.size+1)::vs) (Value.ref (s.heap.objs.size+1)::us):=.cons rfl r;have c:(Value.ref (s.heap.objs.size+1)::us++[]).length=ps.length:=by have e:=i.length;rw[F.len _ _ _ _ l]at e;rw[a0h];exact e.symm
 have j:=m _ (Value.ref (s.heap.objs.size+1)::us) b.kIn c;rw[a0h]at j;obtain⟨q,g,d,J,G⟩:=s;refine OB M I.kIn (by rw[<- r.length,a0M];omega) (a1f (F.run _ X.stack _ _ ⟨_::us,[]⟩ _ _ _ E (A.make C us []) (b.tK.make C us []) j i l) λr w a=>?_);cases r with
 |error e=>exact o pins σ _ _ e w b a
 |ok n=>
  cases n with
  |ret u=>obtain⟨v,B,D,p,ev,y⟩:=b.after a;subst ev;exact⟨p,⟨V.ref (q.objs.size+1),B,D,rfl,y⟩⟩
  |next=>exact False.elim a
  |brk=>exact False.elim a
  |cont=>exact False.elim a
def B4(M:XMk X.K C f)(F:qd X.prog X.w X.K X.mg X.base CX k f fd ps sp)(m:jJ (k+1) X.A)(l:Gl X x)(j:X.mg x=some (.ref C))(d:Binds X.K fd ps [])(i:Passes CX X E)
  (n:PA X (e::es) t) (b:(x==("__debug__":Str))=false:=by decide) (he:starEach (e::es) X.env=(false,eval e X.env)::starEach es X.env:=by rfl) (hpl:(backTo pos (starEach es X.env)).any (·.1)=false:=by rfl):
  PE X (.Call (.Name x p) (e::es) [] pos) (IX C sp E t):=by
 intro a s g H Q I h;refine a0S (WC I l j ?_ b);refine a1y (h₀:=X.base) I.ok.mod.kin M.kp (thn (n pos a s g H _ I h) λy u ⟨v,w,c,r,o,q⟩=>⟨c.kIn,?_⟩) he hpl;exact uv M F m d i c r o q
def OE(K:SV)(g h:TE)(f:Str):TS:=λD c H=>h c H λy d=>g c d λx b=>∃e C T,x=.ref e/\QI K C/\takerIn K C f=some none/\
  ((b e=some (XO e C none T)/\∀a,b a=none->D.nx c (upd (upd b a (XD a [(f,y)])) e (XO e C (some a) T)))\/
   (∃a fs,b e=some (XO e C (some a) T)/\b a=some (XD a fs)/\a≠e/\fs.length<1000/\D.nx c (upd b a (XD a (Vx f y fs)))))
def OF(K:SV)(c:TE)(f:Str):TE:=λd H Q=>c d H λx a=>∃e C b fs v,x=.ref e/\QI K C/\findIn K (.ref C) f=some none/\(a e=some (XC e C b)\/∃T,a e=some (XO e C (some b) T))/\a b=some (XD b fs)/\fs.lookup f=some v/\Q v a
section
variable {X:Cx}{o value:Sy}{f:Str}{pos pos':Pos}{ta tv:TE}
def k7(ha:PE X o ta)(hv:PE X value tv)(Z:swapsWith value (some (.Attribute o f pos')) pos.line X.env=pure false):PS X (.Assign [.Attribute o f pos'] value pos) (OE X.K ta tv f):=by
 intro p s G H D I h;refine a18 (thn (hv p s G H _ I h) λu Y ⟨y,H1,I1,S,q⟩=>thn (ha p Y G H1 _ I1 q) λov w ⟨x,Q,i,rx,e,C,T,ex,c,R,E⟩=>?_) Z;subst ex;obtain rfl:ov=Value.ref e:=rx;rcases E with⟨a,E⟩|⟨M,fs,a,P,ne,l,E⟩
 .obtain⟨t,sl,K⟩:=XO.get (i.hok e _ a);have hne:w.heap.objs.size≠e:=a1e (T1 K);have B:Q w.heap.objs.size=none:=i.hok.fresh (S7 _);refine rM i.kIn c K R λL A j J=>⟨G,_,?_,E _ B⟩;have lt:∀b o,w.heap.get? b=some o->b≠w.heap.objs.size:=λb o q=>a0e (T1 q);have d:∀b o,Q b=some o->b≠w.heap.objs.size:=λb o q z=>by rw[z,B]at q;cases q
  refine i.un (h':=L) (t':=w.toks+2) ⟨λb o q n _ _=>J b o (λz=>by rw[z,a]at n;cases n) q,λb o q n _ _=>⟨o.slots,J b o (λz=>by rw[z,a]at n;cases n) q⟩,λb o q n _=>?_,λb o q _=>?_,λb xs q=>?_,λb o u q=>?_,λb ps q=>⟨#[],?_⟩⟩ λb ob q=>?_
  .rw[zi (λz=>by rw[z,a]at n;cases n),zi (lt b o q)];exact n
  .by_cases m:b=e
   .exact⟨_,m▸A⟩
   .exact⟨o,J b o m q⟩
  .rw[zi (λz=>by rw[z,a]at q;cases q),zi (d b _ q)];exact q
  .rw[zi (λz=>by rw[z,a]at q;cases q),zi (d b _ q)];exact q
  .rw[zi (λz=>by rw[z,a]at q;cases q),zi (d b _ q),q];simp
  .by_cases m:b=e
   .subst m;rw[zg]at q;cases q;exact XO.ok A
   .rw[zi m]at q;by_cases F:b=w.heap.objs.size
    .subst F;rw[zg]at q;cases q;refine XD.ok j (λg=>?_) (λg N=>?_) (by show 1<=1000;decide)
     .show Xf (List.lookup g [(f,y)]) (if g=f then some u else none);by_cases z:g=f
      .subst z;rw[if_pos rfl];simp only[List.lookup,beq_self_eq_true];exact S
      .rw[if_neg z];simp only[List.lookup,beq_eq_false_iff_ne.mpr z];exact True.intro
     .by_cases z:g=f
      .subst z;exact a0j.mpr rfl
      .exact absurd (if_neg z) N
    .rw[zi F]at q;refine(i.hok b ob q).rn (λc v hc r=>J c v ?_ r) (λc r=>?_) λc xs r=>?_
     .rcases hc with z|z
      .rw[z];exact m
      .intro z2;rw[z2,a]at z;cases z
     .rw[zi (λz=>by rw[z,a]at r;cases r),zi (d c _ r)];exact r
     .rw[zi (λz=>by rw[z,a]at r;cases r),zi (d c _ r)];exact r
 .obtain⟨t,sl,K⟩:=XO.get (i.hok e _ a);obtain⟨U,hn,r,W,l1⟩:=XD.get (i.hok M _ P);refine uq i.kIn c K hn ne R W (by rw[v4,a0M];omega) λL j sb=>⟨G,_,?_,E⟩;have O:∃u,L.get? M=some u:=let⟨o,_,_,e',_⟩:=j;⟨o,e'⟩
  refine i.write (x:=M) (e:=M) (t':=w.toks+2) (by rw[P];exact True.intro) (.inl rfl) (λb u m z=>(sb.2 b m).trans z) O (XD.ok j (λg=>?_) (λg N=>?_) ?_)
  .show Xf ((Vx f y fs).lookup g) (if g=f then some u else U g);rw[K8];by_cases q:g=f
   .rw[if_pos q,if_pos q];exact S
   .rw[if_neg q,if_neg q];exact r g
  .by_cases q:g=f
   .rw[q];exact(QL f y fs).1
   .refine(QL f y fs).2 g (W g λz=>N ?_);show(if g=f then some u else U g)=none;rw[if_neg q];exact z
  .have:=K9 f y fs;omega
def IY(I:Inv X pins σ H s)(he:H e=some (XC e C dx)\/∃T,H e=some (XO e C (some dx) T)):∃t T a,s.heap.get? e=some (qf C (some dx) t T a):=by
 rcases he with he|⟨T,he⟩
 .exact XC.get (I.hok e _ he)
 .obtain⟨t,a,h⟩:=XO.get (I.hok e _ he);exact⟨t,T,a,h⟩
def FQ(he:PE X e ta)(i:attributeBase e f X.env (eval e X.env)=eval e X.env):PE X (.Attribute e f pos) (OF X.K ta f):=by intro b s w H Q I h;refine ub i (thn (he b s w H _ I h) λu G ⟨x,y,d,p,a,C,B,fs,v,A,c,n,m,D,l,q⟩=>?_);subst A;obtain rfl:u=Value.ref a:=p;obtain⟨t,T,J,z⟩:=IY d m;obtain⟨E,F,r,_,_⟩:=XD.get (d.hok B _ D);obtain⟨u,j,g⟩:=Xf.some_of (v:=v) (o:=E f) (by rw[<- l];exact r f);exact RM d.kIn c z F n j (gz g) ⟨v,y,d.tok _,g,q⟩
def IZ(K:SV)(E:XK)(te:TE):TS:=λ_ c H=>te c H λv b=>∃e C a,v=.ref e/\QI K C/\b e=some (XO e C (some a) .none)/\E (.ref e) (some a) (upd b e (XC e C a))
def B5(y:X.calm=true)(he:PE (thr X E) e te):PS (thr X E) (.Raise (some e) none pos) (IZ X.K E te):=by
 intro g s m H D I h;rw[arm_exec_Raise];refine f8 (a1v ?_);show wpAny _ _ (raiseStmt X.env (some (do let v<-eval e X.env;standAt pos;pure v)) none) _ _ s;unfold raiseStmt;refine f8 (f8 (thn (he g s m H _ I h) λu b ⟨v,p,d,w,a,C,z,ev,c,i,q⟩=>f8 (a1v (S8 ?_))));subst ev;obtain rfl:u=Value.ref a:=w;obtain⟨t,M,n⟩:=XO.get (d.hok a _ i);obtain⟨cd,F,_⟩:=c.cd;have l:Looks (TQ X) b.heap (typeOf (.ref a)) (.ref C):=(Looks.ld n).andThen .now;have A:Looks (TQ X) b.heap (isSubtype (.ref C) (.type "BaseException")) true:=a2k d.kIn (c.sub (x:="BaseException") (by decide));have LI:Looks (TQ X) b.heap (isInstance (.ref a) (.type "BaseException")) true:=l.andThen A;have j:(thr X E).xe (.ref a) b:=⟨m,p,a,C,z,rfl,(d.QJ.gm _).ot,⟨.none,i,.inl rfl⟩,q⟩;have r:(thr X E).A.handled=none:=d.ok.hd y;have LT:Looks (TQ X) b.heap (isType (.ref a)) false:=by intro L G K J k q;unfold isType loadHead;exact f8 (a1F (k _ _ n) (S8 q))
 have LE:Looks (TQ X) b.heap (isExcClass (.ref a)) false:=LT.andThen .now;refine f8 (S8 ?_);dsimp only;refine f8 (a0H ?_);unfold excFromValue;refine f8 (LE.here ?_);simp only[Bool.false_eq_true,if_false];refine f8 (LI.here ?_);simp only[if_true];refine S8 (f8 (LT.here ?_));simp only[Bool.false_eq_true,if_false];have LC:Looks (TQ X) b.heap (typeOf (.ref C)) (.type "type"):=looks_typeIn d.kIn c.ty;have B:Looks (TQ X) b.heap (raisedInstance (.ref a)) (.ref a):=by unfold raisedInstance;refine l.andThen (LC.andThen ?_);rw[if_pos (by simp)];exact .now
 refine f8 (B.here (f8 (B0 d i ?_)));exact wpAny_raiseNew_none r j
end
def TyX(K:SV)(H:Hp)(x:V)(t:Value):Prop:=tJ K H x t\/
 ∃e C a fs,x=.ref e/\t=.ref C/\QI K C/\XIs K C/\(H e=some (XC e C a)\/∃T,H e=some (XO e C (some a) T))/\H a=some (XD a fs)
def OG:V->Option Value
 |.ref a=>some (.ref a)
 |.ty n=>some (.type n)
 |_=>none
def B6(r:RelV c u)(e:OG c=some v):u=v:=by
 cases c with
 |ref a=>cases e;exact r
 |ty n=>cases e;exact r
 |_=>cases e
def l7(I:Inv X pins σ H s)(rx:RelV x u)(ty:TyX X.K H x t):∃P,KitX X.K u t P/\P s.heap/\u≠.builtin "__main__.__loader__#opaque":=by
 rcases ty with ty|⟨e,C,dx,fs,rfl,rfl,c,z,he,hd⟩
 .cases ty with
  |non=>cases(show u=Value.none from rx);exact⟨_,kitx_none,True.intro,λz=>nomatch z⟩
  |bl y=>cases(show u=Value.bool y from rx);exact⟨_,kitx_bool,True.intro,λz=>nomatch z⟩
  |int i=>obtain⟨t,q⟩:=(show ∃t,u=Value.int i t from rx);cases q;exact⟨_,kitx_int,True.intro,λz=>nomatch z⟩
  |str y=>obtain⟨t,q⟩:=(show ∃t,u=Value.str y t from rx);cases q;exact⟨_,kitx_str,True.intro,λz=>nomatch z⟩
  |flt y=>obtain⟨t,q⟩:=(show ∃t,u=Value.float y t from rx);cases q;exact⟨_,kitx_float,True.intro,λz=>nomatch z⟩
  |@lst a xs ea=>cases(show u=Value.ref a from rx);obtain⟨_,_,n,_,h1⟩:=(show qG X.prog X.w H s.heap a (.lst xs)from I.hok a _ ea);exact⟨_,kitx_list,⟨_,h1,rfl⟩,λz=>nomatch z⟩
  |@frz a ob xs ea=>cases(show u=Value.ref a from rx);obtain⟨_,_,_,n,_,h1⟩:=(show qG X.prog X.w H s.heap a (.frz ob (.lst xs))from I.hok a _ ea);exact⟨_,kitx_list,⟨_,h1,rfl⟩,λz=>nomatch z⟩
  |@tup a xs ea=>cases(show u=Value.ref a from rx);obtain⟨_,_,_,p⟩:=(show qG X.prog X.w H s.heap a (.tup xs)from I.hok a _ ea);obtain⟨o,h1,h2,_⟩:=p;exact⟨_,kitx_tuple,⟨o,h1,h2⟩,λz=>nomatch z⟩
  |@dK a kvs ea=>cases(show u=Value.ref a from rx);obtain⟨_,_,vs,_,p⟩:=(show qG X.prog X.w H s.heap a (.dK kvs)from I.hok a _ ea);obtain⟨o,es,ep,h1,h2,_⟩:=p;exact⟨_,kitx_dict,⟨o,h1,h2.1⟩,λz=>nomatch z⟩
  |@dT a kvs ea=>cases(show u=Value.ref a from rx);obtain⟨_,_,xs,_,o,es,ep,h1,h2,_⟩:=(show qG X.prog X.w H s.heap a (.dT kvs)from I.hok a _ ea);exact⟨_,kitx_dict,⟨o,h1,h2.1⟩,λz=>nomatch z⟩
  |@ins a C dx fs ea cl ha hn htk hm=>cases(show u=Value.ref a from rx);obtain⟨mA,O,_⟩:=dX I.hok ea;obtain⟨od,J,_⟩:=O.look;exact⟨_,kitx_own (cl.get _) cl.hd ha hn htk hm,J,λz=>nomatch z⟩
 .cases(show u=Value.ref e from rx);obtain⟨t,T,sl,hx⟩:=IY I he;obtain⟨mA,hn,_⟩:=XD.get (I.hok dx _ hd);obtain⟨od,hod,_⟩:=Vw hn;exact⟨_,B3 c z,⟨hx,rfl,rfl,hod⟩,λz=>nomatch z⟩
def XP(X:Cx)(pins:Sm)(σ:St)(Z:XK)(v:Value)(c:Ss):Prop:=∃b e C a,v=.ref e/\Inv X pins σ b c/\Fl X pins b c e C (some a)/\Z (.ref e) (some a) (upd b e (XC e C a))
abbrev TEx:=St->Hp->VK->XK->Prop
abbrev TSx:=Ends->XK->St->Hp->Prop
def PEx(X:Cx)(e:Sy)(t:TEx):Prop:=
 ∀(a:Sm)(s:Ss)(b:St)(H:Hp)(Q:VK)(Z:XK),Inv X a b H s->t b H Q Z->wpAny (TQ X) X.A (eval e X.env) (EP X a b Q) (XP X a b Z) s
def PSx(X:Cx)(st:Tf)(t:TSx):Prop:=
 ∀(a:Sm)(s:Ss)(b:St)(H:Hp)(D:Ends)(Z:XK),Inv X a b H s->t D Z b H->wpAny (TQ X) X.A (exec st X.env) (SP X a D) (XP X a b Z) s
def OH(X:Cx)(st:SY)(t:TSx):Prop:=
 ∀(a:Sm)(s:Ss)(b:St)(H:Hp)(D:Ends)(Z:XK),Inv X a b H s->t D Z b H->wpAny (TQ X) X.A (execs st X.env) (SP X a D) (XP X a b Z) s
def FR(F:qd X.prog X.w X.K X.mg X.base (CXe X.prog X.w) k f fd ps sp)(i:jJ k X.A)(c:Binds X.K fd ps [])
  (I:Inv X pins σ H s) (r:Vals vs us) (h:sp vs H Q Z):wpAny (TQ X) X.A (call (.ref f) us) (EP X pins σ Q) (XP X pins σ Z) s:=by
 have g:(us++[]).length=ps.length:=by rw[a0h,<- r.length];exact F.len _ _ _ _ h
 have b:=c s us I.kIn g;rw[a0h]at b;refine a1c (a1f (F.run X.A X.stack s H ⟨us,[]⟩ us vs Q Z i I.tK b r h) λr j a=>?_);cases r with
 |error e=>exact I.thrown a
 |ok d=>
  cases d with
  |ret u=>exact I.after a
  |next=>exact False.elim a
  |brk=>exact False.elim a
  |cont=>exact False.elim a
def PA.nox(h:PA X.nox es t)(a:Pos)(I:Inv X pins σ H s)(c:t σ H Q):
  wpAny (TQ X) X.A (spliced (backTo a (starEach es X.env))) (AP X pins σ Q) E s:=
 a0A (h a pins s σ H Q (I.gm _) c) (λ_ _ ⟨e,d,b,r,q⟩=>⟨e,d,b.QJ,r,q⟩) λ_ _ z=>False.elim z
def B7(F:qd X.prog X.w X.K X.mg X.base (CXe X.prog X.w) k f fd ps sp)(o:jJ k X.A)(n:Gl X x)(m:X.mg x=some (.ref f))(l:keepIn X.K (.ref f)=true)(j:Binds X.K fd ps [])
  (u:PA X.nox (e::es) t) (a:(x==("__debug__":Str))=false:=by decide) (he:starEach (e::es) X.env=(false,eval e X.env)::starEach es X.env:=by rfl) (hpl:(backTo pos (starEach es X.env)).any (·.1)=false:=by rfl):
  PEx X (.Call (.Name x p) (e::es) [] pos) (λb H Q Z=>t b H λc g=>sp c g Q Z):=by
 intro d s b H Q Z I h;refine a0S (WC I n m ?_ a);refine a1y (h₀:=X.base) I.ok.mod.kin l (thn (PA.nox u pos I h) λw v ⟨c,g,i,r,q⟩=>⟨i.kIn,?_⟩) he hpl;exact FR F o j i r q
def FT(m:X.N.Nodup)(g:X.N[i]?=some x)(j:Loc X.env.scope x)(he:PEx X e tx)(d:swapsWith e (some (.Name x pos')) pos.line X.env=pure false:=by rfl)(hf:X.fn x=true\/X.env.scope.names.lookup x=some .local:=by first|exact .inl rfl|exact .inr rfl|assumption):
  PSx X (.Assign [.Name x pos'] e pos) (λD Z b H=>tx b H (λv c=>D.nx (b.set i (some v)) c) Z):=by
 intro a s b H D Z I h;refine wpAny_Assign_Name (thn (he a s b H _ Z I h) λv p ⟨y,c,o,l,n⟩=>?_) d;exact Ux o m g j l (λq f=>⟨_,c,f,n⟩) hf
def B8{st:Tf}{t:TSx}(b:PSx X st t):OH X [st] t:=by
 intro a s c H D Z I h;refine a2A (thn (b a s c H D Z I h) λf d q=>?_);cases f with
 |next=>exact a1x q
 |ret v=>exact q
 |brk=>exact q
 |cont=>exact q
abbrev Cx.held(X:Cx)(v:Value):Cx:={ X with A:=X.A.mark (some v),calm:=false,xe:=λ_ _=>False }
def Inv.held(I:Inv X pins σ H s)(v:Value):Inv (X.held v) pins σ H s:=
 ⟨⟨I.ok.mod,I.ok.kind,I.ok.glob,I.ok.blt,I.ok.above,I.ok.inj,I.ok.has,I.ok.cab,λz=>Bool.noConfusion z,I.ok.frames,I.ok.stk,I.ok.exf,I.ok.bs,I.ok.bsz,I.ok.HZ,I.ok.H_,I.ok.lR,I.ok.frf⟩,I.os,I.bare,I.base,I.loc,I.cell,I.free,I.W9,I.pin,I.hok,I.len⟩
def Inv.I0(I:Inv (X.held v) pins σ H s)(ok:X.Ok):Inv X pins σ H s:=
 ⟨ok,I.os,I.bare,I.base,I.loc,I.cell,I.free,I.W9,I.pin,I.hok,I.len⟩
def Inv.blank(I:Inv X pins σ H s)(E:h'.Ns X.env.locals m')(f:Heap.SameBut X.env.locals s.heap h'):Inv X pins (List.replicate X.N.length none) H { s with heap:=h',toks:=t' }:=by
 have l:∀b o,X.s₀.heap.get? b=some o->b≠X.env.locals:=λb o e=>a0e (T8 (T1 e) I.ok.above);have g:∀b o,H b=some o->b≠X.env.locals:=λb o q z=>by rw[z,I.free]at q;cases q
 refine⟨I.ok,I.os,I.bare,⟨λb o e n h a=>(f.2 b (l b o e)).trans (I.base.keep b o e n h a),λb o e n h a=>?_,λb o e n a=>I.base.free b o e n a,λb o e a=>?_,I.base.tN,I.base.BA,I.base.BB⟩,⟨m',E,λi x v _ j _=>?_⟩,λx c e=>?_,I.free,I.W9,λp hp=>?_,λb u e=>?_,by simp⟩
 .obtain⟨F,q⟩:=I.base.slot b o e n h a;exact⟨F,(f.2 b (l b o e)).trans q⟩
 .obtain⟨y,q⟩:=I.base.there b o e a;exact⟨y,(f.2 b (l b o e)).trans q⟩
 .rw[a07]at j;split at j<;>cases j
 .obtain⟨v,o,A,D⟩:=I.cell x c e;exact⟨v,o,(f.2 c (I.cne x c e)).trans A,D⟩
 .obtain⟨e,n,m,C,d⟩:=I.pin p hp;exact⟨(f.2 p.1 m).trans e,n,m,C,d⟩
 .refine(I.hok b u e).rn (λc w B r=>(f.2 c ?_).trans r) (λ_ r=>r) λ_ _ r=>r;rcases B with z|z
  .rw[z];exact g b u e
  .exact g c _ z
def name_goes(I:Inv X pins σ H s)(e:X.env.kindOf n=some .local)
  (f:∀b,Inv X pins (List.replicate X.N.length none) H b->Q () b):wpAny M A (do bindName X.env n .none;unbindBehindTheSuite X.env n pos) Q E s:=by
 obtain⟨m,d,_⟩:=id I.loc;exact wpAny_nameGoes e d (by rw[I.ok.kind];rfl) λg h a c=>f _ (I.blank a c)
structure Catch(K:SV)(C F:Addr)(b:Bool):Prop where
 ty:typeIn K (.ref F)=some (.type "type")
 cl:(clsIn K F).isSome=true
 ex:subIn K (.ref F) (.type "BaseException")=some true
 su:subIn K (.ref C) (.ref F)=some b
def l8{K:SV}{M:Model}{h:Heap}{e C F:Addr}{b:Bool}{o:Obj}(X:K.In h)(he:h.get? e=some o)(n:o.cls=.ref C)(k:Catch K C F b):Looks M h (excMatches (.ref e) (.ref F)) b:=by
 have c:Looks M h (typeOf (.ref e)) (.ref C):=n▸(Looks.ld he).andThen .now;have j:Looks M h (typeOf (.ref F)) (.type "type"):=looks_typeIn X k.ty;have l:Looks M h (isInstance (.ref F) (.type "tuple")) false:=j.andThen (Looks.of_pure tc_notTuple);have m:Looks M h (isType (.ref F)) true:=by
  have a:=k.cl;unfold clsIn at a;split at a
  .rename_i x J p r u;intro H w G D kk q;unfold isType loadHead;exact f8 (a1F (kk _ _ (X _ _ u)) (S8 q))
  .cases a
 have i:Looks M h (isExcClass (.ref F)) true:=m.andThen (looks_subIn X k.ex);have f:=looks_subIn (M:=M) X k.su;intro A Q E s kk q;obtain⟨hp,g,d,I,v⟩:=s;have B:=c.keeps kk;have M2:=l.keeps kk;have z:=i.keeps kk;have y:=f.keeps kk;clear c j l m i f;unfold excMatches;cases b with
 |true=>(repeat lk);exact q
 |false=>(repeat lk);exact q
def RN(K:SV)(F:Addr)(d:TSx)(i:Nat)(ts:Addr->TS):TS:=λD a H=>
 d D (λv o c=>∃e C b,v=.ref e/\o=some b/\c e=some (XC e C b)/\Catch K C F true/\ts e { nx:=λ_ _=>False,rt:=D.rt } (a.set i (some (.ref e))) c) a H
def I_(l:Own X)(A:OH X body tb)(hg:Gl X cx)(hm:X.mg cx=some (.ref F))
  (hN:X.N.Nodup) (O:X.N[i]?=some n) (Z:Loc X.env.scope n) (hl:X.env.kindOf n=some .local) (G:∀e,PSs (X.held (.ref e)) (b::suite) (ts e))
  (j:(cx==("__debug__":Str))=false:=by decide) (hf:X.fn n=true\/X.env.scope.names.lookup n=some .local:=by first|exact .inl rfl|exact .inr rfl|assumption):
  PS X (.Try body [.ExceptHandler (some (.Name cx np)) (some n) (b::suite) hp] [] [] pos) (RN X.K F tb i ts):=by
 intro a s p H D I h;refine wpAny_Try_except (a0A (A a s p H D _ I h) (λf m q=>?_) λv m q=>?_)
 .cases f with
  |next=>exact a1x q
  |ret u=>exact q
  |brk=>exact q
  |cont=>exact q
 .obtain⟨H',e,C,dx,rfl,w,R,e',Y,S,ee,ed,N,P,q⟩:=q;cases ee;cases ed;refine d7 l w.ok.frames w R λTn h2 M E=>?_;refine d3 M zg E λh3 c x=>?_;rw[Yu]at c x;have Q:∀(h:Heap),Inv X a p (upd H' e (XO e C (some dx) (.ref Tn))) { m with heap:=h }->∃o,h.get? e=some o/\o.cls=.ref Y:=λh K=>by have J:=K.uu zg;rw[Yu]at J;obtain⟨t,T,sl,d⟩:=XC.get (J.hok e _ N);exact⟨_,d,rfl⟩
  refine wpAny_handleBy_cons (codeAny_handlers_test ?_) (λz=>by cases z);refine WC (X:=X.held (.ref e)) (c.held _) hg hm ?_ j;obtain⟨o,d,g⟩:=Q _ c;refine(l8 c.kIn d g P).here ?_;refine codeAny_handlers_suite_as ?_;refine d3 c zg x λh4 y b4=>?_;rw[Yu]at y b4;refine Ux (X:=X) y hN O Z (v:=.ref e) rfl (λL B=>?_) hf;have r:=(B.uu zg).held (.ref e);rw[Yu]at r;refine a0A (G e a L _ _ _ r q) (λf s6 z=>?_) λ_ _ z=>False.elim z;cases f with
  |ret u=>obtain⟨v,W,H6,I6,rv,U⟩:=z;exact name_goes (X:=X) (I6.I0 I.ok) hl λs7 I7=>⟨v,_,H6,I7,rv,U⟩
  |next=>obtain⟨_,_,_,z⟩:=z;exact False.elim z
  |brk=>obtain⟨_,_,_,z⟩:=z;exact False.elim z
  |cont=>obtain⟨_,_,_,z⟩:=z;exact False.elim z
def B9(i j:Int):Prop:=i.natAbs<2 ^ 8192/\j.natAbs<2 ^ 8192
def B9.ok(h:B9 i j):IntMulOk i j:=IntMulOk.of_le (intBits_le_iff.mpr h.1) (intBits_le_iff.mpr h.2) (by decide)
def FU:OpR X (binaryOp .Mult) (rI B9 λi j=>.int (i*j)):=opI λ_ _ _ _ _ _ _ a q=>mul_int q a.ok
def zA.upd{H:Hp}{p:Addr}{o:HO}(h:H p=Option.none):zA H (upd H p o):=λb q e=>by rw[zi (zZ e h)];exact e
def l9(cells:S_):List (Str×NameKind)->List (Str×Addr)->List (Str×Addr)
 |[],a=>a
 | (n,k)::r,a=>l9 cells r (if k == .free then(match cells.lookup n with|some c=>(n,c)::a|none=>a)else a)
def Xi{env:Env}:∀(b:Tc)(d:S_),(∀y∈b,y.2=.free->(env.cells.lookup y.1).isSome=true)->
  (forIn b d λx r=>if(x.2==NameKind.free)=true then do let a<-cellOf env x.1;pure (ForInStep.yield ((x.1,a)::r))else pure (ForInStep.yield r))=(pure (l9 env.cells b d):Sem _)
 |[],d,_=>rfl
 | (n,k)::r,d,h=>by
  rw[List.forIn_cons];have i:=λd=>Xi (env:=env) r d λy j=>h y (S6 _ j);unfold l9;by_cases e:(k==NameKind.free)=true
  .have l:=h (n,k) S4 (a0t.mp e);obtain⟨c,m⟩:=a0I.mp l;have g:List.lookup n env.cells=some c:=m;simp only[e,if_true,cellOf,g,pure_bind];exact i _
  .have f:(k==NameKind.free)=false:=by simpa using e
   simp only[f,Bool.false_eq_true,if_false,pure_bind];exact i _
def rO(h:∀y∈scope.names,y.2=.free->(env.cells.lookup y.1).isSome=true):closureFor scope env=pure (l9 env.cells scope.names []):=by have:=Xi scope.names [] h;simp only[closureFor];rw[this];rfl
def JR{cells:S_}{x:Str}{c:Addr}:∀(b:Tc)(f:S_),(∀d,f.lookup x=some d->cells.lookup x=some d)->(l9 cells b f).lookup x=some c->cells.lookup x=some c
 |[],f,h,e=>h c e
 | (n,k)::r,f,h,e=>by
  unfold l9 at e;refine JR r _ (λd a=>?_) e;by_cases i:(k==NameKind.free)=true
  .rw[if_pos i]at a;split at a
   .rename_i l g;rw[a0u]at a;split at a
    .rename_i j;cases a;rw[a0t.mp j];exact g
    .exact h d a
   .exact h d a
  .rw[if_neg i]at a;exact h d a
def d8{cells:S_}{x:Str}:∀(a:Tc)(b:S_),((b.lookup x).isSome=true\/((x,NameKind.free)∈a/\(cells.lookup x).isSome=true))->((l9 cells a b).lookup x).isSome=true
 |[],b,h=>by
  rcases h with h|⟨h,_⟩
  .exact h
  .cases h
 | (n,k)::r,b,h=>by
  unfold l9;refine d8 r _ ?_;rcases h with h|⟨h,d⟩
  .left;by_cases f:(k==NameKind.free)=true
   .rw[if_pos f];split
    .rw[a0u];split
     .rfl
     .exact h
    .exact h
   .rw[if_neg f];exact h
  .rcases a0f.mp h with e|e
   .left;cases e;rw[if_pos (by rfl)];obtain⟨c,d⟩:=a0I.mp d;rw[d,a0u];simp
   .exact .inr ⟨e,d⟩
def FV{x:Str}{c:Addr}:∀(a:Tc)(h:Heap)(b:S_),(cellsFrom h.objs.size a b).lookup x=some c->b.lookup x=some c\/(h.objs.size<=c/\∃v,(pushCells h a).IsCell c v)
 |[],_,_,e=>.inl e
 | (n,k)::r,h,b,e=>by
  unfold cellsFrom at e;unfold pushCells;split at e
  .rename_i d;rw[if_pos d];have f:(cellsFrom (h.push { cls:=.type "cell",data:=.cell none }).objs.size r ((n,h.objs.size)::b)).lookup x=some c:=by rw[a1n];exact e
   rcases FV r _ _ f with z|⟨z,v⟩
   .rw[a0u]at z;split at z
    .cases z;exact .inr ⟨S7 _,none,_,a2U r _ _ _ (a0i _ rfl),rfl⟩
    .exact .inl z
   .rw[a1n]at z;exact .inr ⟨a2u z,v⟩
  .rename_i d;rw[if_neg d];exact FV r h b e
def uw:∀(a:Tc)(g:Nat)(b:S_),(∀x y c,b.lookup x=some c->b.lookup y=some c->x=y)->(∀x c,b.lookup x=some c->c<g)->∀x y c,(cellsFrom g a b).lookup x=some c->(cellsFrom g a b).lookup y=some c->x=y
 |[],_,_,h,_=>h
 | (n,k)::r,g,b,h,i=>by
  unfold cellsFrom;split
  .refine uw r _ _ (λx y c f d=>?_) λx c e=>?_
   .rw[a0u]at f d;split at f<;>split at d
    .rename_i j _ l;rw[a0t.mp j,a0t.mp l]
    .cases f;exact absurd (i _ _ d) (a0X _)
    .cases d;exact absurd (i _ _ f) (a0X _)
    .exact h x y c f d
   .rw[a0u]at e;split at e
    .cases e;exact a08 _
    .exact a1W (i x c e)
  .exact uw r _ _ h i
def ux{x:Str}:∀(a:Tc)(c:Nat)(b:S_),((b.lookup x).isSome=true\/(x,NameKind.cell)∈a)->((cellsFrom c a b).lookup x).isSome=true
 |[],_,_,h=>h.elim id λz=>nomatch z
 | (n,k)::r,c,b,h=>by
  unfold cellsFrom;split
  .refine ux r _ _ ?_;rcases h with h|h
   .left;rw[a0u];split
    .rfl
    .exact h
   .rcases a0f.mp h with e|e
    .cases e;left;rw[a0u];simp
    .exact .inr e
  .rename_i d;refine ux r _ _ (h.imp id λz=>?_);rcases a0f.mp z with e|e
   .cases e;exact absurd rfl d
   .exact e
def uy{x:Str}:∀(a:Tc)(c:Nat)(b:S_),(x,NameKind.cell)∉a->(cellsFrom c a b).lookup x=b.lookup x
 |[],_,_,_=>rfl
 | (n,k)::r,c,b,h=>by
  unfold cellsFrom;split
  .rename_i d;rw[uy r _ _ λz=>h (S6 _ z),a0u];have:(x==n)=false:=by
    cases q:x==n with
    |false=>rfl
    |true=>exact absurd (by rw[a0t.mp q,a0t.mp d];exact S4) h
   rw[this]
  .exact uy r _ _ λz=>h (S6 _ z)
def uz{x:Str}{c:Addr}:∀(a:Tc)(j b:Nat)(i:S_),b<=j->((x,NameKind.cell)∈a\/∀d,i.lookup x=some d->b<=d)->(cellsFrom j a i).lookup x=some c->b<=c
 |[],_,_,_,_,h,e=>h.elim (λz=>nomatch z) λz=>z c e
 | (n,k)::r,j,b,i,g,h,e=>by
  unfold cellsFrom at e;split at e
  .refine uz r _ b _ (a1X g) ?_ e;rcases h with h|h
   .rcases a0f.mp h with z|z
    .cases z;refine .inr λd f=>?_;rw[a0u]at f;simp at f;rw[<- f];exact g
    .exact .inl z
   .refine .inr λd f=>?_;rw[a0u]at f;split at f
    .cases f;exact g
    .exact h d f
  .rename_i l;refine uz r _ b _ g (h.imp (λz=>?_) id) e;rcases a0f.mp z with q|q
   .cases q;exact absurd rfl l
   .exact q
def rQ
  (h:Q (newEnv scope s.heap.objs.size globals (cellsFrom (s.heap.objs.size+1) scope.names cl) qual none .none (some env) builtinsNs) { s with heap:=pushCells (s.heap.push { cls:=.type "dict",data:=.dict #[] }) scope.names }):
  wpAny M A (newFunctionEnv scope globals cl [] qual none .none (some env)) Q E s:=by
 simp only[newFunctionEnv,Option.isSome_some,if_true];refine f8 (wpAny_alloc ?_);refine f8 (wpAny_layCells _ (λd a c=>by cases b:a==NameKind.cell<;>simp[b]) _ _ _ _ ?_);rw[show({ s with heap:=s.heap.push { cls:=.type "dict",data:=.dict #[] } }:Shared).heap.objs.size=s.heap.objs.size+1 from a1n ..];refine f8 ?_;rw[List.forIn_nil];exact S8 (S8 h)
abbrev ou(scope:Scope)(cl:S_)(L:Addr)(env:Env):Env:={ compEnvC scope cl L env with cells:=cellsFrom (L+1) scope.names cl }
abbrev jm(X:Cx)(scope:Scope)(N:Sn)(fp:Tg)(pn:Sm)(s:Ss)(H:Hp)(L:Addr):Cx:=
 { X with N:=N,s₀:=s,H₀:=H,env:=ou scope (l9 X.env.cells scope.names []) L X.env,outer:=X.stack,ex:=fp,fn:=λx=>scope.names.contains (x,.cell),pn:=pn,xe:=λ_ _=>False }
def B_(X:Cx)(scope:Scope)(N:Sn)(fr:SJ):Bool:=
 scope.kind == .function&&scope.names.all (λy=>y.2 != .cell || !scope.names.contains (y.1,.free))&&scope.names.all (λy=>y.2 != .local||scope.names.lookup y.1==some .local) &&
 scope.names.all (λy=>y.2 != .free||(X.env.kindOf y.1==some .cell||X.env.kindOf y.1==some .free))&&N.length==fr.length &&
 (N.zip fr).all λp=>match p.2 with|none=>true|some j=>X.N[j]?==some p.1&&scope.names.contains (p.1,.free)&&((relabel scope X.env).names.lookup p.1==some .cell||(relabel scope X.env).names.lookup p.1==some .free)
def Bu(σ:St)(fr:SJ):St:=fr.map λo=>match o with|none=>none|some j=>(σ[j]?).join
def PTs(X:Cx)(b:Sw)(t:TT):Prop:=
 ∀(a:Sm)(s:Ss)(d:St)(H:Hp)(Q:Bool->Hp->Prop),Inv X a d H s->t d H Q->
  wpAny (TQ X) X.A (forIn b true λc r=>if r=true then do let ok<-isTrue c X.env (eval c X.env);pure (ForInStep.yield ok)else pure (ForInStep.yield r)) (TP X a d Q) X.xe s
def RO:TT:=λ_ H Q=>Q true H
def FW:PTs X [] RO:=λ_ _ a H _ I h=>wpAny_tests_nil ⟨H,I,h⟩
def FX(h:PT X c t):PTs X [c] t:=λa s b H Q I q=>wpAny_tests_one (h a s b H Q I q)
def gS(h:(relabel scope env).names.lookup x=some .cell\/(relabel scope env).names.lookup x=some .free):(x,NameKind.free)∈scope.names\/(x,NameKind.cell)∈scope.names:=by
 have b:∀(a:Tc) k,(a.map λ(n,k)=>if(k==NameKind.free&&env.scope.kind == .function&&env.kindOf n==some .cell)then(n,NameKind.cell)else(n,k)).lookup x=some k->(k=.cell\/k=.free)->(x,NameKind.free)∈a\/(x,NameKind.cell)∈a:=by
  intro a
  induction a with
  |nil=>intro k e _;simp at e
  |cons y r f=>
   intro k e d;obtain⟨n,kd⟩:=y;rw[T2,a0u]at e;by_cases q:(kd==NameKind.free&&env.scope.kind == .function&&env.kindOf n==some .cell)=true
   .simp only[q,if_true]at e;split at e
    .rename_i c;have hf:kd=.free:=by simp only[Bool.and_eq_true,beq_iff_eq]at q;exact q.1.1
     left;rw[a0t.mp c,hf];exact S4
    .exact(f k e d).imp (S6 _) (S6 _)
   .simp only[q,Bool.false_eq_true,if_false]at e;split at e
    .rename_i c;have g:kd=k:=a0x e;rcases d with z|z
     .right;rw[a0t.mp c,g,z];exact S4
     .left;rw[a0t.mp c,g,z];exact S4
    .exact(f k e d).imp (S6 _) (S6 _)
 rcases h with h|h
 .exact b _ _ h (.inl rfl)
 .exact b _ _ h (.inr rfl)
def l_(I:Nat->Shared->Prop)
  (a:∀n s,I n s->wpAny (model prog w) A (pyNext it) (λr d=>match r with
   |none=>R (.ok .next) d
   |some v=>wpAny (model prog w) A (letOwnedTupleGo target it v) (λ_ b=>wpAny (model prog w) A (assign target env v) (λ_ l=>
     wpAny (model prog w) A (forIn ifs true λc r=>if r=true then do let ok<-isTrue c env (eval c env);pure (ForInStep.yield ok)else pure (ForInStep.yield r)) (λok e=>
      if ok=true then wpAny (model prog w) A (eval elt env) (λx i=>wpAny (model prog w) A (call (.builtin "list.append") [acc,x]) (λ_ g=>∃m,m<n/\I m g) (λ_ _=>False) i) (λ_ _=>False) e
      else ∃m,m<n/\I m e) (λ_ _=>False) l) (λ_ _=>False) b) (λ_ _=>False) d) (λ_ _=>False) s)
  (n:Nat) (h:I n s):codeAny (model prog w) A (.compLoop (.ListComp elt [⟨target,jZ,ifs,0⟩] scope pos) 0 it acc env) R s:=by
 refine codeAny_loop rfl I (λn s q=>?_) n h;show wpAny _ A ((compTurn (.ListComp elt [⟨target,jZ,ifs,0⟩] scope pos) 0 it acc env).onRaise (λx=>do noteFrame x env;theTreesLotGoes x)) _ _ s;refine wpAny_noted ?_;rw[compTurn_list];refine f8 (a1v (f8 (a0A (a n s q) (λr d j=>?_) λ_ _ z=>False.elim z)));cases r with
 |none=>exact S8 j
 |some v=>
  refine f8 (a0A j (λ_ b f=>f8 (a0A f (λ_ l u=>f8 (a0A u (λok e o=>?_) λ_ _ z=>False.elim z)) λ_ _ z=>False.elim z)) λ_ _ z=>False.elim z);cases ok with
  |false=>exact S8 ⟨rfl,o⟩
  |true=>exact f8 (f8 (a0A o (λx i y=>f8 (a0A y (λ_ g p=>S8 (S8 ⟨rfl,p⟩)) λ_ _ z=>False.elim z)) λ_ _ z=>False.elim z))
def rR{X:Cx}{pins:Sm}{σ:St}{l:Hp}{f:Ss}{P jZ tg:Sy}{ifs:Sw}{a:Scope}{Q:Pos}{N:Sn}{fr:SJ}{it:Addr}{n:Tg}{tn:Nat->Heap->Prop}{J:It}
  {E:Sq}{RR:Value->Addr->Result->Shared->Prop}
  (hc:X.calm=true) (H:B_ X a N fr=true) (I2:Inv X pins σ l f) (T:Turn X.prog X.w X.K tg J n it tn) (st:tn 0 f.heap) (O:∀b∈n,rB X pins l b)
  (k:∀(d:Ss)(I:Heap),Inv X pins σ (upd l f.heap.objs.size (.lst [])) d->Inv (jm X a N n (X.pn++pins) d (upd l f.heap.objs.size (.lst [])) d.heap.objs.size) [] (Bu σ fr) (upd l f.heap.objs.size (.lst [])) { d with heap:=I,toks:=d.toks+0 }->(∀b o,f.heap.get? b=some o->I.get? b=some o)->(∀b∈n,(upd l f.heap.objs.size (.lst [])) b=none)->(∀W:Hp,(∀b∈n,W b=none)->∀b∈n,rB (jm X a N n (X.pn++pins) d (upd l f.heap.objs.size (.lst [])) d.heap.objs.size) [] W b)->
   codeAny (TQ X) X.A (.compLoop (.ListComp P [⟨tg,jZ,ifs,0⟩] a Q) 0 (.ref it) (.ref f.heap.objs.size) (ou a (l9 X.env.cells a.names []) d.heap.objs.size X.env)) (RR (.ref f.heap.objs.size) d.heap.objs.size) { d with heap:=I,toks:=d.toks+0 }):
  wpAny (TQ X) X.A (newList []) (λacc d=>wpAny (TQ X) X.A (newFunctionEnv a X.env.globals (l9 X.env.cells a.names []) [] X.env.qual none .none (some X.env)) (λF s4=>
   codeAny (TQ X) X.A (.compStart (.ListComp P [⟨tg,jZ,ifs,0⟩] a Q) 0 (.ref it) acc { F with scope:=relabel a X.env }) (RR acc F.locals) s4) E d) E f:=by
 unfold B_ at H;simp only[Bool.and_eq_true,beq_iff_eq,List.all_eq_true]at H;obtain⟨⟨⟨⟨⟨k1,k2⟩,k3⟩,k4⟩,k5⟩,k6⟩:=H;have hcf:∀x,(x,NameKind.free)∈a.names->(x,NameKind.cell)∉a.names:=λx hf s=>by have:=k2 _ s;simp only[bne_self_eq_false,Bool.false_or,Bool.not_eq_true',List.contains_eq_mem,decide_eq_false_iff_not]at this;exact this hf
 refine a1V ?_;have g:Inv X pins σ (upd l f.heap.objs.size (.lst [])) { f with heap:=f.heap.push { cls:=.type "list",data:=.seq ([]:List Value).toArray } }:=I2.Ov (ys:=[]) (its:=[]) (t':=f.toks) .nil (a0y _);refine rQ ?_;generalize hs3:({ f with heap:=f.heap.push { cls:=.type "list",data:=.seq ([]:List Value).toArray } }:Shared)=d at g ⊢;have D:=(Heap.Ns.new d.heap (.type "dict")).keeps (a2U a.names _);have r:∀b o,d.heap.get? b=some o->(pushCells (d.heap.push { cls:=.type "dict",data:=.dict #[] }) a.names).get? b=some o:=λb o e=>a2U _ _ b o (S5 _ e);have C:∀x c,(cellsFrom (d.heap.objs.size+1) a.names (l9 X.env.cells a.names [])).lookup x=some c->X.env.cells.lookup x=some c\/(d.heap.objs.size+1<=c/\∃v,(pushCells (d.heap.push { cls:=.type "dict",data:=.dict #[] }) a.names).IsCell c v):=λx c e=>by have:=FV (x:=x) (c:=c) a.names (d.heap.push { cls:=.type "dict",data:=.dict #[] }) (l9 X.env.cells a.names []) (by rw[a1n];exact e);rw[a1n]at this;exact this.imp (JR _ [] λ_ z=>by simp at z) id
 generalize hh1:pushCells (d.heap.push { cls:=.type "dict",data:=.dict #[] }) a.names=I at D r C ⊢;have K:∀b o,f.heap.get? b=some o->d.heap.get? b=some o:=λb o e=>by rw[<- hs3];exact S5 _ e
 have L:∀b∈n,b<d.heap.objs.size/\(upd l f.heap.objs.size (.lst [])) b=none:=λb h=>by obtain⟨o,ho,_⟩:=T.obj _ _ st b h;refine⟨T1 (K _ _ ho),?_⟩;rw[zi (a0e (T1 ho))];exact(O b h).1
 have B:(jm X a N n (X.pn++pins) d (upd l f.heap.objs.size (.lst [])) d.heap.objs.size).Ok:=by
  refine⟨g.ok.mod,k1,g.ok.glob,g.ok.blt,S7 _,uw _ _ _ (λx y c e1 A=>g.ok.inj x y c (JR _ [] (λ_ z=>by simp at z) e1) (JR _ [] (λ_ z=>by simp at z) A)) (λx c e=>?_),λx hx=>?_,λx c z e=>?_,λ_=>g.ok.hd hc,g.ok.frames,.inl rfl,
   λb h=>⟨a0e (L b h).1,λx c e=>?_⟩,g.bs,a0o g.ok.bsz g.sz,λb o e h=>?_,λb h z=>?_,g.stack,g.dS⟩
  .obtain⟨v,hv⟩:=g.cell x c (JR _ [] (λ_ z=>by simp at z) e);exact a1W hv.lt
  .refine a0I.mp (ux _ _ _ ?_);rcases gS hx with hf|hf
   .have Z:=k4 _ hf;simp only[bne_self_eq_false,Bool.false_or,Bool.or_eq_true,beq_iff_eq]at Z;obtain⟨c,hcx⟩:=g.ok.has x Z;exact .inl (d8 _ [] (.inr ⟨hf,by rw[hcx];rfl⟩))
   .exact .inr hf
  .exact uz a.names (d.heap.objs.size+1) d.heap.objs.size _ (a03 _) (.inl (List.contains_iff_mem.mp z)) e
  .rcases C x c e with z|⟨z,_⟩
   .exact(O b h).2.2.2.2.1 x c z
   .exact λq=>absurd (a1g (a2u z) (show c<d.heap.objs.size by rw[q];exact(L b h).1)) (a0X _)
  .rcases(O b h).2.2.2.1 with z|z
   .exact I2.ok.HZ b o e z
   .have:=T1 e;exact absurd (T8 this I2.ok.bsz) (Nat.not_lt.mpr z)
  .rcases a0f.mp (g.cZ b z)with z|z
   .exact(O b h).2.1 z
   .exact(O b h).2.2.1 z
 have S:(Bu σ fr).length=N.length:=by unfold Bu;rw[v4];exact k5.symm
 have J0:Inv (jm X a N n (X.pn++pins) d (upd l f.heap.objs.size (.lst [])) d.heap.objs.size) [] (Bu σ fr) (upd l f.heap.objs.size (.lst [])) { d with heap:=I,toks:=d.toks+0 }:=by
  have Y:=g.kept (h':=I) (t':=d.toks+0) r;refine⟨B,rfl,g.bare,Un.kept r,⟨_,D,λi x v e1 A _=>?_⟩,λx c e=>(C x c e).elim (Y.cell x c) λz=>z.2,g.hok.fresh (S7 _),λx c e=>(C x c e).elim (Y.W9 x c) λz=>g.hok.fresh (a2u z.1),λp hp=>?_,Y.hok,S⟩
  .unfold Bu at A;rw[a0k]at A;cases G:fr[i]? with
   |none=>rw[G]at A;cases A
   |some o=>
    rw[G]at A;cases o with
    |none=>cases A
    |some j=>
     have U:(σ[j]?).join=some v:=a0x A;have hm:(x,some j)∈N.zip fr:=by refine a1H (i:=i) ?_;rw[List.getElem?_zip_eq_some];exact⟨e1,G⟩
     have Z:=k6 _ hm;simp only[Bool.and_eq_true,Bool.or_eq_true,beq_iff_eq,List.contains_iff_mem]at Z;obtain⟨⟨g1,g2⟩,g3⟩:=Z;have hσ:σ[j]?=some (some v):=by
      cases q:σ[j]? with
      |none=>rw[q]at U;cases U
      |some w=>rw[q]at U;cases w with
       |none=>cases U
       |some w=>cases U;rfl
     have M:=k4 _ g2;simp only[bne_self_eq_false,Bool.false_or,Bool.or_eq_true,beq_iff_eq]at M;obtain⟨m,_,hl⟩:=Y.loc;obtain⟨u,ru,lk⟩:=hl j x v g1 hσ (by rcases M with z|z;exact .inr (.inl z);exact .inr (.inr z));refine⟨u,ru,.inr ⟨g3,?_⟩⟩;rcases lk with⟨z,_⟩|⟨_,c,ec,z⟩
     .rcases M with q|q<;>(rw[z]at q;cases q)
     .obtain⟨c',s⟩:=a0I.mp (d8 (cells:=X.env.cells) (x:=x) a.names [] (.inr ⟨g2,by rw[ec];rfl⟩));have:=JR _ [] (λ_ z=>by simp at z) s;rw[ec]at this;cases this;exact⟨c,(uy _ _ _ (hcf x g2)).trans s,z⟩
  .have R:p∈X.pn++pins:=by rw[a0h]at hp;exact hp
   obtain⟨q1,q2,q3,q4,q5⟩:=Y.pin p R;refine⟨q1,q2,a0e (T1 (g.pin p R).1),λz=>?_,q5⟩;rcases a0f.mp (g.cZ _ z)with z|z
   .exact q3 z
   .exact q4 z
 have stat:∀{W:Hp},(∀b∈n,W b=none)->∀b∈n,rB (jm X a N n (X.pn++pins) d (upd l f.heap.objs.size (.lst [])) d.heap.objs.size) [] W b:=λhn b h=>
  ⟨hn b h,(B.exf b h).1,λz=>B.H_ b h z,.inl h,(B.exf b h).2,λp hp=>by rw[a0h]at hp;exact(O b h).2.2.2.2.2 p hp⟩
 have loop:=k d I g J0 (λb o e=>r b o (K b o e)) (λb h=>(L b h).2) (λ_ hn=>stat hn);exact codeAny_compStart_list loop (T.self _ 0 _ _ _ (T.keep _ _ _ st λb _ o e=>r b o (K b o e)) loop)
def ow{X:Cx}{pins:Sm}{σ:St}{B:Hp}{A:Ss}{elt jZ tg:Sy}{ifs:Sw}{a:Scope}{pos:Pos}{N:Sn}{fr:SJ}{g:TG}{tc:TT}{te:TE}{it:Addr}{q:Tg}{tn:Nat->Heap->Prop}{J:It}
  {E:Sq}{RR:Value->Addr->Result->Shared->Prop}{Q:VK}
  (hc:X.calm=true) (hok:B_ X a N fr=true) (I2:Inv X pins σ B A) (T:Turn X.prog X.w X.K tg J q it tn) (st:tn 0 A.heap) (f2:∀b∈q,rB X pins B b)
  (hg:∀q pn s H L,PG (jm X a N q pn s H L) tg g) (hi:∀q pn s H L,PTs (jm X a N q pn s H L) ifs tc) (he:∀q pn s H L,PE (jm X a N q pn s H L) elt te)
  (h:∀f,B f=none->∃W:Nat->Nat->St->Hp->Prop,(∃m,W 0 m (Bu σ fr) (upd B f (.lst [])))/\∀i m j l,W i m j l->
   (J.stop i l/\Q (.ref f) l)\/(J.go i l/\∃N:St->Hp->Prop,(∀j l,N j l->∃m',m'<m/\W (i+1) m' j l)/\∀x H3,J.yld i l x H3->g x j H3 λO H4=>tc O H4 λb P=>
    if b=true then te O P λv H6=>∃ys,H6 f=some (.lst ys)/\ys.length<sizeLine/\N O (upd H6 f (.lst (ys++[v])))else N O P))
  (hRR:∀f C m Y l,Inv X pins σ l Y->Y.heap.Ns C m->X.s₀.heap.objs.size<=C->l C=none->C≠X.env.locals->(∀x c,X.env.cells.lookup x=some c->c≠C)->(∀p∈X.pn++pins,p.1≠C)->Q (.ref f) l->RR (.ref f) C (.ok .next) Y):
  wpAny (TQ X) X.A (newList []) (λf w=>wpAny (TQ X) X.A (newFunctionEnv a X.env.globals (l9 X.env.cells a.names []) [] X.env.qual none .none (some X.env)) (λR s4=>
   codeAny (TQ X) X.A (.compStart (.ListComp elt [⟨tg,jZ,ifs,0⟩] a pos) 0 (.ref it) f { R with scope:=relabel a X.env }) (RR f R.locals) s4) E w) E A:=by
 have hDf:B A.heap.objs.size=none:=I2.hok.fresh (S7 _);obtain⟨W,⟨m0,w0⟩,turn⟩:=h _ hDf;refine rR hc hok I2 T st f2 λw h1 I3 J0 kp fpn G=>?_;have hcc:(jm X a N q (X.pn++pins) w (upd B A.heap.objs.size (.lst [])) w.heap.objs.size).calm=true:=hc;refine l_ (λn Y=>∃i j l,Inv (jm X a N q (X.pn++pins) w (upd B A.heap.objs.size (.lst [])) w.heap.objs.size) [] j l Y/\tn i Y.heap/\(∀b∈q,l b=none)/\W i n j l) ?_ m0
  ⟨0,_,_,J0,T.keep _ _ _ st λb _ o e=>kp b o e,fpn,w0⟩
 rintro n s5 ⟨i,I,P,I5,st5,fr5,w5⟩
 rcases turn i n I P w5 with⟨stop,qn⟩|⟨go,NN,hNN,step⟩
 .refine thn (T.done (jm X a N q (X.pn++pins) w (upd B A.heap.objs.size (.lst [])) w.heap.objs.size) rfl rfl rfl hcc i [] s5 I P _ I5 (G _ fr5) st5 stop) λr s6 ⟨hr,Z⟩=>?_;subst hr;have I7:Inv X pins σ P s6:=I3.Ig (ch:=q) Z.os Z.base Z.hok Z.bare λb K=>⟨(f2 b K).2.2.2.1,(f2 b K).2.1,(f2 b K).2.2.2.2.1,(f2 b K).2.2.2.2.2⟩;obtain⟨mm,hmm,_⟩:=Z.loc;refine hRR _ _ mm s6 P I7 hmm I3.sz Z.free (a1e I3.lt) (λx c e z=>?_) (λp hp z=>?_) qn
  .obtain⟨v,hv⟩:=I3.cell x c e;exact absurd hv.lt (by rw[z];exact a0X _)
  .exact absurd (T1 (I3.pin p hp).1) (by rw[z];exact a0X _)
 .refine thn (T.item (jm X a N q (X.pn++pins) w (upd B A.heap.objs.size (.lst [])) w.heap.objs.size) rfl rfl rfl hcc i [] s5 I P _ I5 (G _ fr5) st5 go) λr s6 ⟨u,hr,h6⟩=>?_;subst hr;refine thn h6 λ_ s7 ⟨x,H7,I7,r7,y7,U,fr7⟩=>?_;have I7':=I7.pinned (G _ fr7) (T.obj _ _ U);have F:∀{D:St}{S:Hp}{s9:Ss},Inv (jm X a N q (X.pn++pins) w (upd B A.heap.objs.size (.lst [])) w.heap.objs.size) ([]++gu q s7.heap) D S s9->NN D S->
    ∃m,m<n/\∃i j l,Inv (jm X a N q (X.pn++pins) w (upd B A.heap.objs.size (.lst [])) w.heap.objs.size) [] j l s9/\tn i s9.heap/\(∀b∈q,l b=none)/\W i m j l:=λ{D S s9} I9 n9=>by
   obtain⟨m',hm,w9⟩:=hNN D S n9;refine⟨m',hm,i+1,D,S,I9.vC,T.keep _ _ _ U λb K o e=>(I9.pin (b,o) (a0c _ (a0c _ (JQ K e)))).1,λb K=>?_,w9⟩;obtain⟨o,e,d⟩:=T.obj _ _ U b K;exact(I9.pin (b,o) (a0c _ (a0c _ (JQ K e)))).2.1
  refine thn (hg _ _ _ _ _ _ s7 I H7 x u _ I7' r7 (step x H7 y7)) λ_ s8 ⟨M,H8,I8,q8⟩=>?_;refine thn (hi _ _ _ _ _ _ s8 M H8 _ I8 q8) λok s9 ⟨S,I9,q9⟩=>?_;cases ok with
  |false=>rw[if_neg (by decide)]at q9 ⊢;exact F I9 q9
  |true=>rw[if_pos rfl]at q9 ⊢;refine thn (he _ _ _ _ _ _ s9 M S _ I9 q9) λy s10 ⟨v,H10,I10,r10,ys,h10,l10,q10⟩=>?_;refine thn (U1 (X:=jm X a N q (X.pn++pins) w (upd B A.heap.objs.size (.lst [])) w.heap.objs.size) _ s10 M H10 (.ref A.heap.objs.size) [v] (.ref A.heap.objs.size) [y] (λ_ H11=>NN M H11) I10 rfl (.cons r10 .nil) ⟨_,ys,v,rfl,rfl,h10,l10,q10⟩) λ_ s11 ⟨_,H11,I11,_,q11⟩=>?_;exact F I11 q11
def tLC(s:TI)(g:TG)(q:TT)(te:TE)(fr:SJ):TE:=λh H Q=>s h H λJ l=>∀a,l a=none->∃W:Nat->Nat->St->Hp->Prop,(∃m,W 0 m (Bu h fr) (upd l a (.lst [])))/\∀i m c e,W i m c e->
 (J.stop i e/\Q (.ref a) e)\/(J.go i e/\∃N:St->Hp->Prop,(∀c e,N c e->∃j,j<m/\W (i+1) j c e)/\∀x o,J.yld i e x o->g x c o λd r=>q d r λb n=>
  if b=true then te d n λv p=>∃f,p a=some (.lst f)/\f.length<sizeLine/\N d (upd p a (.lst (f++[v])))else N d n)
def oy{X:Cx}{pins:Sm}{σ:St}{H:Hp}{s:Ss}{a:Scope}{N:Sn}{fr:SJ}(b:B_ X a N fr=true)(I:Inv X pins σ H s):
  a.kind=.function/\(∀y∈a.names,y.2=.local->a.names.lookup y.1=some .local)/\closureFor a X.env=pure (l9 X.env.cells a.names []):=by
 unfold B_ at b;simp only[Bool.and_eq_true,beq_iff_eq,List.all_eq_true]at b;obtain⟨⟨⟨⟨⟨h,l⟩,g⟩,i⟩,m⟩,j⟩:=b;refine⟨h,λy d z=>?_,rO λy d z=>?_⟩
 .have:=g y d;rw[z]at this;simpa using this
 .have e:=i y d;rw[z]at e;simp only[bne_self_eq_false,Bool.false_or,Bool.or_eq_true,beq_iff_eq]at e;obtain⟨c,f⟩:=I.ok.has y.1 e;rw[f];rfl
def OI(N:Sn)(fr:SJ)(F:X.calm=true)(i:B_ X scope N fr=true)(E:PI X tg jZ wi)(M:∀d f s H L,PG (jm X scope N d f s H L) tg g)(S:∀d f s H L,PTs (jm X scope N d f s H L) ifs tc)(he:∀d f s H L,PE (jm X scope N d f s H L) elt te)
  (A:∀x,foldedSetIterable jZ X.env x=pure x:=by intro _;rfl):PE X (.ListComp elt [⟨tg,jZ,ifs,0⟩] scope pos) (tLC wi g tc te fr):=by
 intro a s r H Q I h;obtain⟨y,w,j⟩:=oy i I;rw[eval_ListComp];refine a2F (use:=none) rfl A j y w (thn (E a s r H _ I h) λv s1 n=>thn n λY s2 p=>?_);obtain⟨it,d,tn,J,H2,e,B,T,l,R,O⟩:=p;subst e;refine ow (Q:=Q) (RR:=λc C=>compPost (TQ X) X.A X.xe none (EP X a r Q) c C) F i B T l R M S he O λc C m K P z U n p W Z G q=>?_;exact⟨m,U,λh' D=>⟨.ref c,P,z.turned (t':=K.toks) (λb o u e=>(D.2 b u).trans e) p W (.inr n) Z G,rfl,q⟩⟩
def OJ(N:Sn)(fr:SJ)(hN:X.N.Nodup)(hy:X.N[i]?=some y)(O:X.env.scope.names.lookup y=some .local)(hc:X.calm=true)(n:B_ X scope N fr=true)(hi:PI X tg jZ wi)(hg:∀f l s H L,PG (jm X scope N f l s H L) tg g)
  (ht:∀f l s H L,PTs (jm X scope N f l s H L) ifs tc) (he:∀f l s H L,PE (jm X scope N f l s H L) elt te) (F:swapsWith (.ListComp elt [⟨tg,jZ,ifs,0⟩] scope pos) (some (.Name y py)) tO.line X.env=pure true:=by rfl)
  (W:∀x,foldedSetIterable jZ X.env x=pure x:=by intro _;rfl):PS X (.Assign [.Name y py] (.ListComp elt [⟨tg,jZ,ifs,0⟩] scope pos) tO) (HD (tLC wi g tc te fr) (lS i)):=by
 intro c s K H D I h;obtain⟨Y,U,u⟩:=oy n I;rw[exec_Assign_Name_used _ _ _ _ F];refine f8 (a1v (f8 ?_));show wpAny _ X.A (do let _<-comprehension (.ListComp elt [⟨tg,jZ,ifs,0⟩] scope pos) scope X.env _ (newList []) false (eval jZ X.env) (some (assign (.Name y py) X.env))) _ _ s;refine f8 (a0A (a2F (use:=some (assign (.Name y py) X.env)) (Q:=λ_ j=>SP X c D .next j) rfl W u Y U
  (thn (hi c s K H _ I h) λv s1 E=>thn E λitv s2 G=>?_)) (λ_ j hq=>S8 (S8 hq)) λ_ _ z=>z)
 obtain⟨it,f,tn,J,H2,e,I2,T,A,f2,hr⟩:=G;subst e;refine ow (Q:=λv H1=>lS i v K H1 D.nx) (RR:=λd C=>compPost (TQ X) X.A X.xe (some (assign (.Name y py) X.env)) (λ_ j=>SP X c D .next j) d C) hc n I2 T A f2 hg ht he hr λd C m j H' Z hn E G M P h5 q=>?_;show wpAny _ X.A (assign (.Name y py) X.env (.ref d)) _ _ _;refine wpAny_assign_Name (gq (v:=.ref d) Z hN hy (.inl O) rfl (λr p ⟨a,sb,ha⟩=>?_) (.inr O));have B:C≠a:=λz=>by
  rcases ha with e|e
  .exact M (z.trans e)
  .exact P y a e z.symm
 obtain⟨o,es,S,ho,rr⟩:=id hn;refine⟨m,⟨o,es,S,(sb.2 C B).trans ho,rr⟩,λh' w=>⟨_,H',p.turned (t':=r.toks) (λb o R e=>(w.2 b R).trans e) G M (.inr E) P h5,q⟩⟩
section
variable {X:Cx}
def RP:V->Option Int->Option Int->Hp->VK->Prop:=λx b a H Q=>∃z,x=.str z/\z.length<=sizeLine/\Q (.str (Txt.slice z b a)) H
def La:SlR X RP:=by
 intro c s n H x v A y w r B Q I e d g f h;obtain⟨z,rfl,hz,q⟩:=h;obtain⟨t,rfl⟩:=e;have b:∀{a:Value}{o:Tr},IsPart a o->∃p:Option (Int×Tok),a=partValue p/\p.map (·.1)=o:=by
  intro a o h;cases h
  .exact⟨none,rfl,rfl⟩
  .exact⟨some (_,_),rfl,rfl⟩
 obtain⟨m,rfl,rfl⟩:=b g;obtain⟨i,rfl,rfl⟩:=b f;refine⟨"str",_,F.slot_str_getitem.lookup,typeIs_str _ _ _,wpAny_getItem_str_slice (l:=m) (u:=i) (st:=none) ?_ rfl ?_⟩
 .exact d
 .exact post_val_or_str ⟨a0o (Txt.slice_le z _ _) hz,λj k=>⟨.str _,H,I.tok _,⟨j,rfl⟩,q⟩⟩
def rJoin(K:SV):V->List V->Hp->VK->Prop:=λx c H Q=>∃a p b,x=.str a/\c=[.ref p]/\SqL K H p (b.map V.str)/\(b.map (·.length)).sum+b.length*a.length<=16777216/\Q (.str (Txt.join a b)) H
def uA:∀{a:Sn}{b:Sv},Vals (a.map V.str) b->StrsAre b a
 |[],_,.nil=>.nil
 |y::a,_,.cons ⟨t,e⟩ r=>by subst e;exact .cons y t (uA r)
def FY:MtM X "str.join" (rJoin X.K):=by intro a s m H x n v o Q I b g h;obtain⟨e,p,w,rfl,rfl,c,l,q⟩:=h;obtain⟨t,rfl⟩:=b;obtain⟨u,rfl,d⟩:=g.one;cases d;obtain⟨i,r,f,_⟩:=I.list c;exact join_list f.isList (uA r) l λj k=>⟨.str _,H,I.tok _,⟨j,rfl⟩,q⟩
end
def Its(x:Str):It:=⟨λi _=>i<x.cps.size,λi H v a=>a=H/\∃c,x.cps[i]?=some c/\v=.str ⟨#[c]⟩,λi _=>x.cps.size<=i⟩
def FZ(a:Addr)(x:Str)(i:Nat)(h:Heap):Prop:=∃t,h.IsStrIter a "str_ascii_iterator" x t i\/h.IsStrIter a "str_iterator" x t i
def Ca{P:SG}{w:SI}{K:SV}{y:Str}{O:Pos}(f:Addr)(x:Str):Turn P w K (.Name y O) (Its x) [f] f (λi h=>i<=x.cps.size/\FZ f x i h)where
 mem:=by simp
 obj:=λi h st b a=>by
  obtain rfl:b=f:=by simpa using a
  obtain⟨_,t,⟨o,e,_,d⟩|⟨o,e,_,d⟩⟩:=st<;>exact⟨o,e,λv z=>by rw[d]at z;cases z⟩
 keep:=λi h A st k=>by
  obtain⟨L,t,⟨o,e,r⟩|⟨o,e,r⟩⟩:=st
  .exact⟨L,t,.inl ⟨o,k f (by simp) o e,r⟩⟩
  .exact⟨L,t,.inr ⟨o,k f (by simp) o e,r⟩⟩
 item:=by
  intro X hP D J C i n s M H E I hf st F;subst hP D J;have c:i<x.cps.size:=F;have j:x.cps[i]?=some x.cps[i]:=Array.getElem?_eq_getElem c;obtain⟨p,u,N,q,m,l⟩:=hf f (by simp);obtain⟨_,t,st|st⟩:=st
  .refine wpAny_pyNext_ascii_item st j λA g B=>⟨_,rfl,S8 ⟨.str ⟨#[x.cps[i]]⟩,H,I.turned (t':=s.toks+1) (λb o a e=>(B.2 b a).trans e) p u q m l,⟨_,rfl⟩,⟨rfl,_,j,rfl⟩,⟨c,t,.inl g⟩,λb a=>(hf b a).1⟩⟩
  .refine wpAny_pyNext_wide_item st j λA g B=>⟨_,rfl,S8 ⟨.str ⟨#[x.cps[i]]⟩,H,I.turned (t':=s.toks+1) (λb o a e=>(B.2 b a).trans e) p u q m l,⟨_,rfl⟩,⟨rfl,_,j,rfl⟩,⟨c,t,.inr g⟩,λb a=>(hf b a).1⟩⟩
 done:=by
  intro X hP D J C i n s M H E I hf st F;subst hP D J;have c:x.cps.size<=i:=F;have j:x.cps[i]?=none:=a2Z c;obtain⟨p,u,N,q,m,l⟩:=hf f (by simp);obtain⟨_,t,st|st⟩:=st
  .exact wpAny_pyNext_ascii_end (I.ok.hd C) st j λA G=>⟨rfl,I.turned (t':=s.toks) (λb o a e=>G b o a e) p u q m l⟩
  .exact wpAny_pyNext_wide_end (I.ok.hd C) st j λA G=>⟨rfl,I.turned (t':=s.toks) (λb o a e=>G b o a e) p u q m l⟩
 self:=λ_ _ _ _ _ st h=>by
  obtain⟨_,t,st|st⟩:=st
  .exact wpAny_pyIter_striter_ascii st h
  .exact wpAny_pyIter_striter_wide st h
def RQ(c:TE):TI:=λb H R=>c b H λx a=>∃z,x=.str z/\R (Its z) a
def Lc(w:PE X l tl):PI X (.Name y py) l (RQ tl):=by
 intro c s d H R I h;refine thn (w c s d H _ I h) λv a ⟨x,g,f,p,z,e,q⟩=>?_;subst e;obtain⟨t,rfl⟩:=p;have r:∀o:Obj,(∀h,h.get? a.heap.objs.size=some o->FZ a.heap.objs.size z 0 h)->PIE X c d (.Name y py) R (.ref a.heap.objs.size) { a with heap:=a.heap.push o }->PIE X c d (.Name y py) R (.ref a.heap.objs.size) { a with heap:=a.heap.push o }:=λ_ _ h=>h;have mk:∀o:Obj,o.isFreed=false->(∀h:Heap,h.get? a.heap.objs.size=some o->FZ a.heap.objs.size z 0 h)->PIE X c d (.Name y py) R (.ref a.heap.objs.size) { a with heap:=a.heap.push o }:=λo hf n=>by
  have m:Inv X c d g { a with heap:=a.heap.push o }:=f.kept (t':=a.toks) λb u e=>S5 _ e;refine⟨a.heap.objs.size,[a.heap.objs.size],_,Its z,g,rfl,m,Ca _ z,⟨a0y _,n _ (a0i _ hf)⟩,λb j=>?_,q⟩;obtain rfl:b=a.heap.objs.size:=by simpa using j
  exact f.HF (S7 _) (f.hok.fresh (S7 _))
 cases i:z.cps.all (·<128)
 .exact wpAny_pyIter_wide i (mk _ rfl λh e=>⟨t,.inr ⟨_,e,rfl,rfl⟩⟩)
 .exact wpAny_pyIter_ascii i (mk _ rfl λh e=>⟨t,.inl ⟨_,e,rfl,rfl⟩⟩)
section
def oz:∀{bs:Su}{a:Sv},Vals (bs.map V.bl) a->a=bs.map Value.bool
 |[],_,.nil=>rfl
 |b::bs,_,.cons e r=>by have c:_=Value.bool b:=e;subst c;rw[oz r];rfl
end
abbrev TJ:=St->Hp->Str->(Str->Hp->Prop)->Prop
section
variable {X:Cx}
def Ld:R2:=λx y H Q=>∃z i,x=.str z/\y=.int i/\z.length<=16/\-2 ^ 63<=i/\i<=1048576/\Q (.str (Txt.mul z i)) H
def rS:OpR X (binaryOp .Mult) Ld:=by intro a s g H x y v u Q I b d h;obtain⟨z,i,rfl,rfl,hz,c,f,q⟩:=h;obtain⟨t,rfl⟩:=b;obtain⟨e,rfl⟩:=d;exact PySem.W.KXi.mul rfl hz c f λe k _ _=>⟨.str _,H,I.tok _,⟨_,rfl⟩,q⟩
def Le(i j:Int):Prop:=j≠0/\j.natAbs<2 ^ 8192
def Cb:OpR X (binaryOp .FloorDiv) (rI Le λi j=>.int (i.fdiv j)):=opI λ_ j _ _ _ _ _ a q=>floordiv_int a.1 q (.inl (PyProof.noPylong_of_log2 (by
 have b:j.natAbs≠0:=by have:=a.1;omega
 have:=(Nat.log2_lt b).mpr a.2;omega)))
def F2(K:SV):V->List V->Hp->VK->Prop:=λx a H Q=>∃(p:Addr)(bs:Su)(k:Bool),x=.ref p/\a=[.bl k]/\SqL K H p (bs.map V.bl)/\Q (.int (bs.count k)) H
def U7(k:Bool):∀bs:List Bool,(bs.map Value.bool).countP (isBoolOf k)=bs.count k
 |[]=>rfl
 |b::bs=>by rw[T2,List.countP_cons,List.count_cons,U7 k bs];rfl
def uB:MtM X "list.count" (F2 X.K):=by
 intro d s B H x C v D Q I i o h;obtain⟨p,bs,k,rfl,rfl,j,q⟩:=h;cases i;obtain⟨u,rfl,l⟩:=o.one;cases(show u=Value.bool k from l);obtain⟨w,r,m,_⟩:=I.list j;have e:=oz r;subst e;obtain⟨⟨cls,dd,g,A⟩,a,c,n,f⟩:=id m.isList;simp only at c f;subst c f;refine a2v a2S ⟨_,a,rfl⟩ PySem.F.entry_list_count (PySem.F.args_list_count_2 _ _) (PySem.SeqAt.list_countAt p (bs.map Value.bool).toArray n dd A (.bool k) (isBoolOf k)) ⟨a,λy z=>?_,?_⟩
 .obtain⟨b,_,rfl⟩:=a0P.mp (show y∈bs.map Value.bool by simpa using z);exact PySem.SeqAt.EqAt.bool_bool b k
 .rw[show(bs.map Value.bool).toArray.toList=bs.map Value.bool from rfl,U7];exact⟨.int _,H,I.tok _,⟨_,rfl⟩,q⟩
def uC:∀{b:SS}{c:Sv},Vals (b.map V.int) c->∃a:List (Int×Tok),c=a.map (λz=>Value.int z.1 z.2)/\a.map Prod.fst=b
 |[],_,.nil=>⟨[],rfl,rfl⟩
 |n::b,_,.cons ⟨t,e⟩ r=>by subst e;obtain⟨a,rfl,rfl⟩:=uC r;exact⟨(n,t)::a,rfl,rfl⟩
def Lf(K:SV):List V->Hp->VK->Prop:=λc H Q=>∃(p:Addr)(b:SS),c=[.ref p]/\SqL K H p (b.map V.int)/\b≠[]/\∀M,M∈b->(∀a∈b,a<=M)->Q (.int M) H
def uD(n:X.calm=true):Yj X (.builtin "max") (Lf X.K):=by
 intro f s E H x J Q I r h;obtain⟨p,F,rfl,i,d,q⟩:=h;obtain⟨u,rfl,l⟩:=vals1 r;cases l;obtain⟨y,o,m,_⟩:=I.list i;obtain⟨b,rfl,rfl⟩:=uC o;have e:(b.map (λz=>Value.int z.1 z.2)).toArray=intItems b.toArray:=by unfold intItems;simp
 have c:0<b.toArray.size:=by
  rw[a0b];cases b with
  |nil=>exact absurd rfl d
  |cons a r=>simp
 refine max_intList (xs:=b.toArray) (I.ok.hd n) (by rw[<- e];exact m.isList) c λv G A D g=>?_;obtain⟨t,rfl⟩:=intItems_at D;obtain⟨K,C⟩:=argBest_gt (numAt b.toArray) (b.toArray.size-1);refine⟨.int _,H,I.kept (t':=A) g,⟨t,rfl⟩,q _ ?_ λa B=>?_⟩
 .rw[numAt_eq];exact getD_mem (by rw[v4];rw[a0b]at *;omega)
 .obtain⟨j,w,rfl⟩:=mem_getD B;rw[v4]at w;have:=C j (by rw[a0b];omega);rw[numAt_eq]at this;exact this
end
def HK(P:SG)(w:SI)(K:SV)(mg:Sl)(a:Heap)(A:SQ)(m:Str)(C:Addr)(sp:Sp):Prop:=
 ∃k f b c,Cls K C/\Meth K C m f/\qd P w K mg a (CXe P w) k f b c sp/\jJ k A/\Binds K b c []
def Eh(b:Addr->Sp->Prop)(m:Str)(E:XK)(f:TE)(t:TA):TE:=λd H Q=>f d H λx c=>∃a g fs C e,b C e/\x=.ref a/\c a=some (.ins C g fs)/\fs.lookup m=none/\t d c λi h=>e (x::i) h Q E
def Cc(he:PE X o ta)(i:∀C d,alts C d->HK X.prog X.w X.K X.mg X.base X.A m C d)(K:Passes (CXe X.prog X.w) X E)(O:PA X (e::es) t)
  (j:starEach (e::es) X.env=(false,eval e X.env)::starEach es X.env:=by rfl) (hpl:(backTo pos (starEach es X.env)).any (·.1)=false:=by rfl)
  (N:eval (.Call (.Attribute o m jI) (e::es) [] pos) X.env=(do
   let ov<-eval o X.env
   standAt jI.atName
   let(f,first)<-holding [ov] (getMethod ov m pl)
   callWith pos f first (backTo pos (starEach (e::es) X.env)) (backToKw pos (keywordEach [] X.env))):=by rfl):
  PE X (.Call (.Attribute o m jI) (e::es) [] pos) (Eh alts m E ta t):=by
 intro b s n H Q I h;refine a23 (pl:=pl) (thn (he b s n H _ I h) λu B ⟨x,J,z,G,a,P,fs,C,d,g,L,D,l,q⟩=>?_) N;obtain⟨k,f,U,S,c,w,F,M,A⟩:=i C d g;subst L;obtain rfl:u=Value.ref a:=G;refine c6 z D c w l ?_;refine a1y (first:=[.ref a]) (h₀:=X.base) I.ok.mod.kin w.kp (thn (O pos b B n J _ z q) λy W ⟨v,T,p,r,R⟩=>⟨p.kIn,?_⟩) j hpl;exact ud (us:=.ref a::y) (vs:=.ref a::v) (dvs:=[]) F M A .nil K p (.cons rfl r) (by rwa [a0h])
def uE(he:PE X o ta)(g:∀C d,alts C d->HK X.prog X.w X.K X.mg X.base X.A m C d)(w:Passes (CXe X.prog X.w) X E)
  (A:eval (.Call (.Attribute o m jI) [] [] pos) X.env=(do
   let ov<-eval o X.env
   standAt jI.atName
   let(f,first)<-holding [ov] (getMethod ov m pl)
   callWith pos f first (backTo pos (starEach [] X.env)) (backToKw pos (keywordEach [] X.env))):=by rfl):
  PE X (.Call (.Attribute o m jI) [] [] pos) (Eh alts m E ta Om):=by
 intro b s v H Q I h;refine a23 (pl:=pl) (thn (he b s v H _ I h) λu B ⟨x,D,i,r,a,G,fs,C,d,e,y,p,l,q⟩=>?_) A;obtain⟨k,f,K,J,c,j,F,z,n⟩:=g C d e;subst y;obtain rfl:u=Value.ref a:=r;refine c6 i p c j l ?_;exact PySem.W.callWith_K0 (first:=[.ref a]) i.kIn j.kp (ud (us:=[.ref a]) (vs:=[.ref a]) (dvs:=[]) F z n .nil w i (.cons rfl .nil) q)
def oA{A:SQ}{xs ys:Sx}{us ws:Sv}{e:Nat->Bool}(g:Vals xs us)(d:Vals ys ws)(he:∀j x y u v,xs[j]?=some x->ys[j]?=some y->RelV x u->RelV y v->SeqAt.EqAt A s u v (e j)):
  ∀j (a:j<us.toArray.size) (b:j<ws.toArray.size),SeqAt.EqAt A s us.toArray[j] ws.toArray[j] (e j):=by
 intro j a b;rw[a0b]at a b;have q:j<xs.length:=by rw[g.length];exact a
 have m:j<ys.length:=by rw[d.length];exact b
 have h:xs[j]?=some xs[j]:=T4 q;have f:ys[j]?=some ys[j]:=T4 m;obtain⟨u,i,l⟩:=g.get h;obtain⟨w,n,c⟩:=d.get f;have p:us.toArray[j]=u:=by have:=T4 a;rw[i]at this;simpa using(a0x this).symm
 have o:ws.toArray[j]=w:=by have:=T4 b;rw[n]at this;simpa using(a0x this).symm
 rw[p,o];exact he j _ _ _ _ h f l c
def zA.none(s:zA H H')(h:H' q=Option.none):H q=Option.none:=by
 cases e:H q with
 |none=>rfl
 |some o=>rw[s _ _ e]at h;cases h
inductive PV where
 |i (n:Int)|s (x:Str)|b (c:Bool)|n
 |l (xs:List PV)|t (xs:List PV)|d (kvs:List (Key×PV))|o (c:Nat) (fs:List (Str×PV))|x (c:Nat) (fs:List (Str×PV))|sc (ns:SS)|dt (kvs:Tq)
abbrev SH:=List PV
abbrev SN:=(List (Key×PV))
abbrev SO:=(List (Str×PV))
abbrev SR:=Option PV
abbrev Ts:=(PV->PV->Option Bool)
abbrev Tw:=List (Option PV)
def dtV(kvs:Tq):List (List Key×V):=kvs.map λq=>(q.1,V.int q.2)
inductive Out(α:Type)where
 |ok (a:α)|exc (c:Nat) (fs:SO)|wall
abbrev SD:=(List PV->Out PV)
def Out.bind{d b:Type}:Out d->(d->Out b)->Out b
 |.ok a,f=>f a
 |.exc c fs,_=>.exc c fs
 |.wall,_=>.wall
structure RC where
 K:Frag
 cls:Nat->Addr
def KL(K:SV)(a:Addr)(xs:Sx):Prop:=∃(o:Obj)(b:Td)(n:Nat),K.lookup a=some o/\o.cls=.type "list"/\o.dict=none/\o.data=.seq b n/\b.size<=sizeLine/\Vals xs b.toList
def mf(K:SV)(N:Sr)(H:Hp)(p:Addr)(vs:Sx):Prop:=(N p/\Rd H p (.lst vs))\/KL K p vs
def mf.sq{K:SV}{N:Sr}{H:Hp}{p:Addr}{vs:Sx}(h:mf K N H p vs):SqL K H p vs:=h.elim (λz=>.inl z.2) .inr
mutual
def Rep(W:RC)(M:Sr)(H:Hp):PV->V->Prop
 |.i n,v=>v=.int n
 |.s x,v=>v=.str x
 |.b c,v=>v=.bl c
 |.n,v=>v=.non
 |.l f,v=>∃p e,v=.ref p/\M p/\H p=some (.lst e)/\yq W M H f e
 |.t f,v=>∃p e,v=.ref p/\SqT W.K H p e/\yq W M H f e
 |.d b,v=>∃p a,v=.ref p/\M p/\Rd H p (.dK a)/\jX W M H b a
 |.sc g,v=>∃p,v=.ref p/\mf W.K M H p (g.map V.int)
 |.dt b,v=>∃p,v=.ref p/\M p/\Rd H p (.dT (dtV b))
 |.o c fs,v=>∃p d a,v=.ref p/\M p/\H p=some (.ins (W.cls c) d a)/\vx W M H fs a
 |.x c fs,v=>∃p d a,v=.ref p/\H p=some (XC p (W.cls c) d)/\H d=some (XD d a)/\vx W M H fs a
def yq(W:RC)(M:Sr)(H:Hp):List PV->List V->Prop
 |[],a=>a=[]
 |x::b,a=>∃v r,a=v::r/\Rep W M H x v/\yq W M H b r
def jX(W:RC)(M:Sr)(H:Hp):List (Key×PV)->List (Key×V)->Prop
 |[],a=>a=[]
 |b::r,a=>∃v q,a=(b.1,v)::q/\Rep W M H b.2 v/\jX W M H r q
def vx(W:RC)(M:Sr)(H:Hp):List (Str×PV)->List (Str×V)->Prop
 |[],a=>a=[]
 |b::r,a=>∃v q,a=(b.1,v)::q/\Rep W M H b.2 v/\vx W M H r q
end
def Imm:HO->Prop
 |.lst _=>False | .dK _=>False | .dT _=>False | .set _ _=>False | .ins _ _ _=>False | .tbl _=>False
 |_=>True
def Fr(M:Sr)(H H':Hp):Prop:=∀a o,H a=some o->(M a\/Imm o)->H' a=some o
def Fr.rd(f:Fr M H H')(h:Rd H p u)(m:M p):Rd H' p u:=
 h.elim (λz=>.inl (f _ _ z (.inl m))) λ⟨o,z⟩=>.inr ⟨o,f _ _ z (.inl m)⟩
def Fr.sqT{M:Sr}{K:SV}{H H':Hp}(f:Fr M H H'){p:Addr}{u:Sx}(h:SqT K H p u):SqT K H' p u:=
 h.elim (λh=>.inl (h.elim (λz=>.inl (f _ _ z (.inr trivial))) λ⟨o,z⟩=>.inr ⟨o,f _ _ z (.inr trivial)⟩)) .inr
def mf.frame{K:SV}{N:Sr}{H H':Hp}(f:Fr N H H'){p:Addr}{vs:Sx}(h:mf K N H p vs):mf K N H' p vs:=h.elim (λz=>.inl ⟨z.1,f.rd z.2 z.1⟩) .inr
def jK(h:Rd H p u):H p≠none:=by rcases h with z|⟨_,z⟩<;>rw[z]<;>intro e<;>cases e
section
variable {W:RC}{M M':Sr}{H H':Hp}
mutual
def Rep.gen(f:Fr M H H')(s:∀a,M a->H a≠none->M' a):∀{x:PV}{v:V},Rep W M H x v->Rep W M' H' x v
 |.i n,v,h=>h
 |.s x,v,h=>h
 |.b c,v,h=>h
 |.n,v,h=>h
 |.l l,v,h=>by unfold Rep at h ⊢;obtain⟨p,b,e,m,r,q⟩:=h;exact⟨p,b,e,s p m (by rw[r];intro e;cases e),f _ _ r (.inl m),yq.gen f s q⟩
 |.sc o,v,h=>by unfold Rep at h ⊢;obtain⟨p,e,r⟩:=h;exact⟨p,e,r.elim (λz=>.inl ⟨s p z.1 (by rcases z.2 with z|⟨_,z⟩<;>rw[z]<;>intro e<;>cases e),f.rd z.2 z.1⟩) .inr⟩
 |.dt d,v,h=>by unfold Rep at h ⊢;obtain⟨p,e,m,r⟩:=h;exact⟨p,e,s p m (jK r),f.rd r m⟩
 |.t l,v,h=>by unfold Rep at h ⊢;obtain⟨p,b,e,r,q⟩:=h;exact⟨p,b,e,f.sqT r,yq.gen f s q⟩
 |.d d,v,h=>by unfold Rep at h ⊢;obtain⟨p,b,e,m,r,q⟩:=h;exact⟨p,b,e,s p m (jK r),f.rd r m,jX.gen f s q⟩
 |.o c fs,v,h=>by unfold Rep at h ⊢;obtain⟨p,g,i,e,m,r,q⟩:=h;exact⟨p,g,i,e,s p m (by rw[r];intro e;cases e),f _ _ r (.inl m),vx.gen f s q⟩
 |.x c fs,v,h=>by unfold Rep at h ⊢;obtain⟨p,g,i,e,r,j,q⟩:=h;exact⟨p,g,i,e,f _ _ r (.inr trivial),f _ _ j (.inr trivial),vx.gen f s q⟩
def yq.gen(f:Fr M H H')(s:∀a,M a->H a≠none->M' a):∀{x:SH}{v:Sx},yq W M H x v->yq W M' H' x v
 |[],v,h=>h
 |x::d,g,h=>by unfold yq at h ⊢;obtain⟨v,r,e,b,c⟩:=h;exact⟨v,r,e,Rep.gen f s b,yq.gen f s c⟩
def jX.gen(f:Fr M H H')(s:∀a,M a->H a≠none->M' a):∀{x:SN}{v:SE},jX W M H x v->jX W M' H' x v
 |[],v,h=>h
 | (k,x)::d,g,h=>by unfold jX at h ⊢;obtain⟨v,r,e,b,c⟩:=h;exact⟨v,r,e,Rep.gen f s b,jX.gen f s c⟩
def vx.gen(f:Fr M H H')(s:∀a,M a->H a≠none->M' a):∀{x:SO}{v:SW},vx W M H x v->vx W M' H' x v
 |[],v,h=>h
 | (k,x)::d,g,h=>by unfold vx at h ⊢;obtain⟨v,r,e,b,c⟩:=h;exact⟨v,r,e,Rep.gen f s b,vx.gen f s c⟩
end
end
def Fr.refl:Fr M H H:=λ_ _ h _=>h
def zA.fr(s:zA H H'):Fr M H H':=λa o h _=>s a o h
def Rep.same(h:Rep W M H x v)(s:zA H H'):Rep W M H' x v:=Rep.gen s.fr (λ_ m _=>m) h
def yq.same(h:yq W M H x v)(s:zA H H'):yq W M H' x v:=yq.gen s.fr (λ_ m _=>m) h
def jX.same(h:jX W M H x v)(s:zA H H'):jX W M H' x v:=jX.gen s.fr (λ_ m _=>m) h
def Rep.sub(h:Rep W M H x v)(s:∀a,M a->H a≠none->M' a):Rep W M' H x v:=Rep.gen Fr.refl s h
def yq.sub(h:yq W M H x v)(s:∀a,M a->H a≠none->M' a):yq W M' H x v:=yq.gen Fr.refl s h
def jX.sub(h:jX W M H x v)(s:∀a,M a->H a≠none->M' a):jX W M' H x v:=jX.gen Fr.refl s h
def vx.sub(h:vx W M H x v)(s:∀a,M a->H a≠none->M' a):vx W M' H x v:=vx.gen Fr.refl s h
def qe(W:RC)(N M:Sr)(H:Hp):PV->V->Prop
 |.l f,v=>∃p d,v=.ref p/\N p/\H p=some (.lst d)/\yq W M H f d
 |.d a,v=>∃p b,v=.ref p/\N p/\Rd H p (.dK b)/\jX W M H a b
 |.sc g,v=>∃p,v=.ref p/\mf W.K N H p (g.map V.int)
 |.dt a,v=>∃p,v=.ref p/\N p/\Rd H p (.dT (dtV a))
 |.o c fs,v=>∃p e b,v=.ref p/\N p/\H p=some (.ins (W.cls c) e b)/\vx W M H fs b
 |x,v=>Rep W M H x v
def qe.iff:qe W M M H x v↔Rep W M H x v:=by cases x<;>simp only[qe,Rep]
def qe.gen{W:RC}{N M y A:Sr}{H H':Hp}{x:PV}{v:V}(g:Fr N H H')(f:Fr M H H')(j:∀a,N a->H a≠none->y a)(s:∀a,M a->H a≠none->A a)(h:qe W N M H x v):qe W y A H' x v:=by
 cases x with
 |l D=>obtain⟨p,C,e,m,r,q⟩:=h;exact⟨p,C,e,j p m (by rw[r];intro e;cases e),g _ _ r (.inl m),q.gen f s⟩
 |d u=>obtain⟨p,w,e,m,r,q⟩:=h;exact⟨p,w,e,j p m (jK r),g.rd r m,q.gen f s⟩
 |sc E=>obtain⟨p,e,r⟩:=h;exact⟨p,e,r.elim (λz=>.inl ⟨j p z.1 (jK z.2),g.rd z.2 z.1⟩) .inr⟩
 |dt u=>obtain⟨p,e,m,r⟩:=h;exact⟨p,e,j p m (jK r),g.rd r m⟩
 |o c fs=>obtain⟨p,B,w,e,m,r,q⟩:=h;exact⟨p,B,w,e,j p m (by rw[r];intro e;cases e),g _ _ r (.inl m),q.gen f s⟩
 |i n=>exact Rep.gen f s h
 |s n=>exact Rep.gen f s h
 |b n=>exact Rep.gen f s h
 |n=>exact Rep.gen f s h
 |t n=>exact Rep.gen f s h
 |x c n=>exact Rep.gen f s h
def qe.same(h:qe W N M H x v)(s:zA H H'):qe W N M H' x v:=qe.gen s.fr s.fr (λ_ m _=>m) (λ_ m _=>m) h
def qe.sub(h:qe W N M H x v)(b:∀a,N a->H a≠none->N' a)(s:∀a,M a->H a≠none->M' a):qe W N' M' H x v:=qe.gen Fr.refl Fr.refl b s h
def Rep.weak(h:Rep W M H x v):qe W (λ_=>True) M H x v:=qe.sub (qe.iff.mpr h) (λ_ _ _=>trivial) (λ_ m _=>m)
def d9(W:RC)(M:Sr)(H:Hp)(p:Addr):PV->Prop
 |.l f=>∃d,H p=some (.lst d)/\yq W M H f d
 |.d a=>∃b,H p=some (.dK b)/\jX W M H a b
 |.dt a=>H p=some (.dT (dtV a))
 |.o c fs=>∃e b,H p=some (.ins (W.cls c) e b)/\vx W M H fs b
 |_=>False
def d9.Lg(h:d9 W M H p x)(n:N p):qe W N M H x (.ref p):=by
 cases x with
 |l m=>obtain⟨j,e,q⟩:=h;exact⟨p,j,rfl,n,e,q⟩
 |d a=>obtain⟨f,e,q⟩:=h;exact⟨p,f,rfl,n,.inl e,q⟩
 |dt a=>exact⟨p,rfl,n,.inl h⟩
 |o c fs=>obtain⟨g,f,e,q⟩:=h;exact⟨p,g,f,rfl,n,e,q⟩
 |i n=>exact h.elim
 |s n=>exact h.elim
 |b n=>exact h.elim
 |n=>exact h.elim
 |t n=>exact h.elim
 |x c n=>exact h.elim
 |sc n=>exact h.elim
def d9.gen(h:d9 W M H p x)(hp:H' p=H p)(f:Fr M H H')(s:∀a,M a->H a≠none->M' a):d9 W M' H' p x:=by
 cases x with
 |l u=>obtain⟨r,e,q⟩:=h;exact⟨r,hp.trans e,q.gen f s⟩
 |d g=>obtain⟨j,e,q⟩:=h;exact⟨j,hp.trans e,q.gen f s⟩
 |dt g=>exact hp.trans h
 |o c fs=>obtain⟨m,j,e,q⟩:=h;exact⟨m,j,hp.trans e,q.gen f s⟩
 |i n=>exact h.elim
 |s n=>exact h.elim
 |b n=>exact h.elim
 |n=>exact h.elim
 |t n=>exact h.elim
 |x c n=>exact h.elim
 |sc n=>exact h.elim
def d9.some{W:RC}{M:Sr}{H:Hp}{p:Addr}{x:PV}(h:d9 W M H p x):∃o,H p=some o/\¬Imm o:=by
 cases x with
 |l j=>obtain⟨m,e,q⟩:=h;exact⟨_,e,id⟩
 |d a=>obtain⟨f,e,q⟩:=h;exact⟨_,e,id⟩
 |dt a=>exact⟨_,h,id⟩
 |o c fs=>obtain⟨g,f,e,q⟩:=h;exact⟨_,e,id⟩
 |i n=>exact h.elim
 |s n=>exact h.elim
 |b n=>exact h.elim
 |n=>exact h.elim
 |t n=>exact h.elim
 |x c n=>exact h.elim
 |sc n=>exact h.elim
def d9.same(h:d9 W M H p x)(s:zA H H'):d9 W M H' p x:=by obtain⟨o,e,_⟩:=h.some;exact h.gen ((s _ _ e).trans e.symm) s.fr λ_ m _=>m
structure Bs where
 H0:Hp
 M0:Addr->Prop
 N0:Addr->Prop
 nz:∀a,N0 a->H0 a≠none
 pin:Option Addr
 xc:Addr->Prop
structure LC where
 W:RC
 E:XK
 fr:Bool
abbrev Sto:=List (Option PV)
def Bs.Mt(B:Bs):Addr->Prop:=λa=>B.M0 a\/B.H0 a=none
def Mof(B:Bs)(S:So)(P:SA):Addr->Prop:=λa=>(B.Mt a/\¬B.xc a)/\∀i,S[i]?=some 2->P i≠a
structure Rel(W:RC)(B:Bs)(S:So)(P:SA)(H:Hp)(σ:St)(ρ:Sto):Prop where
 same:zA B.H0 H
 len:σ.length=ρ.length
 var:∀(i:Nat) x,ρ[i]?=some (some x)->∃v,σ[i]?=some (some v)/\(S[i]?=some 2->v=.ref (P i)/\d9 W (Mof B S P) H (P i) x)/\(S[i]?=some 1->qe W B.N0 (Mof B S P) H x v)/\(S[i]?≠some 2->S[i]?≠some 1->Rep W (Mof B S P) H x v)
 act:∀i,S[i]?=some 2->B.H0 (P i)=none/\∃o,H (P i)=some o/\¬Imm o
 inj:∀i j,S[i]?=some 2->S[j]?=some 2->P i=P j->i=j
 pin:S[0]?=some 2->∀p,B.pin=some p->P 0=p
 exc:∀a,B.xc a->∃o,H a=some o/\¬Imm o/\B.H0 a=none
 axc:∀i,S[i]?=some 2->¬B.xc (P i)
def Rel.keep{W:RC}{B:Bs}{S:So}{P:SA}{H H':Hp}{σ:St}{ρ:Sto}(R:Rel W B S P H σ ρ)(s:zA H H'):Rel W B S P H' σ ρ where
 same:=R.same.trans s
 len:=R.len
 var:=λi x e=>by obtain⟨v,d,b,f,g⟩:=R.var i x e;exact⟨v,d,λz=>⟨(b z).1,(b z).2.same s⟩,λz=>(f z).same s,λz c=>(g z c).same s⟩
 act:=λi h=>⟨(R.act i h).1,let⟨o,e,n⟩:=(R.act i h).2;⟨o,s _ _ e,n⟩⟩
 inj:=R.inj
 pin:=R.pin
 exc:=λa h=>let⟨o,e,n⟩:=R.exc a h;⟨o,s _ _ e,n⟩
 axc:=R.axc
def Rel.wr(R:Rel W B S P H σ ρ)(c:S[i]?=some 2)(E:i<ρ.length)(g:σ[i]?=some (some (.ref (P i))))(y:¬Imm o)(D:d9 W (Mof B S P) (upd H (P i) o) (P i) x'):Rel W B S P (upd H (P i) o) σ (ρ.set i (some x')):=by
 obtain⟨l,K,r,s⟩:=R.act i c;have p:Fr (Mof B S P) H (upd H (P i) o):=λa q e m=>by
  have:a≠P i:=λz=>by
   rcases m with m|m
   .exact m.2 i c z.symm
   .rw[z,r]at e;cases e;exact s m
  rw[zi this];exact e
 have A:Fr B.N0 H (upd H (P i) o):=λa q e m=>by
  have:a≠P i:=λz=>by
   rcases m with m|m
   .exact B.nz a m (z▸l)
   .rw[z,r]at e;cases e;exact s m
  rw[zi this];exact e
 refine⟨λa q e=>?_,by rw[a0v];exact R.len,λj x e=>?_,λj u=>?_,R.inj,R.pin,λa h=>?_,R.axc⟩
 .have:a≠P i:=λz=>by rw[z,l]at e;cases e
  rw[zi this];exact R.same a q e
 .by_cases b:i=j
  .subst b;rw[a0l E]at e;cases e;exact⟨_,g,λ_=>⟨rfl,D⟩,(λz=>by rw[c]at z;cases z),λz=>absurd c z⟩
  .rw[a0g b]at e;obtain⟨v,F,w,I,J⟩:=R.var j x e;refine⟨v,F,λz=>⟨(w z).1,?_⟩,λz=>qe.gen A p (λ_ m _=>m) (λ_ m _=>m) (I z),λz G=>Rep.gen p (λ_ m _=>m) (J z G)⟩;have:P j≠P i:=λq=>b (R.inj i j c z q.symm);exact(w z).2.gen (zi this) p λ_ m _=>m
 .by_cases b:j=i
  .subst b;exact⟨l,o,zg,y⟩
  .obtain⟨C,f,n,d⟩:=R.act j u;have:P j≠P i:=λq=>b (R.inj j i u c q);exact⟨C,f,by rw[zi this];exact n,d⟩
 .obtain⟨f,n,d⟩:=R.exc a h;by_cases e:a=P i
  .subst e;exact⟨o,zg,y,d.2⟩
  .exact⟨f,by rw[zi e];exact n,d⟩
def qv{S:So}{i j c:Nat}(h:(S.set i 0)[j]?=some 2):S[j]?=some 2/\j≠i:=by
 by_cases e:i=j
 .subst e;rw[List.getElem?_set]at h;rw[if_pos rfl]at h;split at h<;>cases h
 .rw[a0g e]at h;exact⟨h,λz=>e z.symm⟩
def Rel.set(R:Rel W B S P H σ ρ)(q:Rep W (Mof B S P) H x v):Rel W B (S.set i 0) P H (σ.set i (some v)) (ρ.set i (some x)):=by
 have sM:∀a,Mof B S P a->H a≠none->Mof B (S.set i 0) P a:=λa m _=>⟨m.1,λj d=>m.2 j (qv (c:=0) d).1⟩;refine⟨R.same,by rw[a0v,a0v];exact R.len,λj y e=>?_,λj d=>R.act j (qv (c:=0) d).1,λj k d h=>R.inj j k (qv (c:=0) d).1 (qv (c:=0) h).1,λr=>R.pin (qv (c:=0) r).1,R.exc,λj d=>R.axc j (qv (c:=0) d).1⟩;by_cases b:i=j
 .subst b;have f:i<ρ.length:=by
   have:=(T9.mp e).1
   rwa [a0v]at this
  rw[a0l f]at e;cases e;refine⟨v,by rw[a0l (by rw[R.len];exact f)],λz=>absurd rfl (qv (c:=0) z).2,λz=>?_,λ_ _=>q.sub sM⟩;rw[List.getElem?_set,if_pos rfl]at z;split at z<;>cases z
 .rw[a0g b]at e;obtain⟨w,n,g,o,p⟩:=R.var j y e;rw[a0g b,a0g b];exact⟨w,n,λz=>⟨(g z).1,(g z).2.gen rfl Fr.refl sM⟩,λz=>(o z).sub (λ_ m _=>m) sM,λz l=>(p z l).sub sM⟩
def Rel.RS(R:Rel W B S P H σ ρ)(s:zA H H')(hp:H p=none)(G:i<S.length)(r:i≠0)(C:d9 W (λa=>Mof B S P a/\a≠p) H' p x):Rel W B (S.set i 2) (λj=>if j=i then p else P j) H' (σ.set i (some (.ref p))) (ρ.set i (some x)):=by
 have J:B.H0 p=none:=zA.none R.same hp;have g:∀{j},(S.set i 2)[j]?=some 2->j≠i->S[j]?=some 2:=λ{j} h n=>by rwa [a0g (λz=>n z.symm)]at h
 have sM:∀a,Mof B S P a->a≠p->Mof B (S.set i 2) (λj=>if j=i then p else P j) a:=λa m v=>⟨m.1,λj c=>by
  by_cases e:j=i
  .simp only[e,if_true];exact λz=>v z.symm
  .simp only[e,if_false];exact m.2 j (g c e)⟩
 have l:∀a,Mof B S P a->H a≠none->Mof B (S.set i 2) (λj=>if j=i then p else P j) a:=λa m v=>sM a m λz=>v (z▸hp);have F:∀{j},S[j]?=some 2->P j≠p:=λ{j} c z=>by obtain⟨_,o,e,_⟩:=R.act j c;rw[z,hp]at e;cases e
 refine⟨R.same.trans s,by rw[a0v,a0v];exact R.len,λj y e=>?_,λj c=>?_,λj k c A e=>?_,λD q K=>?_,λa h=>let⟨o,e,n⟩:=R.exc a h;⟨o,s _ _ e,n⟩,λj c=>?_⟩
 .by_cases b:i=j
  .subst b;have E:i<ρ.length:=by
    have:=(T9.mp e).1
    rwa [a0v]at this
   rw[a0l E]at e;cases e;rw[a0l (by rw[R.len];exact E),a0l G];refine⟨.ref p,rfl,λ_=>⟨by simp,?_⟩,(λz=>by cases z),λz=>absurd rfl z⟩;simp only[if_true];exact C.gen rfl Fr.refl λa m _=>sM a m.1 m.2
  .rw[a0g b]at e;obtain⟨w,f,d,M,N⟩:=R.var j y e;rw[a0g b,a0g b];have u:¬j=i:=λz=>b z.symm;simp only[u,if_false];exact⟨w,f,λz=>⟨(d z).1,((d z).2.gen (H':=H) rfl Fr.refl l).same s⟩,λz=>((M z).sub (λ_ m _=>m) l).same s,λz L=>((N z L).sub l).same s⟩
 .by_cases b:j=i
  .subst b;simp only[if_true];exact⟨J,C.some⟩
  .simp only[b,if_false];obtain⟨I,o,e,n⟩:=R.act j (g c b);exact⟨I,o,s _ _ e,n⟩
 .by_cases f:j=i
  .by_cases d:k=i
   .rw[f,d]
   .simp only[f,d,if_true,if_false]at e;exact absurd e.symm (F (g A d))
  .by_cases d:k=i
   .simp only[f,d,if_true,if_false]at e;exact absurd e (F (g c f))
   .simp only[f,d,if_false]at e;exact R.inj j k (g c f) (g A d) e
 .rw[a0g r]at D;rw[if_neg (λz=>r z.symm)];exact R.pin D q K
 .by_cases e:j=i
  .rw[if_pos e];exact λz=>by obtain⟨o,q,_⟩:=R.exc p z;rw[hp]at q;cases q
  .rw[if_neg e];exact R.axc j (g c e)
def Rel.freeze(R:Rel W B S P H σ ρ)(f:S[i]?=some 2):Rel W B (S.set i 0) P H σ ρ:=by
 have sM:∀a,Mof B S P a->H a≠none->Mof B (S.set i 0) P a:=λa m _=>⟨m.1,λj b=>m.2 j (qv (c:=0) b).1⟩;refine⟨R.same,R.len,λj y e=>?_,λj b=>R.act j (qv (c:=0) b).1,λj k b l=>R.inj j k (qv (c:=0) b).1 (qv (c:=0) l).1,λo=>R.pin (qv (c:=0) o).1,R.exc,λj b=>R.axc j (qv (c:=0) b).1⟩;obtain⟨w,h,g,s,v⟩:=R.var j y e;by_cases d:i=j
 .subst d;obtain⟨rfl,r⟩:=g f;have u:i<S.length:=(T9.mp f).1;rw[a0l u];refine⟨_,h,(λz=>by cases z),(λz=>by cases z),λ_ _=>qe.iff.mp ((r.gen (H':=H) rfl Fr.refl sM).Lg ⟨⟨.inr (R.act i f).1,λz=>?_⟩,λj b e=>?_⟩)⟩
  .exact R.axc i f z
  obtain⟨p,n⟩:=qv (c:=0) b;exact n (R.inj j i p f e)
 .rw[a0g d];exact⟨w,h,λz=>⟨(g z).1,(g z).2.gen rfl Fr.refl sM⟩,λz=>(s z).sub (λ_ m _=>m) sM,λz q=>(v z q).sub sM⟩
def Rel.wrx(R:Rel W B S P H σ ρ)(g:B.xc a)(F:¬Imm o):Rel W B S P (upd H a o) σ ρ:=by
 obtain⟨J,r,s,f⟩:=R.exc a g;have n:Fr (Mof B S P) H (upd H a o):=λc q e m=>by
  have:c≠a:=λz=>by
   rcases m with m|m
   .exact m.1.2 (z▸g)
   .rw[z,r]at e;cases e;exact s m
  rw[zi this];exact e
 have y:Fr B.N0 H (upd H a o):=λc q e m=>by
  have:c≠a:=λz=>by
   rcases m with m|m
   .exact B.nz c m (z▸f)
   .rw[z,r]at e;cases e;exact s m
  rw[zi this];exact e
 have p:∀{i},S[i]?=some 2->P i≠a:=λ{i} A z=>R.axc i A (z▸g);refine⟨λc q e=>?_,R.len,λj x e=>?_,λj u=>?_,R.inj,R.pin,λc h=>?_,R.axc⟩
 .have:c≠a:=λz=>by rw[z,f]at e;cases e
  rw[zi this];exact R.same c q e
 .obtain⟨v,D,w,G,I⟩:=R.var j x e;exact⟨v,D,λz=>⟨(w z).1,(w z).2.gen (zi (p z)) n λ_ m _=>m⟩,λz=>qe.gen y n (λ_ m _=>m) (λ_ m _=>m) (G z),λz E=>Rep.gen n (λ_ m _=>m) (I z E)⟩
 .obtain⟨C,d,l,b⟩:=R.act j u;exact⟨C,d,by rw[zi (p u)];exact l,b⟩
 .by_cases e:c=a
  .subst e;exact⟨o,zg,F,f⟩
  .obtain⟨d,l,b⟩:=R.exc c h;exact⟨d,by rw[zi e];exact l,b⟩
abbrev ME:=Sto->Out PV
abbrev MT:=Sto->Out Bool
abbrev MA:=Sto->Out (List PV)
inductive Fw where
 |nx (ρ:Sto)|rt (x:PV)|bk (ρ:Sto)|ct (ρ:Sto)
abbrev MS:=Sto->Out Fw
def XPo(C:LC)(B:Bs)(c:Nat)(fs:SO):Prop:=∀e b d a,zA B.H0 a->a e=some (XC e (C.W.cls c) b)->a b=some (XD b d)->vx C.W B.Mt a fs d->C.E (.ref e) (some b) a
def ya(C:LC)(B:Bs)(H:Hp)(R:Hp->PV->V->Prop)(Q:VK):Out PV->Prop
 |.ok r=>∀v a,zA H a->R a r v->Q v a
 |.exc c fs=>XPo C B c fs
 |.wall=>False
def gU(C:LC)(B:Bs)(H:Hp)(Q:Bool->Hp->Prop):Out Bool->Prop
 |.ok r=>∀a,zA H a->Q r a
 |.exc c fs=>XPo C B c fs
 |.wall=>False
def RV(C:LC)(B:Bs)(S:So)(P:SA)(w:Bool)(H:Hp)(x:PV)(v:V):Prop:=qe C.W (if w=true then λ_=>True else Mof B S P) (Mof B S P) H x v
def RV.rep(h:RV C B S P false H x v):Rep C.W (Mof B S P) H x v:=qe.iff.mp h
def RV.of(h:Rep C.W (Mof B S P) H x v):RV C B S P false H x v:=qe.iff.mpr h
def RV.weak(h:RV C B S P w H x v):qe C.W (λ_=>True) (Mof B S P) H x v:=qe.sub h (λ_ _ _=>trivial) λ_ m _=>m
def RV.same(h:RV C B S P w H x v)(s:zA H H'):RV C B S P w H' x v:=qe.same h s
def LE(C:LC)(S:So)(w:Bool)(te:TE)(m:ME):Prop:=∀B P H b a,Rel C.W B S P H b a->∀Q,ya C B H (RV C B S P w) Q (m a)->te b H Q
def LT(C:LC)(S:So)(c:TT)(m:MT):Prop:=∀B P H b a,Rel C.W B S P H b a->∀Q,gU C B H Q (m a)->c b H Q
def EM(X:Cx)(C:LC)(S:So)(w:Bool)(e:Sy)(m:ME):Prop:=X.K=C.W.K->∃a,PE X e a/\LE C S w a m
def TM(X:Cx)(C:LC)(S:So)(e:Sy)(m:MT):Prop:=X.K=C.W.K->∃a,PT X e a/\LT C S a m
def TWM(X:Cx)(C:LC)(S:So)(e:Sy)(m:MT):Prop:=X.K=C.W.K->∃a,PW X e a/\LT C S a m
def ya.bind(h:ya C B H R Q (o.bind f))(k:∀r,o=.ok r->∀v a,zA H a->R0 a r v->ya C B a R Q (f r)->Q' v a)(i:∀a,zA H a->∀x v,R a x v->R a x v):ya C B H R0 Q' o:=by
 cases o with
 |ok r=>exact λv a s e=>k r rfl v a s e (by
   show ya C B a R Q (f r);have h:ya C B H R Q (f r):=h;revert h;cases f r with
   |ok x=>exact λh v b d g=>h v b (s.trans d) g
   |exc c fs=>exact id
   |wall=>exact id)
 |exc c fs=>exact h
 |wall=>exact h
def zN(h:ya C B H R Q (o.bind f))(k:∀r v a,zA H a->R0 a r v->ya C B a R Q (f r)->Q' v a):ya C B H R0 Q' o:=
 ya.bind h (λr _ v a s b hp=>k r v a s b hp) λ_ _ _ _ h=>h
def Yl(h:ya C B H R Q o)(s:zA H H2):ya C B H2 R Q o:=by
 cases o with
 |ok x=>exact λv a b d=>h v a (s.trans b) d
 |exc c fs=>exact h
 |wall=>exact h
def U8(h:gU C B H Q o)(s:zA H H2):gU C B H2 Q o:=by
 cases o with
 |ok x=>exact λa b=>h a (s.trans b)
 |exc c fs=>exact h
 |wall=>exact h
def rT(h:gU C B H Q (o.bind f))(k:∀r v a,zA H a->R0 a r v->gU C B a Q (f r)->Q' v a):ya C B H R0 Q' o:=by
 cases o with
 |ok r=>exact λv a s b=>k r v a s b (U8 (o:=f r) h s)
 |exc c fs=>exact h
 |wall=>exact h
def Va(h:gU C B H Q (o.bind f))(k:∀r a,zA H a->gU C B a Q (f r)->Q' r a):gU C B H Q' o:=by
 cases o with
 |ok r=>exact λa s=>k r a s (U8 (o:=f r) h s)
 |exc c fs=>exact h
 |wall=>exact h
def zc(i:Nat):ME:=λa=>match a[i]? with|some (some x)=>.ok x|_=>.wall
def mC(x:PV):ME:=λ_=>.ok x
section
variable {X:Cx}{C:LC}{S:So}{e a b:Sy}{w w1 w2:Bool}{m m1 m2:ME}
def EM.weak(h:EM X C S w e m):EM X C S true e m:=λn=>by
 obtain⟨l,f,g⟩:=h n;refine⟨l,f,λB P H i d R Q q=>g B P H i d R Q ?_⟩;revert q;cases m d with
 |ok r=>exact λq v j s o=>q v j s (by unfold RV;rw[if_pos rfl];exact o.weak)
 |exc c fs=>exact id
 |wall=>exact id
def lv(R:Rel C.W B S P H σ ρ)(q:ya C B H R' Q (zc i ρ))(k:∀x v,σ[i]?=some (some v)->ρ[i]?=some (some x)->R' H x v):rA i σ H Q:=by
 unfold zc at q;cases e:ρ[i]? with
 |none=>rw[e]at q;exact q.elim
 |some o=>
  cases o with
  |none=>rw[e]at q;exact q.elim
  |some x=>rw[e]at q;obtain⟨v,c,_⟩:=R.var i x e;exact⟨v,c,q v H (zA.refl _) (k x v c e)⟩
def zl(h:PE X e (rA i))(d:S[i]?≠some 2/\S[i]?≠some 1:=by decide):EM X C S false e (zc i):=λ_=>⟨_,h,λB P H n j R Q q=>lv R q λx v g e=>by
 obtain⟨l,c,_,_,f⟩:=R.var i x e;rw[g]at c;cases c;exact RV.of (f d.1 d.2)⟩
def Lh(h:PE X e (rA i)):EM X C S true e (zc i):=λ_=>⟨_,h,λB P H o p R Q q=>lv R q λx v l e=>by
 obtain⟨r,c,g,j,n⟩:=R.var i x e;rw[l]at c;cases c;show qe C.W (if true=true then _ else _) _ _ _ _;rw[if_pos rfl];by_cases d:S[i]?=some 2
 .obtain⟨rfl,z⟩:=g d;exact z.Lg trivial
 .by_cases f:S[i]?=some 1
  .exact(j f).sub (λ_ _ _=>trivial) λ_ m _=>m
  .exact(n d f).weak⟩
def NJ(h:PE X e (tC v))(c:∀M H,Rep C.W M H x v):EM X C S false e (mC x):=λ_=>⟨_,h,λB P H f d R Q q=>q v H (zA.refl _) (RV.of (c _ _))⟩
def z7(h:PE X e (tC (.int i))):EM X C S false e (mC (.i i)):=NJ h λ_ _=>rfl
def qg(h:PE X e (tC (.str i))):EM X C S false e (mC (.s i)):=NJ h λ_ _=>rfl
def Ua(h:PE X e (tC (.bl i))):EM X C S false e (mC (.b i)):=NJ h λ_ _=>rfl
def VA(h:PE X e (tC .non)):EM X C S false e (mC .n):=NJ h λ_ _=>rfl
def mOp(p:PV->PV->Out PV)(m1 m2:ME):ME:=λc=>(m1 c).bind λx=>(m2 c).bind λy=>p x y
def mUn(p:PV->Out PV)(m1:ME):ME:=λc=>(m1 c).bind p
def New(M:Sr)(H:Hp):Prop:=∀p,H p=none->M p
def Rel.new(R:Rel W B S P H σ ρ):New (Mof B S P) H:=λp h=>⟨⟨.inr (zA.none R.same h),λz=>by obtain⟨o,q,_⟩:=R.exc p z;rw[h]at q;cases q⟩,λi c e=>by obtain⟨_,o,q,_⟩:=R.act i c;rw[e,h]at q;cases q⟩
def RV.eq:RV C B S P false=Rep C.W (Mof B S P):=by
 funext H x v;exact propext qe.iff
def Lf2(W:RC)(r:R2)(p:PV->PV->Out PV):Prop:=∀(M:Sr)(C:LC)(B:Bs) H x y v u Q,New M H->qe W (λ_=>True) M H x v->qe W (λ_=>True) M H y u->ya C B H (Rep W M) Q (p x y)->r v u H Q
def Lf1(W:RC)(r:V->Hp->VK->Prop)(p:PV->Out PV):Prop:=∀(M:Sr)(C:LC)(B:Bs) H x v Q,New M H->qe W (λ_=>True) M H x v->ya C B H (Rep W M) Q (p x)->r v H Q
def Cd(L:Lf2 C.W r p)(l:LE C S w1 ta m1)(z:LE C S w2 tb m2):LE C S false (tOp r ta tb) (mOp p m1 m2):=λB P H d f R Q q=>
 l B P H d f R _ (zN q λx v h c j n=>z B P h d f (R.keep c) _ (zN n λy u s g i o=>L _ C B s x y v u Q ((R.keep c).keep g).new (j.same g).weak i.weak (RV.eq▸o)))
def zt(o:OpR X (binaryOp op) r)(L:Lf2 C.W r p)(g:EM X C S w1 a m1)(i:EM X C S w2 b m2):EM X C S false (.BinOp a op b pos) (mOp p m1 m2):=λc=>by obtain⟨l,h,j⟩:=g c;obtain⟨n,d,f⟩:=i c;exact⟨_,Ir o h d,Cd L j f⟩
def Ce(o:UnR X (unaryOp op) r)(L:Lf1 C.W r p)(j:EM X C S w1 a m1):EM X C S false (.UnaryOp op a pos) (mUn p m1):=λs=>by obtain⟨u,n,h⟩:=j s;exact⟨_,Oi o n,λB P H d g R Q q=>h B P H d g R _ (zN q λx v f c i l=>L _ C B f x v Q (R.keep c).new i.weak (RV.eq▸l))⟩
def oB(o:OpR X (compareOp op) r)(L:Lf2 C.W r p)(h:EM X C S w1 a m1)(j:EM X C S w2 b m2)(f:behindInMarks op b=false):EM X C S false (.Compare a [op] [b] pos) (mOp p m1 m2):=λc=>by obtain⟨n,i,l⟩:=h c;obtain⟨q,d,g⟩:=j c;exact⟨_,t9 o i d f,Cd L l g⟩
def asB:PV->Out Bool
 |.b c=>.ok c
 |_=>.wall
def z0(m:ME):MT:=λc=>(m c).bind asB
def U9(h:LE C S w te m):LT C S (Fz te) (z0 m):=λB P H j i R Q q=>
 h B P H j i R _ (rT q λx v f l g d=>by
  cases x with
  |b c=>exact⟨c,(show v=.bl c from g),d f (zA.refl _)⟩
  |_=>exact d.elim)
def yT(o:OpR X (compareOp op) r)(L:Lf2 C.W r p)(h:EM X C S w1 a m1)(j:EM X C S w2 b m2)(f:behindInMarks op b=false):TM X C S (.Compare a [op] [b] pos) (z0 (mOp p m1 m2)):=λc=>by obtain⟨n,i,l⟩:=h c;obtain⟨q,d,g⟩:=j c;exact⟨_,lU o i d f,U9 (Cd L l g)⟩
def U_(p q:PV->PV->Out PV)(m1 m2 d:ME):ME:=λc=>(m1 c).bind λx=>(m2 c).bind λy=>(p x y).bind λz=>(asB z).bind λk=>if k=true then(d c).bind λu=>q y u else .ok (.b false)
variable {c:Sy}{w3:Bool}{m3:ME}
def Cf(L:Lf2 C.W r p)(O:Lf2 C.W r' p')(I:LE C S w1 ta m1)(T:LE C S w2 tb m2)(U:LE C S w3 tc m3):LE C S false (D5 r r' ta tb tc) (U_ p p' m1 m2 m3):=λB P H i g R Q q=>
 I B P H i g R _ (zN q λx v D f F J=>T B P D i g (R.keep f) _ (zN J λy u M h o K=>L _ C B M x y v u _ ((R.keep f).keep h).new (F.same h).weak o.weak (zN K λz s l j N d=>by
  cases z with
  |b k=>
   refine⟨k,(show s=.bl k from N),?_⟩;have d:ya C B l (RV C B S P false) Q (if k=true then(m3 g).bind λu=>p' y u else .ok (.b false)):=d;cases k with
   |true=>exact FO (U B P l i g (((R.keep f).keep h).keep j) _ (zN d λt W E n G A=>O _ C B E y t u W Q ((((R.keep f).keep h).keep j).keep n).new ((o.same j).same n).weak G.weak (RV.eq▸A)))
   |false=>exact FN (d (.bl false) l (zA.refl _) (RV.of rfl))
  |_=>exact d.elim)))
def Cg(o:OpR X (compareOp op) r)(l:OpR X (compareOp op') r')(L:Lf2 C.W r p)(j:Lf2 C.W r' p')(n:EM X C S w1 a m1)(q:EM X C S w2 b m2)(s:EM X C S w3 c m3)
  (h:lastMarks [op,op'] [b,c]=false:=by with_unfolding_all rfl):TM X C S (.Compare a [op,op'] [b,c] pos) (z0 (U_ p p' m1 m2 m3)):=λd=>by
 obtain⟨y,v,x⟩:=n d;obtain⟨A,f,i⟩:=q d;obtain⟨z,u,g⟩:=s d;exact⟨_,BH o l v f u h,U9 (Cf L j x i g)⟩
end
def pI(g:Int->Int->PV):PV->PV->Out PV
 |.i a,.i b=>.ok (g a b)
 |_,_=>.wall
def pU(g:Int->PV):PV->Out PV
 |.i a=>.ok (g a)
 |_=>.wall
def Li(d:∀a b M H,Rep W M H (g a b) (gv a b)):Lf2 W (rI0 gv) (pI g):=λM C B H x y v u Q f e c q=>by
 cases x with
 |i a=>
  cases y with
  |i b=>exact⟨a,b,e,c,q _ H (zA.refl _) (d a b _ _)⟩
  |_=>exact q.elim
 |_=>exact q.elim
def RT(b:∀a M H,Rep W M H (g a) (gv a)):Lf1 W (rU gv) (pU g):=λM C B H x v Q d c q=>by
 cases x with
 |i a=>exact⟨a,c,q _ H (zA.refl _) (b a _ _)⟩
 |_=>exact q.elim
abbrev d_:=pI λa b=>.i (a-b)
abbrev pLt:=pI λa b=>.b (decide (a<b))
abbrev pLe:=pI λa b=>.b (decide (a<=b))
abbrev pGt:=pI λa b=>.b (decide (b<a))
abbrev pGe:=pI λa b=>.b (decide (b<=a))
abbrev oC:=pU λa=>.i (-a)
def QM:Lf2 W (rI0 λi j=>.int (i-j)) d_:=Li λ_ _ _ _=>rfl
def oE:Lf1 W (rU λi=>.int (-i)) oC:=RT λ_ _ _=>rfl
section
variable {W:RC}{M:Sr}{H:Hp}
def yq.nil:yq W M H [] []:=rfl
def yq.cons(h:Rep W M H x v)(t:yq W M H xs vs):yq W M H (x::xs) (v::vs):=⟨v,vs,rfl,h,t⟩
def yq.len:∀{a:SH}{b:Sx},yq W M H a b->b.length=a.length
 |[],_,h=>by cases(show _=_ from h);rfl
 |x::a,_,h=>by obtain⟨v,r,rfl,_,c⟩:=h;rw[S0,S0,yq.len c]
def yq.get:∀{a:SH}{d:Sx}{i:Nat}{x:PV},yq W M H a d->a[i]?=some x->∃v,d[i]?=some v/\Rep W M H x v
 |[],_,_,_,_,e=>by simp at e
 |x::a,_,0,y,h,e=>by obtain⟨v,r,rfl,b,c⟩:=h;simp at e;subst e;exact⟨v,rfl,b⟩
 |x::a,_,i+1,y,h,e=>by obtain⟨v,r,rfl,b,c⟩:=h;simp only[List.getElem?_cons_succ]at e ⊢;exact yq.get c e
def yq.HL:∀{a:SH}{d:Sx}{i:Nat}{v:V},yq W M H a d->d[i]?=some v->∃x,a[i]?=some x/\Rep W M H x v
 |[],_,_,_,h,e=>by cases(show _=_ from h);simp at e
 |x::a,_,0,y,h,e=>by obtain⟨v,r,rfl,b,c⟩:=h;simp at e;subst e;exact⟨x,rfl,b⟩
 |x::a,_,i+1,y,h,e=>by obtain⟨v,r,rfl,b,c⟩:=h;simp only[List.getElem?_cons_succ]at e ⊢;exact yq.HL c e
def yq.append:∀{a d:SH}{c b:Sx},yq W M H a c->yq W M H d b->yq W M H (a++d) (c++b)
 |[],_,_,_,h,k=>by cases(show _=_ from h);exact k
 |x::a,_,_,_,h,k=>by obtain⟨v,r,rfl,e,f⟩:=h;exact⟨v,_,rfl,e,yq.append f k⟩
def yq.take:∀{a:SH}{b:Sx}(n:Nat),yq W M H a b->yq W M H (a.take n) (b.take n)
 |[],_,_,h=>by cases(show _=_ from h);simp;exact yq.nil
 |x::a,_,0,h=>yq.nil
 |x::a,_,n+1,h=>by obtain⟨v,r,rfl,c,d⟩:=h;exact⟨v,_,rfl,c,yq.take n d⟩
def yq.drop:∀{a:SH}{b:Sx}(n:Nat),yq W M H a b->yq W M H (a.drop n) (b.drop n)
 |[],_,_,h=>by cases(show _=_ from h);simp;exact yq.nil
 |x::a,_,0,h=>h
 |x::a,_,n+1,h=>by obtain⟨v,r,rfl,d,c⟩:=h;exact yq.drop n c
def yq.set{x:PV}{v:V}(d:Rep W M H x v):∀{a:SH}{e:Sx}(n:Nat),yq W M H a e->yq W M H (a.set n x) (e.set n v)
 |[],_,_,h=>by cases(show _=_ from h);simp;exact yq.nil
 |y::a,_,0,h=>by obtain⟨v,r,rfl,c,b⟩:=h;exact⟨_,_,rfl,d,b⟩
 |y::a,_,n+1,h=>by obtain⟨v,r,rfl,c,b⟩:=h;exact⟨v,_,rfl,c,yq.set d n b⟩
def yq.ints:∀{a:SS},yq W M H (a.map PV.i) (a.map V.int)
 |[]=>rfl
 |n::a=>⟨_,_,rfl,rfl,yq.ints⟩
def yq.at(h:yq W M H xs vs)(e:atI xs i=some x):∃v,atI vs i=some v/\Rep W M H x v:=by
 unfold atI at e ⊢;rw[h.len];cases q:ixN xs.length i with
 |none=>rw[q]at e;cases e
 |some j=>rw[q]at e;exact h.get e
def yq.cut{xs:SH}{vs:Sx}{a b:Tr}(h:yq W M H xs vs):yq W M H ((xs.drop (HT.sIx xs.length 0 a)).take (HT.sIx xs.length xs.length b-HT.sIx xs.length 0 a)) (D8 vs a b):=by unfold D8;rw[h.len];exact(h.drop _).take _
def jX.iff:∀{c:SN}{b:SE},jX W M H c b↔b.map (·.1)=c.map (·.1)/\yq W M H (c.map (·.2)) (b.map (·.2))
 |[],b=>⟨λh=>by cases(show _=_ from h);exact⟨rfl,rfl⟩,λh=>by cases b with|nil=>rfl|cons a r=>cases h.1⟩
 |i::r,b=>by
  constructor
  .rintro ⟨v,q,rfl,f,g⟩
   obtain⟨e,t⟩:=jX.iff.mp g;exact⟨by simp only[List.map_cons,e],v,_,rfl,f,t⟩
  .rintro ⟨e,v,q,d,f,g⟩
   cases b with
   |nil=>cases d
   |cons a b=>simp only[List.map_cons,List.cons.injEq]at e d;refine⟨a.2,b,by rw[<- e.1],by rw[d.1];exact f,jX.iff.mpr ⟨e.2,by rw[d.2];exact g⟩⟩
def vx.iff:∀{c:SO}{b:SW},vx W M H c b↔b.map (·.1)=c.map (·.1)/\yq W M H (c.map (·.2)) (b.map (·.2))
 |[],b=>⟨λh=>by cases(show _=_ from h);exact⟨rfl,rfl⟩,λh=>by cases b with|nil=>rfl|cons a r=>cases h.1⟩
 |i::r,b=>by
  constructor
  .rintro ⟨v,q,rfl,f,g⟩
   obtain⟨e,t⟩:=vx.iff.mp g;exact⟨by simp only[List.map_cons,e],v,_,rfl,f,t⟩
  .rintro ⟨e,v,q,d,f,g⟩
   cases b with
   |nil=>cases d
   |cons a b=>simp only[List.map_cons,List.cons.injEq]at e d;refine⟨a.2,b,by rw[<- e.1],by rw[d.1];exact f,vx.iff.mpr ⟨e.2,by rw[d.2];exact g⟩⟩
def vx.lookup:∀{a:SO}{b:SW}{f:Str}{x:PV},vx W M H a b->a.lookup f=some x->∃v,b.lookup f=some v/\Rep W M H x v
 |[],_,_,_,_,e=>by cases e
 |d::r,_,f,x,h,e=>by
  obtain⟨v,q,rfl,g,i⟩:=h;rw[a0u]at e ⊢;by_cases c:(f==d.1)=true
  .simp only[c]at e ⊢;cases e;exact⟨v,rfl,g⟩
  .simp only[c]at e ⊢;exact vx.lookup i e
def vx.uF:∀{a:SO}{b:SW}{f:Str},vx W M H a b->a.lookup f=none->b.lookup f=none
 |[],_,_,h,_=>by cases(show _=_ from h);rfl
 |d::r,_,f,h,e=>by
  obtain⟨v,q,rfl,i,g⟩:=h;rw[a0u]at e ⊢;by_cases c:(f==d.1)=true
  .simp only[c]at e;cases e
  .simp only[c]at e ⊢;exact vx.uF g e
def uG(n:New M H)(hp:H p=none)(h:yq W M H xs vs):Rep W M (upd H p (.lst vs)) (.l xs) (.ref p):=⟨p,vs,rfl,n p hp,zg,h.same (zA.upd hp)⟩
def F3(hp:H p=none)(h:yq W M H xs vs):Rep W M (upd H p (.tup vs)) (.t xs) (.ref p):=⟨p,vs,rfl,SqT.of zg,h.same (zA.upd hp)⟩
end
def Lj:R2:=λx y H Q=>(rI0 (λi j=>.int (i+j)) x y H Q\/∃i j,x=.str i/\y=.str j/\i.length+j.length<=sizeLine/\Q (.str (i++j)) H)\/P0 x y H Q
def zB:OpR X (binaryOp .Add) Lj:=(Iu.or rF).or Ec
def zJ:PV->PV->Out PV
 |.i a,.i b=>.ok (.i (a+b))
 |.s a,.s b=>if a.length+b.length<=sizeLine then .ok (.s (a++b))else .wall
 |.l a,.l b=>if a.length+b.length<=sizeLine then .ok (.l (a++b))else .wall
 |_,_=>.wall
def zC:Lf2 W Lj zJ:=λM C B H x y v u Q n a c q=>by
 unfold zJ at q;split at q
 .exact .inl (.inl ⟨_,_,a,c,q _ H (zA.refl _) rfl⟩)
 .split at q
  .rename_i h;exact .inl (.inr ⟨_,_,a,c,h,q _ H (zA.refl _) rfl⟩)
  .exact q.elim
 .split at q
  .rename_i h;obtain⟨p,f,rfl,_,e,r⟩:=a;obtain⟨g,b,rfl,_,i,d⟩:=c;exact .inr ⟨p,g,f,b,rfl,rfl,e,i,by rw[r.len,d.len];exact h,λz hz=>q _ _ (zA.upd hz) (uG n hz (r.append d))⟩
  .exact q.elim
 .exact q.elim
def Lk:R2:=λx y H Q=>(rI D4 (λi j=>.int (i*j)) x y H Q\/rI B9 (λi j=>.int (i*j)) x y H Q)\/(Ld x y H Q\/P1 x y H Q)
def QN:OpR X (binaryOp .Mult) Lk:=(Iv.or FU).or (rS.or IH)
instance{i j:Int}:Decidable (D4 i j):=by unfold D4;infer_instance
instance{i j:Int}:Decidable (HI i j):=by unfold HI;infer_instance
instance{i j:Int}:Decidable (HJ i j):=by unfold HJ;infer_instance
def Ke:PV->PV->Out PV
 |.i a,.i b=>if D4 a b\/(a.natAbs<2 ^ 8192/\b.natAbs<2 ^ 8192)then .ok (.i (a*b))else .wall
 |.s a,.i b=>if a.length<=16/\-2 ^ 63<=b/\b<=1048576 then .ok (.s (Txt.mul a b))else .wall
 |.l a,.i b=>if -(2 ^ 63)<=b/\b<2 ^ 63/\a.length*b.toNat<=sizeLine then .ok (.l (List.replicate b.toNat a).flatten)else .wall
 |_,_=>.wall
def yq.rep{W:RC}{M:Sr}{H:Hp}{xs:SH}{vs:Sx}(h:yq W M H xs vs):∀n,yq W M H (List.replicate n xs).flatten (List.replicate n vs).flatten
 |0=>rfl
 |n+1=>by rw[a0Z,a0Z,a1l,a1l];exact h.append (h.rep n)
def QO:Lf2 W Lk Ke:=λM C B H x y v u Q n b a q=>by
 unfold Ke at q;split at q
 .split at q
  .rename_i h;rcases h with h|h
   .exact .inl (.inl ⟨_,_,b,a,h,q _ H (zA.refl _) rfl⟩)
   .exact .inl (.inr ⟨_,_,b,a,h,q _ H (zA.refl _) rfl⟩)
  .exact q.elim
 .split at q
  .rename_i h;exact .inr (.inl ⟨_,_,b,a,h.1,h.2.1,h.2.2,q _ H (zA.refl _) rfl⟩)
  .exact q.elim
 .split at q
  .rename_i h;obtain⟨p,c,rfl,_,e,r⟩:=b;exact .inr (.inr ⟨p,_,c,rfl,a,e,h.1,h.2.1,by rw[r.len];exact h.2.2,λz hz=>q _ _ (zA.upd hz) (uG n hz (r.rep _))⟩)
  .exact q.elim
 .exact q.elim
def Ll:R2:=λx y H Q=>rI HI (λi j=>.int (i / j)) x y H Q\/rI Le (λi j=>.int (i.fdiv j)) x y H Q
def Zy:OpR X (binaryOp .FloorDiv) Ll:=Fx.or Cb
def Yv:PV->PV->Out PV
 |.i a,.i b=>if HI a b then .ok (.i (a / b))else if b≠0/\b.natAbs<2 ^ 8192 then .ok (.i (a.fdiv b))else .wall
 |_,_=>.wall
def Zz:Lf2 W Ll Yv:=λM C B H x y v u Q n b a q=>by
 unfold Yv at q;split at q
 .split at q
  .rename_i h;exact .inl ⟨_,_,b,a,h,q _ H (zA.refl _) rfl⟩
  .split at q
   .rename_i h;exact .inr ⟨_,_,b,a,h,q _ H (zA.refl _) rfl⟩
   .exact q.elim
 .exact q.elim
def Lm:R2:=λx y H Q=>rI (λ_ j=>0<j) (λi j=>.int (i % j)) x y H Q\/rI (λ_ j=>j≠0) (λi j=>.int (i.fmod j)) x y H Q
def zK:OpR X (binaryOp .Mod) Lm:=Iw.or Fy
def zX:PV->PV->Out PV
 |.i a,.i b=>if 0<b then .ok (.i (a % b))else if b≠0 then .ok (.i (a.fmod b))else .wall
 |_,_=>.wall
def zL:Lf2 W Lm zX:=λM C B H x y v u Q n b a q=>by
 unfold zX at q;split at q
 .split at q
  .rename_i h;exact .inl ⟨_,_,b,a,h,q _ H (zA.refl _) rfl⟩
  .split at q
   .rename_i h;exact .inr ⟨_,_,b,a,h,q _ H (zA.refl _) rfl⟩
   .exact q.elim
 .exact q.elim
def aa:PV->PV->Out PV
 |.i a,.i b=>if HJ a b then .ok (.i (a ^ b.toNat))else .wall
 |_,_=>.wall
def WE:Lf2 W (rI HJ λi j=>.int (i ^ j.toNat)) aa:=λM C B H x y v u Q n b a q=>by
 unfold aa at q;split at q
 .split at q
  .rename_i h;exact⟨_,_,b,a,h,q _ H (zA.refl _) rfl⟩
  .exact q.elim
 .exact q.elim
def bY:Lf2 W (rI0 λi j=>.bl (decide (i<j))) pLt:=Li λ_ _ _ _=>rfl
def rV:Lf2 W (rI0 λi j=>.bl (decide (i<=j))) pLe:=Li λ_ _ _ _=>rfl
def gX:Lf2 W (rI0 λi j=>.bl (decide (j<i))) pGt:=Li λ_ _ _ _=>rfl
def OK:Lf2 W (rI0 λi j=>.bl (decide (j<=i))) pGe:=Li λ_ _ _ _=>rfl
def isN:PV->Bool
 |.n=>true
 |_=>false
def tL(a:Bool):PV->PV->Out PV
 |x,.n=>.ok (.b (xor a (isN x)))
 |_,_=>.wall
def Ln(h:qe W N M H x v):decide (v=.non)=isN x:=by
 cases x with
 |n=>cases(show v=_ from h);rfl
 |i a=>cases(show v=_ from h);rfl
 |s a=>cases(show v=_ from h);rfl
 |b a=>cases(show v=_ from h);rfl
 |l a=>obtain⟨p,_,rfl,_⟩:=h;rfl
 |t a=>obtain⟨p,_,rfl,_⟩:=h;rfl
 |d a=>obtain⟨p,_,rfl,_⟩:=h;rfl
 |o c a=>obtain⟨p,_,_,rfl,_⟩:=h;rfl
 |x c a=>obtain⟨p,_,_,rfl,_⟩:=h;rfl
 |sc a=>obtain⟨p,rfl,_⟩:=h;rfl
 |dt a=>obtain⟨p,rfl,_⟩:=h;rfl
def oF:Lf2 W (λx y H Q=>y=.non/\Q (.bl (decide (x=.non))) H) (tL false):=λM C B H x y v u Q n b a q=>by
 unfold tL at q;split at q
 .refine⟨a,?_⟩;rw[Ln b];exact q _ H (zA.refl _) (by rw[a1T];rfl)
 .exact q.elim
def uH:Lf2 W (λx y H Q=>y=.non/\Q (.bl (!decide (x=.non))) H) (tL true):=λM C B H x y v u Q n b a q=>by
 unfold tL at q;split at q
 .refine⟨a,?_⟩;rw[Ln b];exact q _ H (zA.refl _) (by rw[a1w];rfl)
 .exact q.elim
def lK.rk(e:Rd H a (.dK kvs)):lK H a (kV k) (X_ kvs k):=.inl ⟨kvs,k,e,rfl,rfl⟩
def RFr(W:RC)(M:Sr)(H:Hp)(b:Hp)(x:PV)(v:V):Prop:=∃p,v=.ref p/\H p=none/\d9 W (λa=>M a/\a≠p) b p x
def RFr.rep(n:New M H)(h:RFr W M H H2 x v):Rep W M H2 x v:=by obtain⟨p,rfl,hp,h⟩:=h;exact qe.iff.mp ((h.Lg (N:=M) (n p hp)).sub (λ_ m _=>m) λ_ m _=>m.1)
def LFr(C:LC)(S:So)(te:TE)(m:ME):Prop:=∀B P H b a,Rel C.W B S P H b a->∀Q,ya C B H (RFr C.W (Mof B S P) H) Q (m a)->te b H Q
def FM(X:Cx)(C:LC)(S:So)(e:Sy)(m:ME):Prop:=X.K=C.W.K->∃a,PE X e a/\LFr C S a m
def VB(h:ya C B H R Q o)(k:∀x v a,zA H a->R' a x v->R a x v):ya C B H R' Q o:=by
 cases o with
 |ok r=>exact λv a s b=>h v a s (k _ _ _ s b)
 |exc c fs=>exact h
 |wall=>exact h
def FM.em(h:FM X C S e m):EM X C S false e m:=λi=>by obtain⟨g,b,d⟩:=h i;exact⟨g,b,λB P H c a R Q q=>d B P H c a R Q (VB q λx v j s f=>RV.of (f.rep R.new))⟩
def RVs(C:LC)(B:Bs)(S:So)(P:SA)(H:Hp):List Bool->List PV->List V->Prop
 |[],a,b=>a=[]/\b=[]
 |w::e,a,b=>∃x v d c,a=x::d/\b=v::c/\RV C B S P w H x v/\RVs C B S P H e d c
def rW(C:LC)(B:Bs)(H:Hp)(R:Hp->List PV->List V->Prop)(Q:List V->Hp->Prop):Out (List PV)->Prop
 |.ok r=>∀v a,zA H a->R a r v->Q v a
 |.exc c fs=>XPo C B c fs
 |.wall=>False
def LA(C:LC)(S:So)(ws:Su)(c:TA)(m:MA):Prop:=∀B P H b a,Rel C.W B S P H b a->∀Q,rW C B H (λd=>RVs C B S P d ws) Q (m a)->c b H Q
def AM(X:Cx)(C:LC)(S:So)(ws:Su)(es:Sw)(m:MA):Prop:=X.K=C.W.K->∃a,PA X es a/\LA C S ws a m
def zk:MA:=λ_=>.ok []
def zb(m:ME)(ms:MA):MA:=λa=>(m a).bind λx=>(ms a).bind λb=>.ok (x::b)
def rX{b:Type}{f:PV->Out b}{T:Hp->Out b->Prop}(e:∀H a o,zA H a->T H o->T a o)(g:∀c fs,T H (.exc c fs)->XPo C B c fs)(d:T H .wall->False)
  (h:T H (o.bind f)) (k:∀r v a,zA H a->R a r v->T a (f r)->Q' v a):ya C B H R Q' o:=by
 cases o with
 |ok r=>exact λv a s i=>k r v a s i (e _ _ _ s h)
 |exc c fs=>exact g _ _ h
 |wall=>exact d h
def mj(s:zA H H2)(h:rW C B H R Q o):rW C B H2 R Q o:=by
 cases o with
 |ok x=>exact λv a b d=>h v a (s.trans b) d
 |exc c fs=>exact h
 |wall=>exact h
def qw(h:ya C B H R Q (o.bind f))(k:∀r v a,zA H a->R' a r v->ya C B a R Q (f r)->Q' v a):rW C B H R' Q' o:=by
 cases o with
 |ok r=>exact λv a s b=>k r v a s b (Yl (o:=f r) h s)
 |exc c fs=>exact h
 |wall=>exact h
section
variable {X:Cx}{C:LC}{S:So}{e a b:Sy}{es:Sw}{w w1:Bool}{ws:Su}{m m1 m2:ME}{ms:MA}{t1 t2:MT}{pos:Pos}
def ze:AM X C S [] [] zk:=λ_=>⟨_,Xg,λB P H d c R Q q=>q [] H (zA.refl _) ⟨rfl,rfl⟩⟩
def za(h:EM X C S w e m)(G:AM X C S ws es ms)(u:starEach (e::es) X.env=(false,eval e X.env)::starEach es X.env:=by rfl):AM X C S (w::ws) (e::es) (zb m ms):=λn=>by
 obtain⟨K,I,A⟩:=h n;obtain⟨J,D,p⟩:=G n;refine⟨_,Zv I D u,λB P H i d R Q q=>A B P H i d R _ (rX (T:=λH o=>rW C B H (λg=>RVs C B S P g (w::ws)) Q o) (λ_ _ _ s h=>mj s h) (λ_ _ h=>h) (λh=>h) q λx v y r E f=>?_)⟩;refine p B P y i d (R.keep r) _ ?_;revert f;cases ms d with
 |ok F=>exact λf j g l z=>f (v::j) g l ⟨x,v,F,j,rfl,rfl,E.same l,z⟩
 |exc c fs=>exact id
 |wall=>exact id
def RVs.NK{B:Bs}{P:SA}{H:Hp}:∀{ws:Su}{h:SH}{i:Sx},RVs C B S P H ws h i->ws.all (!·)=true->yq C.W (Mof B S P) H h i
 |[],_,_,⟨f,d⟩,_=>by subst f;subst d;rfl
 |w::ws,_,_,⟨x,v,n,j,f,d,g,l⟩,c=>by subst f;subst d;simp only[List.all_cons,Bool.and_eq_true,Bool.not_eq_true']at c;rw[c.1]at g;exact⟨v,j,rfl,g.rep,RVs.NK l c.2⟩
def QP(ms:MA):ME:=λd=>(ms d).bind λc=>if c.length<=sizeLine then .ok (.l c)else .wall
def Yw(ms:MA):ME:=λd=>(ms d).bind λc=>if c.length<=sizeLine then .ok (.t c)else .wall
def jn(h:AM X C S ws es ms)(j:ws.all (!·)=true:=by rfl):FM X C S (.List es pos) (QP ms):=λu=>by
 obtain⟨x,s,o⟩:=h u;refine⟨_,Iz s,λB P H g l R Q q=>o B P H g l R _ (qw q λA i y f r c=>?_)⟩;have d:=r.NK j;split at c
 .rename_i v;exact⟨by rw[d.len];exact v,λp hp=>c _ _ (zA.upd hp) ⟨p,rfl,zA.none f hp,i,zg,(d.sub λa m n=>⟨m,λz=>n (z▸hp)⟩).same (zA.upd hp)⟩⟩
 .exact c.elim
def qp{x1}(h:AM X C S ws es ms)(g:ws.all (!·)=true:=by rfl):EM X C S false (.Tuple es x1 pos) (Yw ms):=λo=>by
 obtain⟨u,n,j⟩:=h o;refine⟨_,UZ n,λB P H f i R Q q=>j B P H f i R _ (qw q λy v x s l c=>?_)⟩;have d:=l.NK g;split at c
 .rename_i r;exact⟨by rw[d.len];exact r,λp hp=>c _ _ (zA.upd hp) (RV.of (F3 hp d))⟩
 .exact c.elim
def UB(t u:MT):MT:=λd=>(t d).bind λc=>if c=true then u d else .ok false
def mOr(t u:MT):MT:=λd=>(t d).bind λc=>if c=true then .ok true else u d
def Ci(t:MT):MT:=λd=>(t d).bind λc=>.ok (!c)
def gY(m1 m2:ME):ME:=λd=>(m1 d).bind λx=>(asB x).bind λc=>if c=true then m2 d else .ok (.b false)
def TWM.tm(h:TWM X C S e t1):TM X C S e t1:=λc=>let⟨tt,a1,a2⟩:=h c;⟨tt,a1.pt,a2⟩
def ZA(h:TM X C S a t1):TWM X C S (.BoolOp .And [a] pos) t1:=λc=>let⟨tt,a1,a2⟩:=h c;⟨tt,pw_and1 a1,a2⟩
def c8(h:TM X C S a t1):TWM X C S (.BoolOp .Or [a] pos) t1:=λc=>let⟨tt,a1,a2⟩:=h c;⟨tt,pw_or1 a1,a2⟩
variable {rest:Sw}
def QQ(h:TM X C S a t1)(s:TWM X C S (.BoolOp .And (b::rest) pos) t2):TWM X C S (.BoolOp .And (a::b::rest) pos) (UB t1 t2):=λj=>by
 obtain⟨u,r,o⟩:=h j;obtain⟨v,p,l⟩:=s j;refine⟨_,pw_and r p,λB P H d g R Q q=>o B P H d g R _ (Va q λc f n i=>?_)⟩;cases c with
 |true=>exact FO (l B P f d g (R.keep n) _ i)
 |false=>exact FN (i f (zA.refl _))
def mq(h:TM X C S a t1)(s:TWM X C S (.BoolOp .Or (b::rest) pos) t2):TWM X C S (.BoolOp .Or (a::b::rest) pos) (mOr t1 t2):=λj=>by
 obtain⟨u,r,o⟩:=h j;obtain⟨v,p,l⟩:=s j;refine⟨_,pw_or r p,λB P H d g R Q q=>o B P H d g R _ (Va q λc f n i=>?_)⟩;cases c with
 |true=>exact FO (i f (zA.refl _))
 |false=>exact FN (l B P f d g (R.keep n) _ i)
def gZ(h:TM X C S a t1):TM X C S (.UnaryOp .Not a pos) (Ci t1):=λl=>by obtain⟨p,j,n⟩:=h l;exact⟨_,D2 j,λB P H g f R Q q=>n B P H g f R _ (Va q λc d o i=>i d (zA.refl _))⟩
def Ym(h:EM X C S w e m)(he:∀c,isTrue e X.env c=(do let v<-c;standAt e.pos;holding [v] (truthy v)):=by intro _;rfl):TM X C S e (z0 m):=λg=>by obtain⟨i,d,f⟩:=h g;exact⟨_,Ij d he,U9 f⟩
def uI{op}(h:EM X C S w a m):EM X C S w (.BoolOp op [a] pos) m:=λc=>let⟨tt,a1,a2⟩:=h c;⟨tt,Ik a1,a2⟩
def uJ(h:EM X C S w1 a m1)(s:EM X C S false (.BoolOp .And (b::rest) pos) m2):EM X C S false (.BoolOp .And (a::b::rest) pos) (gY m1 m2):=λj=>by
 obtain⟨y,u,o⟩:=h j;obtain⟨z,p,l⟩:=s j;refine⟨_,Il u p,λB P H f i R Q q=>o B P H f i R _ (zN q λx v g n r d=>?_)⟩;cases x with
 |b c=>
  refine⟨c,(show v=.bl c from r),?_⟩;cases c with
  |true=>exact FO (l B P g f i (R.keep n) _ d)
  |false=>exact FN (d _ g (zA.refl _) (RV.of rfl))
 |_=>exact d.elim
end
def zP{a b:Type}[DecidableEq a](kvs:List (a×b))(k:a):Option b:=(kvs.find? λc=>decide (c.1=k)).map (·.2)
def jX.get{W:RC}{M:Sr}{H:Hp}:∀{a:SN}{b:SE}{k:Key}{x:PV},jX W M H a b->zP a k=some x->∃v,X_ b k=some v/\Rep W M H x v
 |[],_,_,_,_,e=>by cases e
 |d::r,_,k,x,h,e=>by
  obtain⟨v,q,rfl,f,g⟩:=h;unfold zP at e;unfold X_;rw[a1z]at e ⊢;by_cases c:d.1=k
  .simp only[c,decide_true]at e ⊢;cases e;exact⟨v,rfl,f⟩
  .simp only[c,decide_false]at e ⊢;exact jX.get g e
def jX.NL{W:RC}{M:Sr}{H:Hp}:∀{a:SN}{b:SE}{k:Key},jX W M H a b->zP a k=none->X_ b k=none
 |[],_,_,h,_=>by cases(show _=_ from h);rfl
 |d::r,_,k,h,e=>by
  obtain⟨v,q,rfl,g,f⟩:=h;unfold zP at e;unfold X_;rw[a1z]at e ⊢;by_cases c:d.1=k
  .simp only[c,decide_true]at e;cases e
  .simp only[c,decide_false]at e ⊢;exact jX.NL f e
def jX.RU(h:jX W M H kvs es):(X_ es k).isSome=(zP kvs k).isSome:=by
 cases e:zP kvs k with
 |none=>rw[h.NL e];rfl
 |some x=>obtain⟨v,q,_⟩:=h.get e;rw[q];rfl
def pk:PV->Option Key
 |.i n=>some (.inl n)
 |.s x=>some (.inr x)
 |_=>none
def WG(h:qe W N M H x v)(e:pk x=some k):v=kV k:=by
 cases x with
 |i n=>cases e;exact h
 |s n=>cases e;exact h
 |_=>cases e
def P2:R2:=λx y H Q=>∃a v,x=.ref a/\lK H a y (some v)/\Q v H
def mr(m:X.A.units+1<cLine):IxR X P2:=by
 intro e c f s p H x y v u Q I o z h n;obtain⟨a,w,rfl,g,q⟩:=h;cases o;have l:=l4 I g;unfold subscriptTail;refine f8 ?_;rw[a24 l.not_modules];refine f8 (a2V l PySem.F.slot_dict_getitem.lookup ?_);have d:wpAny (TQ X) X.A (subscripted c false (.ref a) u) (λr b=>wpAny (TQ X) X.A (letTemporaryGo e (.ref a) r >>= λ_=>pure r) (EP X f p Q) X.xe b) X.xe s:=by rw[n];exact wpAny_operating (a0A (ui m I g z λw B A j=>⟨_,H,A,j,q⟩) (λr b i=>f8 (a3c (S8 i))) λ_ _ x=>x)
 first
  |exact S8 (f8 d)
  |exact f8 (S8 (f8 d))
  |exact f8 d
def P4(K:SV):R2:=λx y H Q=>rIx K x y H Q\/P2 x y H Q
def kW{b:Type}:Option b->Out b
 |some a=>.ok a
 |none=>.wall
def pIx:PV->PV->Out PV
 |.l b,.i k=>kW (atI b k)
 |.t b,.i k=>kW (atI b k)
 |.sc d,.i k=>kW ((atI d k).map PV.i)
 |.s z,.i k=>if z.length<=sizeLine then kW ((atI z.cps.toList k).map λc=>.s ⟨#[c]⟩)else .wall
 |.d a,y=>kW ((pk y).bind λk=>zP a k)
 |_,_=>.wall
def qj(h:ya C B H R Q (kW o)):∃x,o=some x/\∀v a,zA H a->R a x v->Q v a:=by
 cases o with
 |none=>exact h.elim
 |some x=>exact⟨x,rfl,h⟩
def Lo:Lf2 W (P4 W.K) pIx:=λM C B H x y v u Q n b f q=>by
 unfold pIx at q;split at q
 .obtain⟨x,e,q⟩:=qj q;obtain⟨p,h,rfl,_,a,r⟩:=b;obtain⟨v,g,d⟩:=r.at e;exact .inl (.inl ⟨p,h,_,v,rfl,f,SqL.of a,g,q v H (zA.refl _) d⟩)
 .obtain⟨x,e,q⟩:=qj q;obtain⟨p,h,rfl,a,r⟩:=b;obtain⟨v,g,d⟩:=r.at e;exact .inl (.inr (.inl ⟨p,h,_,v,rfl,f,a,g,q v H (zA.refl _) d⟩))
 .obtain⟨x,e,q⟩:=qj q;obtain⟨p,rfl,a⟩:=b;obtain⟨z,hz,rfl⟩:=u8.mp e;refine .inl (.inl ⟨p,_,_,.int z,rfl,f,a.sq,?_,q _ H (zA.refl _) rfl⟩);unfold atI at hz ⊢;rw[v4];cases c:ixN _ _ with
  |none=>rw[c]at hz;cases hz
  |some j=>rw[c,Option.bind_some]at hz;show(List.map V.int _)[j]?=_;rw[a0k,hz];rfl
 .split at q
  .rename_i a;obtain⟨x,e,q⟩:=qj q;obtain⟨z,hz,rfl⟩:=u8.mp e;exact .inl (.inr (.inr ⟨_,_,z,b,f,a,hz,q _ H (zA.refl _) rfl⟩))
  .exact q.elim
 .obtain⟨x,e,q⟩:=qj q;obtain⟨p,l,rfl,_,a,r⟩:=b;obtain⟨k,i,e⟩:=a0d.mp e;obtain⟨v,g,d⟩:=r.get e;exact .inr ⟨p,v,rfl,by rw[WG f i,<- g];exact lK.rk a,q v H (zA.refl _) d⟩
 .exact q.elim
def Cj(e:X.A.units+1<cLine)(h:EM X C S w1 a m1)(j:EM X C S w2 b m2)(f:WD b:=by intro _ _;rfl):EM X C S false (.Subscript a b pos) (mOp pIx m1 m2):=λc=>by obtain⟨m,i,l⟩:=h c;obtain⟨n,d,g⟩:=j c;exact⟨_,BM (D9.or (mr e)) i d f,Cd (by rw[c];exact Lo) l g⟩
def toV:PV->Option V
 |.i a=>some (.int a)
 |.s a=>some (.str a)
 |.b a=>some (.bl a)
 |.n=>some .non
 |_=>none
def ae(h:qe W N M H x v)(e:toV x=some u):v=u/\X9 u=true:=by cases x<;>first|(cases e;exact⟨h,rfl⟩)|cases e
def NM:Option Bool->Option Bool->Option Bool
 |some a,some b=>some (a&&b)
 |_,_=>none
def mw(f:Ts):List PV->List PV->Option Bool
 |[],[]=>some true
 |x::a,y::b=>NM (f x y) (mw f a b)
 |_,_=>some false
def HN(f:Ts)(b:SN):List (Key×PV)->Option Bool
 |[]=>some true
 |a::r=>match zP b a.1 with
  |none=>some false
  |some y=>NM (f a.2 y) (HN f b r)
def Lp(x y:PV):Option Bool:=match toV x,toV y with|some a,some b=>some (eqV a b)|_,_=>none
def ej:Nat->PV->PV->Option Bool
 |n+1,.l a,.l b=>mw (ej n) a b
 |n+1,.t a,.t b=>mw (ej n) a b
 |_,x,y=>Lp x y
def NO(n:Nat):PV->PV->Option Bool
 |.d a,.d b=>if a.length=b.length then HN (ej n) b a else some false
 |x,y=>ej n x y
def VC(h:NM a b=some c):∃p q,a=some p/\b=some q/\c=(p&&q):=by cases a<;>cases b<;>first|(cases h;done)|(cases h;exact⟨_,_,rfl,rfl,rfl⟩)
def oG{f:Ts}:∀{a c:SH}{b:Bool},mw f a c=some b->a.length≠c.length->b=false
 |[],[],_,_,h=>absurd rfl h
 |[],_::_,_,h,_=>by cases h;rfl
 |_::_,[],_,h,_=>by cases h;rfl
 |x::a,y::c,b,h,n=>by obtain⟨p,q,_,d,rfl⟩:=VC h;rw[oG d (λz=>n (by rw[S0,S0,z])),a25]
def mx{f:Ts}:∀{d g:SH}{b:Bool},mw f d g=some b->∃e:Nat->Bool,(∀j x y,d[j]?=some x->g[j]?=some y->f x y=some (e j))/\b=((List.range (min d.length g.length)).all e&&d.length==g.length)
 |[],[],b,h=>⟨λ_=>true,(λj x y h=>by simp at h),by cases h;rfl⟩
 |[],_::_,b,h=>⟨λ_=>true,(λj x y h=>by simp at h),by cases h;simp⟩
 |_::_,[],b,h=>⟨λ_=>true,(λj x y _ h=>by simp at h),by cases h;simp⟩
 |x::d,y::g,b,h=>by
  obtain⟨p,q,m,o,rfl⟩:=VC h;obtain⟨e,n,rfl⟩:=mx o;refine⟨λj=>match j with|0=>p|j+1=>e j,λj a c i l=>?_,?_⟩
  .cases j with
   |zero=>simp only[List.getElem?_cons_zero,Option.some.injEq]at i l;subst i;subst l;exact m
   |succ j=>simp only[List.getElem?_cons_succ]at i l;exact n j a c i l
  .simp only[List.length_cons,Nat.add_min_add_right,List.range_succ_eq_map,List.all_cons,List.all_map,Bool.and_assoc];congr 1;simp[Function.comp_def]
section
variable {X:Cx}{pins:Sm}{σ:St}{H:Hp}{s:Ss}{W:RC}
def F4(I:Inv X pins σ H s)(S:W.K=X.K):∀{n:Nat}{x y:PV}{b:Bool}{v:V}{N M o g:Sr},ej n x y=some b->qe W N M H x v->qe W o g H y v->b=true:=by
 have A:∀{x y:PV}{b:Bool}{v:V}{N M o g:Sr},Lp x y=some b->qe W N M H x v->qe W o g H y v->b=true:=by
  intro x y b v N M o g h f d;unfold Lp at h;cases C:toV x with
  |none=>rw[C]at h;cases h
  |some a=>
   cases F:toV y with
   |none=>rw[C,F]at h;cases h
   |some c=>rw[C,F]at h;obtain⟨T,J⟩:=ae f C;obtain⟨u,_⟩:=ae d F;cases h;rw[<- T]at J ⊢;rw[<- u];cases v<;>first|rfl|(cases J;done)|(simp[eqV];done)
 intro n
 induction n with
 |zero=>intro x y b v N M o g h;exact A (by cases x<;>cases y<;>exact h)
 |succ n L=>
  have w:∀{j i:SH}{m:Sx}{b:Bool}{M g:Sr},mw (ej n) j i=some b->yq W M H j m->yq W g H i m->b=true:=by
   intro j
   induction j with
   |nil=>intro i m b M g h f d;cases(show _=_ from f);cases i with
    |nil=>cases h;rfl
    |cons y i=>obtain⟨_,_,e,_⟩:=d;cases e
   |cons x j G=>
    intro i m b M g h f d;obtain⟨v,r,rfl,K,P⟩:=f;cases i with
    |nil=>cases(show _=_ from d)
    |cons y i=>obtain⟨U,B,e,R,D⟩:=d;cases e;obtain⟨p,q,hp,O,rfl⟩:=VC h;rw[L hp (qe.iff.mpr K) (qe.iff.mpr R),G O P D];rfl
  intro x y b v N M o g h f d;cases x with
  |l j=>
   cases y with
   |l i=>obtain⟨p,m,rfl,_,e,r⟩:=f;obtain⟨Q,E,u,_,z,B⟩:=d;cases u;rw[e]at z;cases z;exact w h r B
   |_=>exact A h f d
  |t j=>
   cases y with
   |t i=>obtain⟨p,m,rfl,e,r⟩:=f;obtain⟨Q,E,u,z,B⟩:=d;cases u;rw[S]at e z;cases I.gr e z;exact w h r B
   |_=>exact A h f d
  |_=>exact A (by cases y<;>exact h) f d
def Ei(e:RelV y u)(d:RelV x v)(g:X9 y=true)(f:X9 x=true):SeqAt.RcAt A s u v (eqV y x)/\SeqAt.RcNeAt A s u v (!eqV y x):=by
 cases y with
 |non=>
  cases e;cases x with
  |non=>cases d;exact⟨SeqAt.RcAt.none_none,SeqAt.RcNeAt.none_none⟩
  |bl b=>cases d;exact⟨SeqAt.RcAt.none_bool b,SeqAt.RcNeAt.none_bool b⟩
  |int b=>obtain⟨t,rfl⟩:=d;exact⟨SeqAt.RcAt.none_int b t,SeqAt.RcNeAt.none_int b t⟩
  |str b=>obtain⟨t,rfl⟩:=d;exact⟨SeqAt.RcAt.none_str b t,SeqAt.RcNeAt.none_str b t⟩
  |_=>exact absurd (show false=true from f) T7
 |bl a=>
  cases e;cases x with
  |non=>cases d;exact⟨SeqAt.RcAt.bool_none a,SeqAt.RcNeAt.bool_none a⟩
  |bl b=>cases d;exact⟨SeqAt.RcAt.bool_bool a b,SeqAt.RcNeAt.bool_bool a b⟩
  |int b=>obtain⟨t,rfl⟩:=d;exact⟨SeqAt.RcAt.bool_int a b t,SeqAt.RcNeAt.bool_int a b t⟩
  |str b=>obtain⟨t,rfl⟩:=d;exact⟨SeqAt.RcAt.bool_str a b t,SeqAt.RcNeAt.bool_str a b t⟩
  |_=>exact absurd (show false=true from f) T7
 |int a=>
  obtain⟨c,rfl⟩:=e;cases x with
  |non=>cases d;exact⟨SeqAt.RcAt.int_none a c,SeqAt.RcNeAt.int_none a c⟩
  |bl b=>cases d;exact⟨SeqAt.RcAt.int_bool a c b,SeqAt.RcNeAt.int_bool a c b⟩
  |int b=>obtain⟨t,rfl⟩:=d;exact⟨SeqAt.RcAt.int_int a c b t,SeqAt.RcNeAt.int_int a c b t⟩
  |str b=>obtain⟨t,rfl⟩:=d;exact⟨SeqAt.RcAt.int_str a c b t,SeqAt.RcNeAt.int_str a c b t⟩
  |_=>exact absurd (show false=true from f) T7
 |str a=>
  obtain⟨c,rfl⟩:=e;cases x with
  |non=>cases d;exact⟨SeqAt.RcAt.str_none a c,SeqAt.RcNeAt.str_none a c⟩
  |bl b=>cases d;exact⟨SeqAt.RcAt.str_bool a c b,SeqAt.RcNeAt.str_bool a c b⟩
  |int b=>obtain⟨t,rfl⟩:=d;exact⟨SeqAt.RcAt.str_int a c b t,SeqAt.RcNeAt.str_int a c b t⟩
  |str b=>obtain⟨t,rfl⟩:=d;exact⟨SeqAt.RcAt.str_str a c b t,SeqAt.RcNeAt.str_str a c b t⟩
  |_=>exact absurd (show false=true from f) T7
 |_=>exact absurd (show false=true from g) T7
def eA(h:Lp x y=some b)(l:qe W N M H x xv)(m:qe W N' M' H y yv)(g:RelV xv u)(i:RelV yv v):
  SeqAt.EqAt A s u v b/\SeqAt.RcAt A s u v b/\SeqAt.RcNeAt A s u v (!b):=by
 unfold Lp at h;cases d:toV x with
 |none=>rw[d]at h;cases h
 |some a=>
  cases j:toV y with
  |none=>rw[d,j]at h;cases h
  |some c=>rw[d,j]at h;cases h;obtain⟨rfl,f⟩:=ae l d;obtain⟨rfl,e⟩:=ae m j;exact⟨D_ g i f e,(Ei g i f e).1,(Ei g i f e).2⟩
def F5(I:Inv X pins σ H s)(hK:W.K=X.K):∀(n:Nat){A:SQ}{x y:PV}{b:Bool}{K J:V}{u v:Value}{N M U Y:Sr},ej n x y=some b->qe W N M H x K->qe W U Y H y J->RelV K u->RelV J v->A.units+n<cLine->
  SeqAt.EqAt A s u v b/\SeqAt.RcAt A s u v b/\SeqAt.RcNeAt A s u v (!b):=by
 intro n
 induction n with
 |zero=>intro A x y b K J u v N M U Y h g i a d _;exact eA (by cases x<;>cases y<;>exact h) g i a d
 |succ n ih=>
  intro A x y b K J u v N M U Y h g i a d hu;have top:∀{p q:Addr},u=.ref p->v=.ref q->K=.ref p->J=.ref q->SeqAt.RcAt A s u v b/\SeqAt.RcNeAt A s u v (!b)->SeqAt.EqAt A s u v b/\SeqAt.RcAt A s u v b/\SeqAt.RcNeAt A s u v (!b):=λ{p q} e1 e2 e3 e4 hr=>by
   refine⟨?_,hr⟩;by_cases c:p=q
   .subst c;rw[e1,e2];rw[F4 I hK h (e3▸g) (e4▸i)];exact SeqAt.EqAt.same _
   .rw[e1,e2]at hr ⊢;exact SeqAt.EqAt.of_refs c hr.1
  cases x with
  |l Q=>
   cases y with
   |l S=>
    obtain⟨p,vs,rfl,_,e,r⟩:=g;obtain⟨p',vs',rfl,_,R,O⟩:=i;cases a;cases d;refine top rfl rfl rfl rfl ?_;obtain⟨us,P,B,_⟩:=I.list (SqL.of e);obtain⟨ws,L,z,_⟩:=I.list (SqL.of R);have w:us.toArray.size=Q.length:=by rw[a0b,<- P.length,r.len]
    have F:ws.toArray.size=S.length:=by rw[a0b,<- L.length,O.len]
    by_cases D:Q.length=S.length
    .obtain⟨f,hf,rfl⟩:=mx h;rw[D,a1J,Bool.and_true,Nat.min_self,<- D,<- w];have G:=oA (A:=A.in1) (e:=f) (s:=s) P L λj x y u v Z hy a d=>by obtain⟨T,m,o⟩:=r.HL Z;obtain⟨y',C,E⟩:=O.HL hy;exact(ih (A:=A.in1) (hf j T y' m C) (qe.iff.mpr o) (qe.iff.mpr E) a d (by show A.units+1+n<cLine;omega)).1
     exact⟨SeqAt.RcAt.lists B.isList z.isList (by rw[w,F,D]) (by omega) G,SeqAt.RcNeAt.lists B.isList z.isList (by rw[w,F,D]) (by omega) G⟩
    .rw[oG h D];exact⟨SeqAt.RcAt.lists_lengths B.isList z.isList (by rw[w,F];simpa using D) (by omega),SeqAt.RcNeAt.lists_lengths B.isList z.isList (by rw[w,F];simpa using D) (by omega)⟩
   |_=>exact eA h g i a d
  |t Q=>
   cases y with
   |t S=>
    obtain⟨p,vs,rfl,e,r⟩:=g;obtain⟨p',vs',rfl,R,O⟩:=i;cases a;cases d;refine top rfl rfl rfl rfl ?_;rw[hK]at e R;obtain⟨us,P,B,_⟩:=I.tuple e;obtain⟨ws,L,z,_⟩:=I.tuple R;have w:us.toArray.size=Q.length:=by rw[a0b,<- P.length,r.len]
    have F:ws.toArray.size=S.length:=by rw[a0b,<- L.length,O.len]
    obtain⟨f,hf,rfl⟩:=mx h;have G:=oA (A:=A.in1) (e:=f) (s:=s) P L λj x y u v Z hy a d=>by obtain⟨T,m,o⟩:=r.HL Z;obtain⟨y',C,E⟩:=O.HL hy;exact(ih (A:=A.in1) (hf j T y' m C) (qe.iff.mpr o) (qe.iff.mpr E) a d (by show A.units+1+n<cLine;omega)).1
    rw[<- w,<- F];exact⟨SeqAt.RcAt.tuples B z (by omega) G,SeqAt.RcNeAt.tuples B z (by omega) G⟩
   |_=>exact eA h g i a d
  |_=>exact eA (by cases y<;>exact h) g i a d
def Lq{es:SE}{vs:To}(r:KV es vs){k:Key}{v:V}(h:X_ es k=some v):∃u,valueAt vs k=some u/\RelV v u:=Xf.some_of (v:=v) (o:=valueAt vs k) (by rw[<- h];exact KV.val r k)
def F6{es:SE}{vs:To}(r:KV es vs){k:Key}(h:X_ es k=none):valueAt vs k=none:=by
 have:=KV.val r k;rw[h]at this;cases e:valueAt vs k with
 |none=>rfl
 |some u=>rw[e]at this;exact this.elim
def my(I:Inv X pins σ H s)(z:W.K=X.K){n:Nat}{A:SQ}(l:A.units+n<cLine){b:SN}{w:SE}{x:To}{M D:Sr}(i:jX W D H b w)(d:KV w x):
  ∀{a:SN}{m:SE}{o:To}{r:Bool},jX W M H a m->KV m o->HN (ej n) b a=some r->KeqHits A s x o r
 |[],_,_,_,h,k,e=>by cases(show _=_ from h);cases k;cases e;exact .nil
 |J::a,_,_,r,h,k,e=>by
  obtain⟨v,q,rfl,E,K⟩:=h;cases k with
  |@cons _ u _ P B kk=>
   obtain⟨Q,u⟩:=u;obtain⟨L,C⟩:=B;cases L;unfold HN at e;cases c:zP b J.1 with
   |none=>rw[c]at e;cases e;exact .miss (F6 d (i.NL c))
   |some y=>rw[c]at e;obtain⟨p,q,hp,F,rfl⟩:=VC e;obtain⟨N,g,G⟩:=i.get c;obtain⟨O,f,j⟩:=Lq d g;exact .hit f (F5 I z n hp (qe.iff.mpr E) (qe.iff.mpr G) C j l).1 (my I z l i d K kk F)
end
def OL(W:RC)(a:Bool):R2:=λc d H Q=>∃M x y b,qe W (λ_=>True) M H x c/\qe W (λ_=>True) M H y d/\NO 8 x y=some b/\Q (.bl (xor a b)) H
def uK:(∃a b,x=.d a/\y=.d b)\/NO n x y=ej n x y:=by
 cases x with
 |d a=>cases y with
  |d b=>exact .inl ⟨a,b,rfl,rfl⟩
  |_=>exact .inr rfl
 |_=>exact .inr rfl
def Ej(J:W.K=X.K)(R:X.A.units+64<cLine):OpR X (compareOp .Eq) (OL W false):=by
 intro m s S H U T u v Q I i w h;obtain⟨M,x,y,b,C,G,e,q⟩:=h;rw[a1T]at q;rcases uK (n:=8) (x:=x) (y:=y)with⟨a,c,rfl,rfl⟩|z
 .obtain⟨p,Z,rfl,_,P,F⟩:=C;obtain⟨Y,O,rfl,_,K,D⟩:=G;cases i;cases w;obtain⟨_,na,L,o,E⟩:=Kc I.hok P;obtain⟨_,f,N,j,g⟩:=Kc I.hok K;have B:L.length=a.length:=by rw[<- a1u o];have:=a0F List.length (jX.iff.mp F).1;simpa using this
  have l:N.length=c.length:=by rw[<- a1u j];have:=a0F List.length (jX.iff.mp D).1;simpa using this
  have e:(if a.length=c.length then HN (ej 8) c a else some false)=some b:=e;by_cases d:a.length=c.length
  .rw[if_pos d]at e;refine keq_eq na f E g (by omega) (λ_=>my I J (A:=X.A.in1) (by show X.A.units+1+8<cLine;omega) D j F o e) ?_;rw[B,l,d,a1J,a12];exact⟨.bl b,H,I,rfl,q⟩
  .rw[if_neg d]at e;cases e;refine keq_eq (r:=false) na f E g (by omega) (λz=>absurd (by rw[<- B,<- l,z]) d) ?_;rw[a25];exact⟨.bl false,H,I,rfl,q⟩
 .rw[z]at e;exact(F5 I J 8 e C G i w (by omega)).2.1 _ _ _ _ ⟨.bl b,H,I,rfl,q⟩
def Lr(J:W.K=X.K)(R:X.A.units+64<cLine):OpR X (compareOp .NotEq) (OL W true):=by
 intro m s S H U T u v Q I i w h;obtain⟨M,x,y,b,C,G,e,q⟩:=h;rw[a1w]at q;rcases uK (n:=8) (x:=x) (y:=y)with⟨a,c,rfl,rfl⟩|z
 .obtain⟨p,Z,rfl,_,P,F⟩:=C;obtain⟨Y,O,rfl,_,K,D⟩:=G;cases i;cases w;obtain⟨_,na,L,o,E⟩:=Kc I.hok P;obtain⟨_,f,N,j,g⟩:=Kc I.hok K;have B:L.length=a.length:=by rw[<- a1u o];have:=a0F List.length (jX.iff.mp F).1;simpa using this
  have l:N.length=c.length:=by rw[<- a1u j];have:=a0F List.length (jX.iff.mp D).1;simpa using this
  have e:(if a.length=c.length then HN (ej 8) c a else some false)=some b:=e;by_cases d:a.length=c.length
  .rw[if_pos d]at e;refine keq_ne na f E g (by omega) (λ_=>my I J (A:=X.A.in1) (by show X.A.units+1+8<cLine;omega) D j F o e) ?_;rw[B,l,d,a1J,a12];exact⟨.bl (!b),H,I,rfl,q⟩
  .rw[if_neg d]at e;cases e;refine keq_ne (r:=false) na f E g (by omega) (λz=>absurd (by rw[<- B,<- l,z]) d) ?_;rw[a25];exact⟨.bl (!false),H,I,rfl,q⟩
 .rw[z]at e;exact(F5 I J 8 e C G i w (by omega)).2.2 _ _ _ _ ⟨.bl (!b),H,I,rfl,q⟩
def vD(a:Bool)(x y:PV):Out PV:=match NO 8 x y with|some b=>.ok (.b (xor a b))|none=>.wall
def uL:Lf2 W (OL W neg) (vD neg):=λM C B H x y v u Q n c a q=>by
 unfold vD at q;cases e:NO 8 x y with
 |none=>rw[e]at q;exact q.elim
 |some b=>rw[e]at q;exact⟨M,x,y,b,c,a,e,q _ H (zA.refl _) rfl⟩
def ON(d:X.A.units+64<cLine)(f:EM X C S w1 a m1)(e:EM X C S w2 b m2):EM X C S false (.Compare a [.Eq] [b] pos) (mOp (vD false) m1 m2):=λc=>oB (Ej c.symm d) uL f e (dW _ (by decide) (by decide)) c
def bZ(d:X.A.units+64<cLine)(f:EM X C S w1 a m1)(e:EM X C S w2 b m2):TM X C S (.Compare a [.Eq] [b] pos) (z0 (mOp (vD false) m1 m2)):=λc=>yT (Ej c.symm d) uL f e (dW _ (by decide) (by decide)) c
def mz(d:X.A.units+64<cLine)(f:EM X C S w1 a m1)(e:EM X C S w2 b m2):TM X C S (.Compare a [.NotEq] [b] pos) (z0 (mOp (vD true) m1 m2)):=λc=>yT (Lr c.symm d) uL f e (dW _ (by decide) (by decide)) c
def inP(v:V):List PV->Option Bool
 |[]=>some false
 |y::r=>match toV y,inP v r with
  |some u,some b=>some (eqV u v||b)
  |_,_=>none
def uM{W:RC}{M:Sr}{H:Hp}{v:V}:∀{c:SH}{d:Sx}{b:Bool},yq W M H c d->inP v c=some b->d.all X9=true/\inV v d=b
 |[],_,_,h,e=>by cases(show _=_ from h);cases e;exact⟨rfl,rfl⟩
 |y::c,_,b,h,e=>by
  obtain⟨u,r,rfl,l,m⟩:=h;unfold inP at e;cases a:toV y with
  |none=>rw[a]at e;cases e
  |some n=>
   cases g:inP v c with
   |none=>rw[a,g]at e;cases e
   |some o=>rw[a,g]at e;cases e;obtain⟨rfl,f⟩:=ae (qe.iff.mpr l) a;obtain⟨j,i⟩:=uM m g;exact⟨by rw[a2o,f,j];rfl,by unfold inV at i ⊢;rw[a0O,i]⟩
def NP(K:SV)(b:Bool):R2:=λx y H Q=>(rIn K b x y H Q\/∃i j,x=.str i/\y=.str j/\Q (.bl (xor b (!(Builtin.Str.occurrences j i 0 j.length 1).isEmpty))) H)\/∃a o,y=.ref a/\lK H a x o/\Q (.bl (xor b o.isSome)) H
def Ek(f:X.A.units+1<cLine):OpR X (compareOp .In) (NP X.K false):=by
 intro b s e H x y v u Q I d c h;rcases h with(h|⟨i,j,e1,e2,q⟩)|⟨a,o,rfl,g,q⟩
 .exact uh b s e H x y v u Q I d c h
 .exact t7 b s e H x y v u Q I d c ⟨i,j,e1,e2,by rw[a1T]at q;exact q⟩
 .obtain rfl:u=Value.ref a:=c;exact RL f I g d λm l=>⟨.bl o.isSome,H,l,rfl,by rw[a1T]at q;exact q⟩
def g5(f:X.A.units+1<cLine):OpR X (compareOp .NotIn) (NP X.K true):=by
 intro b s e H x y v u Q I d c h;rcases h with(h|⟨i,j,e1,e2,q⟩)|⟨a,o,rfl,g,q⟩
 .exact gI b s e H x y v u Q I d c h
 .exact gJ b s e H x y v u Q I d c ⟨i,j,e1,e2,by rw[a1w]at q;exact q⟩
 .obtain rfl:u=Value.ref a:=c;exact FJ f I g d λm l=>⟨.bl (!o.isSome),H,l,rfl,by rw[a1w]at q;exact q⟩
def pIn(a:Bool):PV->PV->Out PV
 |x,.l d=>kW (((toV x).bind λv=>inP v d).map λb=>.b (xor a b))
 |x,.t d=>kW (((toV x).bind λv=>inP v d).map λb=>.b (xor a b))
 |.s i,.s j=>.ok (.b (xor a (!(Builtin.Str.occurrences j i 0 j.length 1).isEmpty)))
 |x,.d c=>kW ((pk x).map λk=>.b (xor a (zP c k).isSome))
 |_,_=>.wall
def uN:(if neg=true then !b else b)=xor neg b:=by cases neg<;>simp
def Ls:Lf2 W (NP W.K neg) (pIn neg):=λM C B H x y v u Q n g h q=>by
 unfold pIn at q;split at q
 .obtain⟨z,e,q⟩:=qj q;obtain⟨b,a,rfl⟩:=u8.mp e;obtain⟨o,c,a⟩:=a0d.mp a;obtain⟨p,i,rfl,_,d,r⟩:=h;obtain⟨rfl,f⟩:=ae g c;obtain⟨l,j⟩:=uM r a;exact .inl (.inl ⟨p,i,rfl,.inl (SqL.of d),f,l,by rw[j,uN];exact q _ H (zA.refl _) rfl⟩)
 .obtain⟨z,e,q⟩:=qj q;obtain⟨b,a,rfl⟩:=u8.mp e;obtain⟨o,c,a⟩:=a0d.mp a;obtain⟨p,i,rfl,d,r⟩:=h;obtain⟨rfl,f⟩:=ae g c;obtain⟨l,j⟩:=uM r a;exact .inl (.inl ⟨p,i,rfl,.inr d,f,l,by rw[j,uN];exact q _ H (zA.refl _) rfl⟩)
 .exact .inl (.inr ⟨_,_,g,h,q _ H (zA.refl _) rfl⟩)
 .obtain⟨z,e,q⟩:=qj q;obtain⟨k,m,rfl⟩:=u8.mp e;obtain⟨p,s,rfl,_,d,r⟩:=h;exact .inr ⟨p,_,rfl,by rw[WG g m];exact lK.rk d,by rw[r.RU];exact q _ H (zA.refl _) rfl⟩
 .exact q.elim
section
variable {X:Cx}{C:LC}{S:So}{e a b:Sy}{es:Sw}{w w1 w2:Bool}{ws:Su}{m1 m2:ME}{ms:MA}{pos p:Pos}{x:Str}
def Lu(d:X.A.units+1<cLine)(g:EM X C S w1 a m1)(h:EM X C S w2 b m2)(f:behindInMarks .In b=false:=by with_unfolding_all rfl):TM X C S (.Compare a [.In] [b] pos) (z0 (mOp (pIn false) m1 m2)):=λc=>yT (Ek d) (by rw[c];exact Ls) g h f c
def JS(d:X.A.units+1<cLine)(g:EM X C S w1 a m1)(h:EM X C S w2 b m2)(f:behindInMarks .NotIn b=false:=by with_unfolding_all rfl):TM X C S (.Compare a [.NotIn] [b] pos) (z0 (mOp (pIn true) m1 m2)):=λc=>yT (g5 d) (by rw[c];exact Ls) g h f c
def Ck(W:RC)(M:Sr)(H:Hp):List PV->List V->Prop
 |[],c=>c=[]
 |x::d,c=>∃v r,c=v::r/\qe W (λ_=>True) M H x v/\Ck W M H d r
def RVs.weak{B:Bs}{P:SA}{H:Hp}:∀{ws:Su}{f:SH}{g:Sx},RVs C B S P H ws f g->Ck C.W (Mof B S P) H f g
 |[],_,_,⟨d,c⟩=>by subst d;subst c;rfl
 |w::ws,_,_,⟨x,v,l,h,d,c,i,j⟩=>by subst d;subst c;exact⟨v,h,rfl,i.weak,RVs.weak j⟩
def LfC(W:RC)(r:List V->Hp->VK->Prop)(p:SD):Prop:=∀(M:Sr)(C:LC)(B:Bs) H xs vs Q,New M H->Ck W M H xs vs->ya C B H (Rep W M) Q (p xs)->r vs H Q
def LfF(W:RC)(r:List V->Hp->VK->Prop)(p:SD):Prop:=∀(M:Sr)(C:LC)(B:Bs) H xs vs Q,New M H->Ck W M H xs vs->ya C B H (RFr W M H) Q (p xs)->r vs H Q
def zh(g:SD)(ms:MA):ME:=λc=>(ms c).bind g
def Lv(L:LfC C.W r g)(h:LA C S ws ta ms):LE C S false (tCB r ta) (zh g ms):=λB P H j i R Q q=>
 h B P H j i R _ (qw q λn o c d f l=>L _ C B c n o Q (R.keep d).new f.weak (RV.eq▸l))
def j8(h:ya C B H (RFr W M H) Q o)(s:zA H H2):ya C B H2 (RFr W M H2) Q o:=by
 cases o with
 |ok x=>exact λv d f g=>h v d (s.trans f) (let⟨p,e,hp,hr⟩:=g;⟨p,e,zA.none s hp,hr⟩)
 |exc c fs=>exact h
 |wall=>exact h
def Yx(h:ya C B H (RFr W M H) Q (o.bind f))(k:∀r v d,zA H d->R' d r v->ya C B d (RFr W M d) Q (f r)->Q' v d):rW C B H R' Q' o:=by
 cases o with
 |ok r=>exact λv d s g=>k r v d s g (j8 (o:=f r) h s)
 |exc c fs=>exact h
 |wall=>exact h
def Yy(h:ya C B H (RFr W M H) Q (o.bind f))(k:∀r v d,zA H d->R' d r v->ya C B d (RFr W M d) Q (f r)->Q' v d):ya C B H R' Q' o:=by
 cases o with
 |ok r=>exact λv d s g=>k r v d s g (j8 (o:=f r) h s)
 |exc c fs=>exact h
 |wall=>exact h
def OO(L:LfF C.W r g)(h:LA C S ws ta ms):LFr C S (tCB r ta) (zh g ms):=λB P H j i R Q q=>
 h B P H j i R _ (Yx q λn o c d f l=>L _ C B c n o Q (R.keep d).new f.weak l)
def eC{id:String}{r:List V->Hp->VK->Prop}{g:SD}(q:X.K=C.W.K->Yj X (.builtin id) r)(L:LfC C.W r g)(h:Gl X x)(f:X.mg x=none)(o:bootBuiltins x=some (.builtin id))(i:AM X C S ws (e::es) ms)(j:x≠"__name__":=by decide)(c:(x==("__debug__":Str))=false:=by decide)
  (he:starEach (e::es) X.env=(false,eval e X.env)::starEach es X.env:=by rfl) (hpl:(backTo pos (starEach es X.env)).any (·.1)=false:=by rfl):EM X C S false (.Call (.Name x p) (e::es) [] pos) (zh g ms):=λd=>by
 obtain⟨s,l,n⟩:=i d;exact⟨_,oa (q d) h f o l j c he hpl,Lv L n⟩
def Cm{id:String}{r:List V->Hp->VK->Prop}{g:SD}(q:X.K=C.W.K->Yj X (.type id) r)(L:LfC C.W r g)(h:Gl X x)(f:X.mg x=none)(o:bootBuiltins x=some (.type id))(i:AM X C S ws (e::es) ms)(j:x≠"__name__":=by decide)(c:(x==("__debug__":Str))=false:=by decide)
  (he:starEach (e::es) X.env=(false,eval e X.env)::starEach es X.env:=by rfl) (hpl:(backTo pos (starEach es X.env)).any (·.1)=false:=by rfl):EM X C S false (.Call (.Name x p) (e::es) [] pos) (zh g ms):=λd=>by
 obtain⟨s,l,n⟩:=i d;exact⟨_,gG (q d) h f o l j c he hpl,Lv L n⟩
def oH{id:String}{r:List V->Hp->VK->Prop}{g:SD}(q:X.K=C.W.K->Yj X (.type id) r)(L:LfF C.W r g)(h:Gl X x)(f:X.mg x=none)(o:bootBuiltins x=some (.type id))(i:AM X C S ws (e::es) ms)(j:x≠"__name__":=by decide)(c:(x==("__debug__":Str))=false:=by decide)
  (he:starEach (e::es) X.env=(false,eval e X.env)::starEach es X.env:=by rfl) (hpl:(backTo pos (starEach es X.env)).any (·.1)=false:=by rfl):FM X C S (.Call (.Name x p) (e::es) [] pos) (zh g ms):=λd=>by
 obtain⟨s,l,n⟩:=i d;exact⟨_,gG (q d) h f o l j c he hpl,OO L n⟩
end
def QR:List PV->Out PV
 |[.l a]=>.ok (.i a.length)
 |[.t a]=>.ok (.i a.length)
 |[.sc a]=>.ok (.i a.length)
 |[.d a]=>.ok (.i a.length)
 |[.s z]=>if z.length<=sizeLine then .ok (.i z.length)else .wall
 |_=>.wall
def jX.len(h:jX W M H a es):es.length=a.length:=by have:=a0F List.length (jX.iff.mp h).1;simpa using this
def Lw(K:SV):List V->Hp->VK->Prop:=λc H Q=>(∃x n,c=[x]/\PQ K x H n/\Q (.int n) H)\/∃a b,c=[V.ref a]/\Rd H a (.dK b)/\Q (.int b.length) H
def uO:Yj X (.builtin "len") (λd H Q=>∃a b,d=[V.ref a]/\Rd H a (.dK b)/\Q (.int b.length) H):=by intro c s l H d j Q I r h;obtain⟨a,b,rfl,e,q⟩:=h;obtain⟨u,rfl,g⟩:=vals1 r;cases g;exact Oy I e λt i f=>⟨.int _,H,f,⟨t,rfl⟩,q⟩
def Lx:LfC W (Lw W.K) QR:=λM C B H g c Q n h q=>by
 unfold QR at q;split at q
 .obtain⟨v,r,rfl,⟨p,c,rfl,_,b,d⟩,a⟩:=h;cases(show _=_ from a);exact .inl ⟨_,c.length,rfl,.inl ⟨c,SqL.of b,rfl⟩,q _ H (zA.refl _) (by rw[d.len];rfl)⟩
 .obtain⟨v,r,rfl,⟨p,c,rfl,b,d⟩,a⟩:=h;cases(show _=_ from a);exact .inl ⟨_,c.length,rfl,.inr ⟨c,b,rfl⟩,q _ H (zA.refl _) (by rw[d.len];rfl)⟩
 .obtain⟨v,r,rfl,⟨p,rfl,b⟩,a⟩:=h;cases(show _=_ from a);exact .inl ⟨_,_,rfl,.inl ⟨_,b.sq,rfl⟩,q _ H (zA.refl _) (by rw[v4];rfl)⟩
 .obtain⟨v,r,rfl,⟨p,f,rfl,_,b,d⟩,a⟩:=h;cases(show _=_ from a);exact .inr ⟨_,f,rfl,b,q _ H (zA.refl _) (by rw[d.len];rfl)⟩
 .split at q
  .rename_i hz;obtain⟨v,r,rfl,e,a⟩:=h;cases(show _=_ from a);cases(show _=_ from e);exact .inl ⟨_,_,rfl,⟨hz,rfl⟩,q _ H (zA.refl _) rfl⟩
  .exact q.elim
 .exact q.elim
def j4(c:Gl X "len")(b:X.mg "len"=none)(a:AM X C S ws [e] ms)(he:starEach [e] X.env=[(false,eval e X.env)]:=by rfl):EM X C S false (.Call (.Name "len" p) [e] [] pos) (zh QR ms):=
 eC (r:=Lw C.W.K) (λd=>d▸BI.or uO) Lx c b PySem.boot_len a (he:=he)
def F7:List PV->Out PV
 |[.l a]=>.ok (.l a)
 |[.t a]=>.ok (.l a)
 |[.sc a]=>.ok (.l (a.map PV.i))
 |_=>.wall
def Kf(r:yq W M H xs vs)(b:H l=none):RFr W M H (upd H l (.lst vs)) (.l xs) (.ref l):=
 ⟨l,rfl,b,vs,zg,(r.sub λa m n=>⟨m,λz=>n (z▸b)⟩).same (zA.upd b)⟩
def F8(r:jX W M H xs vs)(b:H l=none):RFr W M H (upd H l (.dK vs)) (.d xs) (.ref l):=
 ⟨l,rfl,b,vs,zg,(r.sub λa m n=>⟨m,λz=>n (z▸b)⟩).same (zA.upd b)⟩
def F9:LfF W (λf H Q=>∃p e,f=[.ref p]/\(SqL W.K H p e\/SqT W.K H p e)/\∀l,H l=none->Q (.ref l) (upd H l (.lst e))) F7:=λM C B H f c Q n h q=>by
 unfold F7 at q;split at q
 .obtain⟨v,r,rfl,⟨p,c,rfl,_,a,d⟩,b⟩:=h;cases(show _=_ from b);exact⟨p,c,rfl,.inl (SqL.of a),λl a=>q _ _ (zA.upd a) (Kf d a)⟩
 .obtain⟨v,r,rfl,⟨p,c,rfl,a,d⟩,b⟩:=h;cases(show _=_ from b);exact⟨p,c,rfl,.inr a,λl a=>q _ _ (zA.upd a) (Kf d a)⟩
 .obtain⟨v,r,rfl,⟨p,rfl,a⟩,b⟩:=h;cases(show _=_ from b);exact⟨p,_,rfl,.inl a.sq,λl a=>q _ _ (zA.upd a) (Kf yq.ints a)⟩
 .exact q.elim
def toI:PV->Option Int
 |.i a=>some a
 |_=>none
def Ly:List PV->Option (List Int)
 |[]=>some []
 |x::r=>match toI x,Ly r with|some a,some b=>some (a::b)|_,_=>none
def uP{W:RC}{M:Sr}{H:Hp}:∀{c:SH}{g:Sx}{f:SS},yq W M H c g->Ly c=some f->g=f.map V.int
 |[],_,_,h,e=>by cases(show _=_ from h);cases e;rfl
 |x::c,_,f,h,e=>by
  obtain⟨v,r,rfl,j,l⟩:=h;unfold Ly at e;cases x with
  |i a=>
   cases d:Ly c with
   |none=>rw[d]at e;cases e
   |some b=>rw[d]at e;cases e;rw[T2,<- uP l d,(show v=_ from j)]
  |_=>cases e
def Co:List Int->Int
 |[]=>0
 |[a]=>a
 |a::r=>max a (Co r)
def oI:∀{ns:SS},ns≠[]->Co ns∈ns
 |[],h=>absurd rfl h
 |[a],_=>by simp[Co]
 |a::b::r,_=>by
  have ih:=oI (ns:=b::r) (by simp);show max a (Co (b::r))∈_;rcases Int.le_total a (Co (b::r))with h|h
  .rw[Int.max_eq_right h];exact S6 _ ih
  .rw[Int.max_eq_left h];exact S4
def uQ:∀{d:SS}{a:Int},a∈d->a<=Co d
 |[],_,h=>by cases h
 |[b],a,h=>by simp at h;subst h;exact a1d _
 |b::c::r,a,h=>by
  show a<=max b (Co (c::r));rcases a0f.mp h with rfl|h
  .exact Int.le_max_left ..
  .exact Int.le_trans (uQ h) (Int.le_max_right ..)
def HP:List PV->Out PV
 |[.i a,.i b]=>.ok (.i (max a b))
 |[.l d]=>kW ((Ly d).bind λc=>if c=[]then none else some (.i (Co c)))
 |_=>.wall
def eD:List PV->Out PV
 |[.i a,.i b]=>.ok (.i (min a b))
 |_=>.wall
def Lz:LfC W (λb H Q=>∃i j,b=[.int i,.int j]/\Q (.int (if j<i then j else i)) H) eD:=λM C B H b e Q n h q=>by
 unfold eD at q;split at q
 .obtain⟨v,r,rfl,c,g,f,rfl,a,d⟩:=h;cases(show _=_ from d);cases(show _=_ from c);cases(show _=_ from a);exact⟨_,_,rfl,q _ H (zA.refl _) (by show V.int _=V.int _;congr 1;omega)⟩
 .exact q.elim
def LB:LfC W (λb H Q=>(∃i j,b=[.int i,.int j]/\Q (.int (if j>i then j else i)) H)\/Lf W.K b H Q) HP:=λM C B H b m Q n h q=>by
 unfold HP at q;split at q
 .obtain⟨v,r,rfl,o,x,w,rfl,d,c⟩:=h;cases(show _=_ from c);cases(show _=_ from o);cases(show _=_ from d);exact .inl ⟨_,_,rfl,q _ H (zA.refl _) (by show V.int _=V.int _;congr 1;omega)⟩
 .obtain⟨z,e,q⟩:=qj q;obtain⟨a,u,e⟩:=a0d.mp e;by_cases hz:a=[]
  .rw[if_pos hz]at e;cases e
  .rw[if_neg hz]at e;cases e;obtain⟨v,r,rfl,⟨p,m,rfl,_,g,l⟩,c⟩:=h;cases(show _=_ from c);rw[uP l u]at g;refine .inr ⟨p,a,rfl,SqL.of g,hz,λM s f=>?_⟩;have:M=Co a:=Int.le_antisymm (uQ s) (f _ (oI hz));rw[this];exact q _ H (zA.refl _) rfl
 .exact q.elim
def LD:List PV->Option (List Bool)
 |[]=>some []
 |x::r=>match x,LD r with | .b a,some b=>some (a::b)|_,_=>none
def uR{W:RC}{M:Sr}{H:Hp}:∀{c:SH}{g:Sx}{f:Su},yq W M H c g->LD c=some f->g=f.map V.bl
 |[],_,_,h,e=>by cases(show _=_ from h);cases e;rfl
 |x::c,_,f,h,e=>by
  obtain⟨v,r,rfl,i,j⟩:=h;unfold LD at e;cases x with
  |b a=>
   cases d:LD c with
   |none=>rw[d]at e;cases e
   |some b=>rw[d]at e;cases e;rw[T2,<- uR j d,(show v=_ from i)]
  |_=>cases e
def El(a:X.calm=true)(c:Gl X "max")(b:X.mg "max"=none)(d:AM X C S ws (e::es) ms)(he:starEach (e::es) X.env=(false,eval e X.env)::starEach es X.env:=by rfl)(hpl:(backTo pos (starEach es X.env)).any (·.1)=false:=by rfl):EM X C S false (.Call (.Name "max" p) (e::es) [] pos) (zh HP ms):=
 eC (λf=>f▸(t_ a).or (uD a)) LB c b PyProof.Rows.boot_max d (he:=he) (hpl:=hpl)
def oJ(d:X.calm=true)(b:Gl X "min")(a:X.mg "min"=none)(c:AM X C S ws (e::es) ms)(he:starEach (e::es) X.env=(false,eval e X.env)::starEach es X.env:=by rfl)(hpl:(backTo pos (starEach es X.env)).any (·.1)=false:=by rfl):EM X C S false (.Call (.Name "min" p) (e::es) [] pos) (zh eD ms):=
 eC (λf=>ua d) Lz b a PyProof.Rows.boot_min c (he:=he) (hpl:=hpl)
def jE(W:RC)(M:Sr)(H:Hp):List Bool->List PV->List V->Prop
 |[],a,b=>a=[]/\b=[]
 |w::e,a,b=>∃x v d c,a=x::d/\b=v::c/\qe W (if w=true then λ_=>True else M) M H x v/\jE W M H e d c
def RVs.args{C:LC}{B:Bs}{S:So}{P:SA}{H:Hp}:∀{a:Su}{b:SH}{c:Sx},RVs C B S P H a b c->jE C.W (Mof B S P) H a b c
 |[],_,_,h=>h
 |w::a,_,_,⟨x,v,i,d,j,e,f,g⟩=>⟨x,v,i,d,j,e,f,RVs.args g⟩
def jE.len{W:RC}{M:Sr}{H:Hp}:∀{a:Su}{e:SH}{f:Sx},jE W M H a e f->f.length=a.length/\e.length=a.length
 |[],_,_,⟨c,b⟩=>by subst c;subst b;exact⟨rfl,rfl⟩
 |w::a,_,_,⟨x,v,i,g,c,b,h,d⟩=>by subst c;subst b;exact⟨by rw[S0,S0,(jE.len d).1],by rw[S0,S0,(jE.len d).2]⟩
def jE.same{W:RC}{M:Sr}{H H':Hp}(s:zA H H'):∀{a:Su}{b:SH}{c:Sx},jE W M H a b c->jE W M H' a b c
 |[],_,_,h=>h
 |w::a,_,_,⟨x,v,i,d,j,e,f,g⟩=>⟨x,v,i,d,j,e,f.same s,jE.same s g⟩
def RtV(W:RC)(fr:Bool)(M:Sr)(H b:Hp)(r:PV)(v:V):Prop:=if fr=true then RFr W (λa=>M a\/H a=none) H b r v else Rep W (λa=>M a\/H a=none) b r v
def OP(W:RC)(fr:Bool)(M:Sr)(H:Hp)(Q:VK)(E:XK):Out PV->Prop
 |.ok r=>∀v b,zA H b->RtV W fr M H b r v->Q v b
 |.exc c fs=>∀e d f b,zA H b->b e=some (XC e (W.cls c) d)->b d=some (XD d f)->vx W (λa=>M a\/H a=none) b fs f->E (.ref e) (some d) b
 |.wall=>False
def lsp(W:RC)(fr:Bool)(ws:Su)(g:SD):Sp:=λb H Q E=>∃M a,jE W M H ws a b/\OP W fr M H Q E (g a)
def F_{W:RC}{fr:Bool}{ws:Su}{g:SD}{n:Nat}(h:ws.length=n):∀b H Q E,lsp W fr ws g b H Q E->b.length=n:=λb H Q E ⟨M,c,a,_⟩=>a.len.1.trans h
def RFr.sub(h:RFr W M H H2 x v)(s:∀a,M a->M' a):RFr W M' H H2 x v:=by obtain⟨p,e,hp,h⟩:=h;exact⟨p,e,hp,h.gen rfl Fr.refl λa m _=>⟨s a m.1,m.2⟩⟩
section
variable {X:Cx}{C:LC}{S:So}{e a b o:Sy}{es:Sw}{w fr:Bool}{ws:Su}{m:ME}{ms:MA}{pos p jI:Pos}{x mn:Str}{k:Nat}{f:Addr}{fd:SK}{ps:Sn}{g:SD}
def uS(R:Rel C.W B S P H σ ρ)(q:XPo C B c fs):∀e h es d,zA H d->d e=some (XC e (C.W.cls c) h)->d h=some (XD h es)->vx C.W (λa=>Mof B S P a\/H a=none) d fs es->C.E (.ref e) (some h) d:=
 λe h es d s i j l=>q e h es d (R.same.trans s) i j (l.sub λa m _=>m.elim (λm=>m.1.1) λn=>.inr (zA.none R.same n))
def Em{B:Bs}{P:SA}{H:Hp}{σ:St}{ρ:Sto}{Q:VK}{o:Out PV}(R:Rel C.W B S P H σ ρ)(q:ya C B H (RV C B S P false) Q o):OP C.W fr (Mof B S P) H Q C.E o:=by
 have sM:∀a,(Mof B S P a\/H a=none)->Mof B S P a:=λa m=>m.elim id λn=>R.new a n;cases o with
 |ok r=>
  intro v h s d;refine q v h s (RV.of ?_);unfold RtV at d;cases fr with
  |true=>rw[if_pos rfl]at d;exact(d.sub sM).rep R.new
  |false=>rw[if_neg T7]at d;exact d.sub λa m _=>sM a m
 |exc c fs=>exact uS R q
 |wall=>exact q
def mB{B:Bs}{P:SA}{H:Hp}{σ:St}{ρ:Sto}{Q:VK}{o:Out PV}(R:Rel C.W B S P H σ ρ)(q:ya C B H (RFr C.W (Mof B S P) H) Q o):OP C.W true (Mof B S P) H Q C.E o:=by
 have sM:∀a,(Mof B S P a\/H a=none)->Mof B S P a:=λa m=>m.elim id λn=>R.new a n;cases o with
 |ok r=>intro v h s d;unfold RtV at d;rw[if_pos rfl]at d;exact q v h s (d.sub sM)
 |exc c fs=>exact uS R q
 |wall=>exact q
def mD(F:qd X.prog X.w X.K X.mg X.base (CXe X.prog X.w) k f fd ps (lsp C.W fr ws g))(A:jJ k X.A)(v:Gl X x)(s:X.mg x=some (.ref f))(i:keepIn X.K (.ref f)=true)(d:Binds X.K fd ps [])(r:Passes (CXe X.prog X.w) X C.E)(D:AM X C S ws (e::es) ms)
  (c:(x==("__debug__":Str))=false:=by decide) (he:starEach (e::es) X.env=(false,eval e X.env)::starEach es X.env:=by rfl) (hpl:(backTo pos (starEach es X.env)).any (·.1)=false:=by rfl):EM X C S false (.Call (.Name x p) (e::es) [] pos) (zh g ms):=λG=>by
 obtain⟨I,E,n⟩:=D G;refine⟨_,lV F A v s i d .nil r E c he hpl,λB P H j l R Q q=>n B P H j l R _ (qw q λz J K h u y=>?_)⟩;rw[a0h];exact⟨_,z,u.args,Em (R.keep h) y⟩
def Yz(F:qd X.prog X.w X.K X.mg X.base (CXe X.prog X.w) k f fd ps (lsp C.W true ws g))(A:jJ k X.A)(v:Gl X x)(s:X.mg x=some (.ref f))(i:keepIn X.K (.ref f)=true)(d:Binds X.K fd ps [])(r:Passes (CXe X.prog X.w) X C.E)(D:AM X C S ws (e::es) ms)
  (c:(x==("__debug__":Str))=false:=by decide) (he:starEach (e::es) X.env=(false,eval e X.env)::starEach es X.env:=by rfl) (hpl:(backTo pos (starEach es X.env)).any (·.1)=false:=by rfl):FM X C S (.Call (.Name x p) (e::es) [] pos) (zh g ms):=λG=>by
 obtain⟨I,E,n⟩:=D G;refine⟨_,lV F A v s i d .nil r E c he hpl,λB P H j l R Q q=>n B P H j l R _ (Yx q λz J K h u y=>?_)⟩;rw[a0h];exact⟨_,z,u.args,mB (R.keep h) y⟩
def QS(cs:So)(f:Str)(m:ME):ME:=λd=>(m d).bind λx=>match x with
 |.o c fs=>if c∈cs then kW (fs.lookup f)else .wall
 |_=>.wall
def mE(cs:So)(f:Str)(m:ME):ME:=λd=>(m d).bind λx=>match x with
 |.x c fs=>if c∈cs then kW (fs.lookup f)else .wall
 |_=>.wall
def vR(h:EM X C S w e m)(l:∀c∈cs,Cls X.K (C.W.cls c)/\vw X.K (C.W.cls c) fn)(n:attributeBase e fn X.env (eval e X.env)=eval e X.env:=by rfl):EM X C S false (.Attribute e fn pos) (QS cs fn m):=λF=>by
 obtain⟨J,E,u⟩:=h F;refine⟨_,D6 E n,λB P H r s R Q q=>u B P H r s R _ (zN q λx v j I A d=>?_)⟩;cases x with
 |o c fs=>
  obtain⟨p,D,es,rfl,_,hp,hf⟩:=A;by_cases i:c∈cs
  .have d:ya C B j (RV C B S P false) Q (if c∈cs then kW (fs.lookup fn)else .wall):=d;rw[if_pos i]at d;obtain⟨y,e,d⟩:=qj d;obtain⟨v,G,z⟩:=hf.lookup e;exact⟨p,_,D,es,v,rfl,hp,(l c i).1,(l c i).2,G,d v j (zA.refl _) (RV.of z)⟩
  .have d:ya C B j (RV C B S P false) Q (if c∈cs then kW (fs.lookup fn)else .wall):=d;rw[if_neg i]at d;exact d.elim
 |_=>exact d.elim
def WH(h:EM X C S w e m)(l:∀c∈cs,QI X.K (C.W.cls c)/\findIn X.K (.ref (C.W.cls c)) fn=some none)(n:attributeBase e fn X.env (eval e X.env)=eval e X.env:=by rfl):EM X C S false (.Attribute e fn pos) (mE cs fn m):=λG=>by
 obtain⟨K,F,z⟩:=h G;refine⟨_,FQ F n,λB P H r s R Q q=>z B P H r s R _ (zN q λx v j J D d=>?_)⟩;cases x with
 |x c fs=>
  obtain⟨p,E,es,rfl,hp,u,hf⟩:=D;by_cases i:c∈cs
  .have d:ya C B j (RV C B S P false) Q (if c∈cs then kW (fs.lookup fn)else .wall):=d;rw[if_pos i]at d;obtain⟨y,e,d⟩:=qj d;obtain⟨v,I,A⟩:=hf.lookup e;exact⟨p,_,E,es,v,rfl,(l c i).1,(l c i).2,.inl hp,u,I,d v j (zA.refl _) (RV.of A)⟩
  .have d:ya C B j (RV C B S P false) Q (if c∈cs then kW (fs.lookup fn)else .wall):=d;rw[if_neg i]at d;exact d.elim
 |_=>exact d.elim
def jg(tab:List (Nat×(List PV->Out PV)))(mn:Str)(m:ME)(ms:MA):ME:=λd=>(m d).bind λx=>match x with
 |.o c fs=>match tab.lookup c with
  |some g=>if(fs.lookup mn).isSome=true then .wall else(ms d).bind λh=>g (x::h)
  |none=>.wall
 |_=>.wall
def NQ(W:RC)(fr:Bool)(ws:Su)(tab:List (Nat×(List PV->Out PV)))(K:Addr)(sp:Sp):Prop:=∃q∈tab,K=W.cls q.1/\sp=lsp W fr (true::ws) q.2
def lookup_mem{i:Type}:∀{d:List (Nat×i)}{c:Nat}{g:i},d.lookup c=some g->(c,g)∈d
 |[],_,_,h=>by cases h
 |q::r,c,g,h=>by
  rw[a0u]at h;by_cases e:(c==q.1)=true
  .simp only[e]at h;cases h;rw[a0t.mp e];exact S4
  .simp only[e]at h;exact S6 _ (lookup_mem h)
def uT{B:Bs}{P:SA}{H:Hp}{σ:St}{ρ:Sto}{Q:VK}{c:Nat}{fs:SO}{v:V}{tab:List (Nat×(List PV->Out PV))}{t:TA}(R:Rel C.W B S P H σ ρ)(s:RV C B S P w H (.o c fs) v)
  (u:∀g,tab.lookup c=some g->fs.lookup mn=none->t σ H λj i=>lsp C.W fr (true::ws) g (v::j) i Q C.E)
  (q:(∃g,tab.lookup c=some g/\fs.lookup mn=none)):∃a d es K r,NQ C.W fr ws tab K r/\v=.ref a/\H a=some (.ins K d es)/\es.lookup mn=none/\t σ H λj i=>r (v::j) i Q C.E:=by
 obtain⟨g,l,n⟩:=q;have h:=u g l n;obtain⟨p,d,es,rfl,_,hp,hf⟩:=s;exact⟨p,d,es,_,_,⟨(c,g),lookup_mem l,rfl,rfl⟩,rfl,hp,hf.uF n,h⟩
def RVs.consW{B:Bs}{P:SA}{H:Hp}{x:PV}{v:V}{xs:SH}{vs:Sx}(h:RV C B S P w H x v)(t:RVs C B S P H ws xs vs):jE C.W (Mof B S P) H (true::ws) (x::xs) (v::vs):=⟨x,v,xs,vs,rfl,rfl,by rw[if_pos rfl];exact h.weak,t.args⟩
def jL(h:EM X C S w o m)(n:∀K A,NQ C.W fr ws tab K A->HK X.prog X.w X.K X.mg X.base X.A mn K A)(N:Passes (CXe X.prog X.w) X C.E)(W:AM X C S ws (e::es) ms)
  (s:starEach (e::es) X.env=(false,eval e X.env)::starEach es X.env:=by rfl) (hpl:(backTo pos (starEach es X.env)).any (·.1)=false:=by rfl)
  (U:eval (.Call (.Attribute o mn jI) (e::es) [] pos) X.env=(do
   let ov<-eval o X.env
   standAt jI.atName
   let(f,first)<-holding [ov] (getMethod ov mn pl)
   callWith pos f first (backTo pos (starEach (e::es) X.env)) (backToKw pos (keywordEach [] X.env))):=by rfl):EM X C S false (.Call (.Attribute o mn jI) (e::es) [] pos) (jg tab mn m ms):=λI=>by
 obtain⟨to,J,M⟩:=h I;obtain⟨Z,Y,O⟩:=W I;refine⟨_,Cc (pl:=pl) J n N Y s hpl U,λB P H y r R Q q=>M B P H y r R _ (zN q λx v D l E d=>?_)⟩;cases x with
 |o c fs=>
  dsimp only at d;cases j:tab.lookup c with
  |none=>rw[j]at d;exact d.elim
  |some g=>
   rw[j]at d;dsimp only at d;cases u:fs.lookup mn with
   |some z=>rw[u]at d;exact d.elim
   |none=>rw[u]at d;have d:ya C B D (RV C B S P false) Q ((ms r).bind λF=>g (.o c fs::F)):=d;refine uT (R.keep l) E (λg' i _=>?_) ⟨g,j,u⟩;rw[j]at i;cases i;exact O B P D y r (R.keep l) _ (qw d λF vs H2 G L T=>⟨_,_,RVs.consW (RV.same E G) L,Em ((R.keep l).keep G) T⟩)
 |_=>exact d.elim
def Cp(h:EM X C S w o m)(l:∀K s,NQ C.W true [] tab K s->HK X.prog X.w X.K X.mg X.base X.A mn K s)(F:Passes (CXe X.prog X.w) X C.E)
  (G:eval (.Call (.Attribute o mn jI) [] [] pos) X.env=(do
   let ov<-eval o X.env
   standAt jI.atName
   let(f,first)<-holding [ov] (getMethod ov mn pl)
   callWith pos f first (backTo pos (starEach [] X.env)) (backToKw pos (keywordEach [] X.env))):=by rfl):FM X C S (.Call (.Attribute o mn jI) [] [] pos) (jg tab mn m zk):=λI=>by
 obtain⟨L,A,D⟩:=h I;refine⟨_,uE (pl:=pl) A l F G,λB P H y E R Q q=>D B P H y E R _ (Yy q λx v J r u d=>?_)⟩;cases x with
 |o c fs=>
  dsimp only at d;cases j:tab.lookup c with
  |none=>rw[j]at d;exact d.elim
  |some g=>
   rw[j]at d;dsimp only at d;cases n:fs.lookup mn with
   |some z=>rw[n]at d;exact d.elim
   |none=>rw[n]at d;refine uT (R.keep r) u (λM i _=>?_) ⟨g,j,n⟩;rw[j]at i;cases i;exact⟨_,_,RVs.consW (ws:=[]) u ⟨rfl,rfl⟩,mB (R.keep r) d⟩
 |_=>exact d.elim
def erase(H:Hp)(x:Addr):Hp:=λa=>if a=x then none else H a
def P5(W:RC)(M:Sr)(H:Hp)(x:Addr)(Q:VK)(E:XK):Out PV->Prop
 |.ok r=>∀d,zA (erase H x) d->d9 W (λa=>(M a\/erase H x a=none)/\a≠x) d x r->Q .non d
 |.exc c fs=>∀e h es d,zA (erase H x) d->d e=some (XC e (W.cls c) h)->d h=some (XD h es)->vx W (λa=>M a\/erase H x a=none) d fs es->E (.ref e) (some h) d
 |.wall=>False
def NR(W:RC)(c:Nat)(ws:Su)(g:SD):Sp:=λj H Q E=>∃M x i h d,j=.ref x::d/\H x=some (.ins (W.cls c) i [])/\jE W M (erase H x) ws h d/\P5 W M H x Q E (g h)
def Cq(h:ws.length+1=n):∀d H Q E,NR W c ws g d H Q E->d.length=n:=λd H Q E ⟨M,x,j,l,i,e,_,a,_⟩=>by rw[e,S0,a.len.1,h]
def uU{H:Hp}{x c K:Addr}(j:H x=none)(i:H c=none)(l:c≠x):zA H (erase (upd (upd H c (.own x)) x (.ins K c [])) x):=λb o d=>by unfold erase;have h:b≠x:=zZ d j;rw[if_neg h,zi h,zi (zZ d i)];exact d
def uV{H:Hp}{x c K a:Addr}(i:H x=none)(h:erase (upd (upd H c (.own x)) x (.ins K c [])) x a=none):H a=none:=by
 by_cases e:a=x
 .rw[e];exact i
 .unfold erase at h;rw[if_neg e,zi e]at h;by_cases d:a=c
  .subst d;rw[zg]at h;cases h
  .rwa [zi d]at h
def Ga(M:Mk X.K (C.W.cls c) f)(F:qd X.prog X.w X.K X.mg X.base (CXe X.prog X.w) k f fd ps (NR C.W c ws g))(v:jJ (k+1) X.A)(Y:Gl X x)(U:X.mg x=some (.ref (C.W.cls c)))(E:Binds X.K fd ps [])(d:Passes (CXe X.prog X.w) X C.E)(ha:AM X C S ws (e::es) ms)
  (y:(x==("__debug__":Str))=false:=by decide) (he:starEach (e::es) X.env=(false,eval e X.env)::starEach es X.env:=by rfl) (hpl:(backTo pos (starEach es X.env)).any (·.1)=false:=by rfl):FM X C S (.Call (.Name x p) (e::es) [] pos) (zh g ms):=λhK=>by
 obtain⟨ta,a1,T⟩:=ha hK;refine⟨_,ue M F v Y U E .nil d a1 y he hpl,λB P H I N R Q q=>T B P H I N R _ (Yx q λA J L G W h=>?_)⟩;intro x l d O u;rw[a0h];have D:=R.keep G;have i:=uU (K:=C.W.cls c) d O u;refine⟨_,x,l,A,J,rfl,zg,W.args.same i,?_⟩;have sM:∀a,(Mof B S P a\/erase (upd (upd L l (.own x)) x (.ins (C.W.cls c) l [])) x a=none)->Mof B S P a:=λa m=>m.elim id λn=>D.new a (uV d n);revert h;cases g A with
 |ok r=>exact λh s z v=>⟨rfl,h _ s (i.trans z) ⟨x,rfl,d,v.gen rfl Fr.refl λa m _=>⟨sM a m.1,m.2⟩⟩⟩
 |exc c fs=>exact λh e j es s z Z h2 h3=>h e j es s ((D.same.trans i).trans z) Z h2 (h3.sub λa m _=>(sM a m).1.1)
 |wall=>exact id
inductive Kd where
 |int|str|bool|none|list|tuple|dict|obj (c:Nat)|exc (c:Nat)
 deriving DecidableEq
def kd:PV->Option Kd
 |.i _=>some .int | .s _=>some .str | .b _=>some .bool | .n=>some .none | .l _=>some .list | .t _=>some .tuple | .d _=>some .dict | .o c _=>some (.obj c) | .x c _=>some (.exc c)
 |.sc _=>Option.none
 |.dt _=>Option.none
def tyK(W:RC):Kd->Value
 |.int=>.type "int" | .str=>.type "str" | .bool=>.type "bool" | .none=>.type "NoneType" | .list=>.type "list" | .tuple=>.type "tuple" | .dict=>.type "dict" | .obj c=>.ref (W.cls c) | .exc c=>.ref (W.cls c)
def NS(W:RC):Kd->Prop
 |.obj c=>Cls W.K (W.cls c)/\findIn W.K (.ref (W.cls c)) "__class__"=some (some (.builtin "object.__class__"))/\specialIn W.K (.builtin "object.__class__") "__get__"=some (some (.builtin "getset_descriptor.__get__"))/\takesIn W.K (.builtin "object.__class__")=some true/\mroIn W.K (W.cls c) (.type "object")=some true
 |.exc c=>QI W.K (W.cls c)/\XIs W.K (W.cls c)
 |_=>True
def uW(W:RC)(f:TC):List (Kd×Bool)->Prop
 |[]=>True
 |q::r=>(NS W q.1/\f (tyK W q.1)=some q.2)/\uW W f r
def uW.get{W:RC}{f:TC}:∀{c:List (Kd×Bool)}{k:Kd}{b:Bool},uW W f c->c.lookup k=some b->NS W k/\f (tyK W k)=some b
 |[],_,_,_,h=>by cases h
 |q::r,k,b,t,h=>by
  rw[a0u]at h;by_cases e:(k==q.1)=true
  .simp only[e]at h;cases h;rw[a0t.mp e];exact t.1
  .simp only[e]at h;exact uW.get t.2 h
def Cr(tab:List (Kd×Bool))(x:PV):Out PV:=kW (((kd x).bind λk=>tab.lookup k).map PV.b)
def RW(W:RC)(f:TC)(c:V):List V->Hp->VK->Prop:=λd H Q=>∃(M:Sr)(x:PV)(v:V)(k:Kd)(b:Bool),d=[v,c]/\qe W (λ_=>True) M H x v/\kd x=some k/\NS W k/\f (tyK W k)=some b/\Q (.bl b) H
def LF{pins:Sm}{σ:St}{H:Hp}{s:Ss}{W:RC}{N M:Sr}{x:PV}{v:V}{u:Value}{k:Kd}(D:X.K=W.K)(I:Inv X pins σ H s)(h:qe W N M H x v)(r:RelV v u)(j:kd x=some k)(ok:NS W k):∃P,KitX X.K u (tyK W k) P/\P s.heap/\u≠.builtin "__main__.__loader__#opaque":=by
 cases x with
 |i a=>cases j;exact l7 I r (.inl (by rw[(show v=_ from h)];exact .int a))
 |s a=>cases j;exact l7 I r (.inl (by rw[(show v=_ from h)];exact .str a))
 |b a=>cases j;exact l7 I r (.inl (by rw[(show v=_ from h)];exact .bl a))
 |n=>cases j;exact l7 I r (.inl (by rw[(show v=_ from h)];exact .non))
 |l a=>cases j;obtain⟨p,G,rfl,_,q,_⟩:=h;exact l7 I r (.inl (.lst q))
 |t a=>cases j;obtain⟨p,G,rfl,q,_⟩:=h;cases(show u=Value.ref p from r);rw[<- D]at q;obtain⟨Q,_,⟨o,B,E,_⟩,_⟩:=I.tuple q;exact⟨_,kitx_tuple,⟨o,B,E⟩,λz=>nomatch z⟩
 |d a=>cases j;obtain⟨p,G,rfl,_,q,_⟩:=h;cases(show u=Value.ref p from r);obtain⟨_,_,ws,_,dd⟩:=Kc I.hok q;obtain⟨o,es,R,B,E,_⟩:=dd;exact⟨_,kitx_dict,⟨o,B,E.1⟩,λz=>nomatch z⟩
 |o c a=>cases j;obtain⟨p,L,es,rfl,_,q,_⟩:=h;obtain⟨y,A,K,F,J⟩:=ok;rw[<- D]at y A K F J;exact l7 I r (.inl (.ins q y A K F J))
 |x c a=>cases j;obtain⟨p,L,es,rfl,q,O,_⟩:=h;obtain⟨y,A⟩:=ok;rw[<- D]at y A;exact l7 I r (.inr ⟨p,_,L,es,rfl,rfl,y,A,.inl q,O⟩)
 |sc a=>cases j
 |dt a=>cases j
def Cs(l:X.K=W.K)(z:OG cv=some cl):Yj X (.builtin "isinstance") (RW W (λt=>kitOne W.K t cl) cv):=by intro j s E H G F Q I r h;obtain⟨M,x,v,k,b,rfl,A,n,ok,i,q⟩:=h;obtain⟨u,c,rfl,y,B⟩:=vals2 r;obtain⟨P,D,hP,d⟩:=LF l I A y n ok;rw[B6 B z];rw[<- l]at i;exact kia_one D I.kIn hP i d λJ=>⟨.bl b,H,I.tok _,rfl,q⟩
def Xj(F:Gl X "isinstance")(D:X.mg "isinstance"=none)(h:EM X C S w e m)(s:PE X ce (tC cv))(i:OG cv=some cl)(K:uW C.W (λt=>kitOne C.W.K t cl) tab)
  (he:starEach [e,ce] X.env=[(false,eval e X.env),(false,eval ce X.env)]:=by rfl) (c:starEach [ce] X.env=[(false,eval ce X.env)]:=by rfl):EM X C S false (.Call (.Name "isinstance" p) [e,ce] [] pos) (mUn (Cr tab) m):=λl=>by
 obtain⟨M,I,A⟩:=h l;refine⟨_,oa (Cs l i) F D PyProof.Rows.boot_isinstance (Zv I (Zv s Xg c) (by rw[he,c])) (by decide) (by decide) (by rw[he,c]) (by rw[c];rfl),λB P H r y R Q q=>A B P H r y R _ (zN q λx v u L E j=>?_)⟩;obtain⟨z,G,j⟩:=qj j;obtain⟨b,d,rfl⟩:=u8.mp G;obtain⟨k,n,d⟩:=a0d.mp d;obtain⟨ok,J⟩:=K.get d;exact⟨_,x,v,k,b,rfl,E.weak,n,ok,J,j _ u (zA.refl _) (RV.of rfl)⟩
abbrev MO:=Sto->Out (Option Int)
def LO(C:LC)(S:So)(j:TO)(m:MO):Prop:=∀B P H h d,Rel C.W B S P H h d->∀Q:Option Int->Hp->Prop,(match m d with | .ok r=>∀i,zA H i->Q r i | .exc c fs=>XPo C B c fs | .wall=>False)->j h H Q
def OM(X:Cx)(C:LC)(S:So)(e:Tz)(m:MO):Prop:=X.K=C.W.K->∃c,PO X e c/\LO C S c m
def bW:MO:=λ_=>.ok none
def asI:PV->Out (Option Int)
 |.i a=>.ok (some a)
 |_=>.wall
def kK(m:ME):MO:=λc=>(m c).bind asI
def vS:OM X C S none bW:=λ_=>⟨_,FF,λB P H d c R Q q=>q H (zA.refl _)⟩
def vT(h:EM X C S w e m):OM X C S (some e) (kK m):=λy=>by
 obtain⟨z,n,u⟩:=h y;refine⟨_,FG n,λB P H j d R Q q=>u B P H j d R _ ?_⟩;unfold kK at q;revert q;cases m d with
 |ok x=>
  intro q v l s r;cases x with
  |i a=>exact⟨a,r,q l s⟩
  |_=>exact q.elim
 |exc c fs=>exact id
 |wall=>exact id
def gp{c:Type}(xs:List c)(d h:Tr):List c:=(xs.drop (HT.sIx xs.length 0 d)).take (HT.sIx xs.length xs.length h-HT.sIx xs.length 0 d)
def pSl:PV->Option Int->Option Int->Out PV
 |.l h,d,c=>.ok (.l (gp h d c))
 |.sc i,d,c=>.ok (.l ((gp i d c).map PV.i))
 |.s z,d,c=>if z.length<=sizeLine then .ok (.s (Txt.slice z d c))else .wall
 |_,_,_=>.wall
def Gb:PV->Option Int->Option Int->Out PV
 |.l h,d,c=>.ok (.l (gp h d c))
 |.sc i,d,c=>.ok (.l ((gp i d c).map PV.i))
 |_,_,_=>.wall
def mSl(d:PV->Option Int->Option Int->Out PV)(m:ME)(j i:MO):ME:=λc=>(m c).bind λx=>(j c).bind λl=>(i c).bind λh=>d x l h
def oK{ns:SS}{d c:Tr}:D8 (ns.map V.int) d c=(gp ns d c).map V.int:=by unfold D8 gp;rw[v4,a13,a3g]
variable {lo hi:Tz}{ml mh:MO}{p2:Pos}
def oM(h:EM X C S w e m)(T:OM X C S lo ml)(I:OM X C S hi mh):FM X C S (.Subscript e (.Slice lo hi none p2) pos) (mSl Gb m ml mh):=λj=>by
 obtain⟨W,O,G⟩:=h j;obtain⟨tl,J,D⟩:=T j;obtain⟨U,M,L⟩:=I j;refine⟨_,og ug O J M,λB P H n i R Q q=>G B P H n i R _ (Yy q λx v r u K d=>D B P r n i (R.keep u) _ ?_)⟩;revert d;cases ml i with
 |exc c fs=>exact id
 |wall=>exact id
 |ok l=>
  intro d N s;refine L B P N n i ((R.keep u).keep s) _ ?_;have d:ya C B r (RFr C.W (Mof B S P) r) Q ((mh i).bind λh=>Gb x l h):=d;have d:=j8 d s;revert d;cases mh i with
  |exc c fs=>exact id
  |wall=>exact id
  |ok h=>
   intro d H3 y;have d:=j8 (o:=Gb x l h) d y;have A:=(K.same s).same y;cases x with
   |l Z=>obtain⟨p,F,rfl,_,hp,E⟩:=A;exact⟨p,F,rfl,SqL.of hp,λz hz=>d _ _ (zA.upd hz) (Kf E.cut hz)⟩
   |sc Y=>obtain⟨p,rfl,hp⟩:=A;exact⟨p,_,rfl,j▸hp.sq,λz hz=>d _ _ (zA.upd hz) (by rw[oK];exact Kf yq.ints hz)⟩
   |_=>exact d.elim
def vE(h:EM X C S w e m)(Y:OM X C S lo ml)(K:OM X C S hi mh):EM X C S false (.Subscript e (.Slice lo hi none p2) pos) (mSl pSl m ml mh):=λn=>by
 obtain⟨te,W,J⟩:=h n;obtain⟨tl,L,F⟩:=Y n;obtain⟨Z,O,N⟩:=K n;refine⟨_,og (ug.or La) W L O,λB P H u i R Q q=>J B P H u i R _ (zN q λx v E r M d=>F B P E u i (R.keep r) _ ?_)⟩;revert d;cases ml i with
 |exc c fs=>exact id
 |wall=>exact id
 |ok l=>
  intro d T j;refine N B P T u i ((R.keep r).keep j) _ ?_;have d:ya C B E (RV C B S P false) Q ((mh i).bind λh=>pSl x l h):=d;have d:=Yl d j;revert d;cases mh i with
  |exc c fs=>exact id
  |wall=>exact id
  |ok h=>
   intro d U y;have d:=Yl (o:=pSl x l h) d y;have A:=(M.same j).same y;have D:=(((R.keep r).keep j).keep y).new;cases x with
   |l xs=>obtain⟨p,I,rfl,_,hp,G⟩:=A;exact .inl ⟨p,I,rfl,SqL.of hp,λz hz=>d _ _ (zA.upd hz) (RV.of ((Kf G.cut hz).rep D))⟩
   |sc ns=>obtain⟨p,rfl,hp⟩:=A;exact .inl ⟨p,_,rfl,n▸hp.sq,λz hz=>d _ _ (zA.upd hz) (by rw[oK];exact RV.of ((Kf yq.ints hz).rep D))⟩
   |s z=>
    unfold pSl at d;by_cases hz:z.length<=sizeLine
    .simp only[hz,if_true]at d;exact .inr ⟨z,A,hz,d _ U (zA.refl _) (RV.of rfl)⟩
    .simp only[hz,if_false]at d;exact d.elim
   |_=>exact d.elim
end
def Gd(C:LC)(B:Bs)(H:Hp)(x:PV)(v:V):Prop:=if C.fr=true then RFr C.W B.Mt B.H0 H x v else Rep C.W B.Mt H x v
def ZC(C:LC)(B:Bs)(S' Sb Sc:So)(D:Ends):Out Fw->Prop
 |.ok (.nx d)=>∀e b a,Rel C.W B S' e b a d->D.nx a b
 |.ok (.rt x)=>∀v b,zA B.H0 b->Gd C B b x v->D.rt v b
 |.ok (.bk d)=>∀e b a,Rel C.W B Sb e b a d->D.bk a b
 |.ok (.ct d)=>∀e b a,Rel C.W B Sc e b a d->D.ct a b
 |.exc c fs=>XPo C B c fs
 |.wall=>False
def LS(C:LC)(S S' Sb Sc:So)(ts:TS)(m:MS):Prop:=∀B P H b a,Rel C.W B S P H b a->∀D,ZC C B S' Sb Sc D (m a)->ts D b H
def SM(X:Cx)(C:LC)(S S' Sb Sc:So)(st:Tf)(m:MS):Prop:=X.K=C.W.K->∃a,PS X st a/\LS C S S' Sb Sc a m
def SsM(X:Cx)(C:LC)(S S' Sb Sc:So)(st:SY)(m:MS):Prop:=X.K=C.W.K->∃a,PSs X st a/\LS C S S' Sb Sc a m
def z1:MS:=λa=>.ok (.nx a)
def zY(a b:MS):MS:=λd=>(a d).bind λf=>match f with
 |.nx c=>b c
 |.rt x=>.ok (.rt x)
 |.bk c=>.ok (.bk c)
 |.ct c=>.ok (.ct c)
def yX(i:Nat)(m:ME):MS:=λa=>(m a).bind λx=>.ok (.nx (a.set i (some x)))
def jB(m:ME):MS:=λa=>(m a).bind λ_=>.ok (.nx a)
def jY(m:ME):MS:=λa=>(m a).bind λx=>.ok (.rt x)
def sIf(t:MT)(a b:MS):MS:=λd=>(t d).bind λc=>if c=true then a d else b d
section
variable {X:Cx}{C:LC}{S S' S1 Sb Sc:So}{e a o:Sy}{w:Bool}{m:ME}{t1:MT}{s1 s2:MS}{pos p pos':Pos}{x:Str}{st:Tf}{sts stt:SY}{i:Nat}
def z6:SsM X C S S Sb Sc [] z1:=λ_=>⟨_,tT,λB P H c d R D q=>q P H c R⟩
def LH(l:LS C S S1 Sb Sc t s1)(r:LS C S1 S' Sb Sc u s2):LS C S S' Sb Sc (Od t u) (zY s1 s2):=λB P H n h R D q=>by
 refine l B P H n h R _ ?_;unfold zY at q;revert q;cases s1 h with
 |ok f=>
  cases f with
  |nx d=>exact λq j s g v=>r B j s g d v D q
  |rt x=>exact id
  |bk d=>exact id
  |ct d=>exact id
 |exc c fs=>exact id
 |wall=>exact id
def zf(g:SM X C S S1 Sb Sc st s1)(j:SsM X C S1 S' Sb Sc sts s2):SsM X C S S' Sb Sc (st::sts) (zY s1 s2):=λc=>by obtain⟨t,h,l⟩:=g c;obtain⟨u,d,f⟩:=j c;exact⟨_,Uy h d,LH l f⟩
def zm(f:SM X C S S' Sb Sc st s1):SsM X C S S' Sb Sc [st] s1:=λc=>by obtain⟨t,d,g⟩:=f c;exact⟨_,kY d,g⟩
def Ct(i:Nat)(l:S1[i]?=some 2)(q:ZC C B (S1.set i 0) Sb Sc D f):ZC C B S1 Sb Sc D f:=by
 cases f with
 |ok f=>
  cases f with
  |nx d=>exact λh j g n=>q h j g (n.freeze l)
  |rt x=>exact q
  |bk d=>exact q
  |ct d=>exact q
 |exc c fs=>exact q
 |wall=>exact q
def Ge(i:Nat)(h:SsM X C S S1 Sb Sc sts s1)(l:S1[i]?=some 2:=by rfl):SsM X C S (S1.set i 0) Sb Sc sts s1:=λg=>by obtain⟨t,f,j⟩:=h g;exact⟨t,f,λB P H d c R D q=>j B P H d c R D (Ct i l q)⟩
def En(h:LE C S false te m):LS C S (S.set i 0) Sb Sc (HD te (lS i)) (yX i m):=λB P H f d R D q=>by
 refine h B P H f d R _ ?_;unfold yX at q;revert q;cases m d with
 |ok x=>exact λq v g s r=>q P g _ ((R.keep s).set r.rep)
 |exc c fs=>exact id
 |wall=>exact id
def uX(d:X.N.Nodup)(l:X.N[i]?=some x)(g:Loc X.env.scope x)(h:EM X C S false e m)(c:swapsWith e (some (.Name x pos')) pos.line X.env=pure false:=by rfl)(hf:X.fn x=true\/X.env.scope.names.lookup x=some .local:=by first|exact .inl rfl|exact .inr rfl|assumption):
  SM X C S (S.set i 0) Sb Sc (.Assign [.Name x pos'] e pos) (yX i m):=λn=>by
 obtain⟨q,f,j⟩:=h n;exact⟨_,tV d l g f c hf,En j⟩
def Gf(h:LFr C S te m)(j:i<S.length)(l:i≠0):LS C S (S.set i 2) Sb Sc (HD te (lS i)) (yX i m):=λB P H f d R D q=>by
 refine h B P H f d R _ ?_;unfold yX at q;revert q;cases m d with
 |ok x=>exact λq v g s ⟨p,e,hp,r⟩=>by subst e;exact q _ g _ (R.RS s hp j l r)
 |exc c fs=>exact id
 |wall=>exact id
def vU(d:X.N.Nodup)(q:X.N[i]?=some x)(f:Loc X.env.scope x)(h:FM X C S e m)(l:i<S.length:=by decide)(n:i≠0:=by decide)(c:swapsWith e (some (.Name x pos')) pos.line X.env=pure false:=by rfl)(hf:X.fn x=true\/X.env.scope.names.lookup x=some .local:=by first|exact .inl rfl|exact .inr rfl|assumption):
  SM X C S (S.set i 2) Sb Sc (.Assign [.Name x pos'] e pos) (yX i m):=λr=>by
 obtain⟨s,g,j⟩:=h r;exact⟨_,tV d q f g c hf,Gf j l n⟩
def yP(h:EM X C S w e m)(g:swapsWith e none pos.line X.env=pure false:=by rfl):SM X C S S Sb Sc (.Expr e pos) (jB m):=λu=>by
 obtain⟨y,l,n⟩:=h u;refine⟨_,UY l g,λB P H f d R D q=>n B P H f d R _ ?_⟩;unfold jB at q;revert q;cases m d with
 |ok x=>exact λq v j s r=>q P j f (R.keep s)
 |exc c fs=>exact id
 |wall=>exact id
def yQ(h:EM X C S false e m)(hf:C.fr=false:=by rfl):SM X C S S' Sb Sc (.Return (some e) pos) (jY m):=λn=>by
 obtain⟨u,j,l⟩:=h n;refine⟨_,n5 j,λB P H f d R D q=>l B P H f d R _ ?_⟩;unfold jY at q;revert q;cases m d with
 |ok x=>exact λq v g s r=>q v g (R.same.trans s) (by unfold Gd;rw[hf,if_neg T7];exact r.rep.sub λa m _=>m.1.1)
 |exc c fs=>exact id
 |wall=>exact id
def eE(h:FM X C S e m)(hf:C.fr=true:=by rfl):SM X C S S' Sb Sc (.Return (some e) pos) (jY m):=λn=>by
 obtain⟨u,j,l⟩:=h n;refine⟨_,n5 j,λB P H f d R D q=>l B P H f d R _ ?_⟩;unfold jY at q;revert q;cases m d with
 |ok x=>exact λq v g s r=>q v g (R.same.trans s) (by
   unfold Gd;rw[if_pos hf];obtain⟨p,e,hp,r⟩:=r;exact⟨p,e,zA.none R.same hp,r.gen rfl Fr.refl λa m _=>⟨m.1.1.1,m.2⟩⟩)
 |exc c fs=>exact id
 |wall=>exact id
def Vb(h:PE X e (rA i))(d:S[i]?=some 2:=by rfl)(hf:C.fr=true:=by rfl):SM X C S S' Sb Sc (.Return (some e) pos) (jY (zc i)):=λr=>by
 refine⟨_,n5 h,λB P H n g R D q=>?_⟩;unfold jY zc at q;cases c:g[i]? with
 |none=>rw[c]at q;exact q.elim
 |some o=>
  cases o with
  |none=>rw[c]at q;exact q.elim
  |some y=>rw[c]at q;obtain⟨v,l,j,_,_⟩:=R.var i y c;obtain⟨rfl,f⟩:=j d;refine⟨_,l,q _ H R.same ?_⟩;unfold Gd;rw[if_pos hf];exact⟨P i,rfl,(R.act i d).1,f.gen rfl Fr.refl λa m _=>⟨m.1.1,λz=>m.2 i d z.symm⟩⟩
def qi(h:TM X C S c t1)(y:SsM X C S S' Sb Sc sts s1)(A:SsM X C S S' Sb Sc stt s2):SM X C S S' Sb Sc (.If c sts stt pos) (sIf t1 s1 s2):=λg=>by
 obtain⟨F,E,n⟩:=h g;obtain⟨t,r,l⟩:=y g;obtain⟨u,z,v⟩:=A g;refine⟨_,Im E r z,λB P H f d R D q=>n B P H f d R _ ?_⟩;unfold sIf at q;revert q;cases t1 d with
 |ok k=>
  intro q j s;cases k with
  |true=>exact FO (l B P j f d (R.keep s) D q)
  |false=>exact FN (v B P j f d (R.keep s) D q)
 |exc c fs=>exact id
 |wall=>exact id
def Rel.at2(R:Rel W B S P H σ ρ)(g:S[i]?=some 2)(e:ρ[i]?=some (some y)):σ[i]?=some (some (.ref (P i)))/\d9 W (Mof B S P) H (P i) y/\i<ρ.length:=by obtain⟨v,f,d,_,_⟩:=R.var i y e;obtain⟨rfl,c⟩:=d g;exact⟨f,c,(T9.mp e).1⟩
def Mof.wr{W:RC}{B:Bs}{P:SA}{H:Hp}{σ:St}{ρ:Sto}{o:HO}(R:Rel W B S P H σ ρ)(c:S[i]?=some 2):Fr (Mof B S P) H (upd H (P i) o):=λa q e m=>by
 obtain⟨_,g,f,d⟩:=R.act i c;have:a≠P i:=λz=>by
  rcases m with m|m
  .exact m.2 i c z.symm
  .rw[z,f]at e;cases e;exact d m
 rw[zi this];exact e
def c9(i:Nat)(m:ME):MS:=λc=>match c[i]? with
 |some (some (.l d))=>(m c).bind λy=>if d.length<sizeLine then .ok (.nx (c.set i (some (.l (d++[y])))))else .wall
 |_=>.wall
def qH(F:PE X o (rA i))(h:EM X C S false e m)(g:S[i]?=some 2:=by rfl)(G:attributeBase o "append" X.env (eval o X.env)=eval o X.env:=by rfl)
  (J:((backTo p (starEach [e] X.env)).all (λx=>!x.1)&&(backToKw p (keywordEach [] X.env)).all (λx=>x.1.isSome)&&decide ([e].length+([]:List Keyword).length+(if([]:List Keyword).isEmpty then 0 else 1)<30))=true:=by rfl)
  (I:(jI.endLine==p.line)=true:=by rfl) (n:starEach [e] X.env=[(false,eval e X.env)]:=by rfl) (l:swapsWith (.Call (.Attribute o "append" jI) [e] [] p) none pos.line X.env=pure false:=by rfl):
  SM X C S S Sb Sc (.Expr (.Call (.Attribute o "append" jI) [e] [] p) pos) (c9 i m):=λN=>by
 obtain⟨Q,M,K⟩:=h N;refine⟨_,UY (BO a1t a2G a2H U1 F (Zv M Xg n) G J I n rfl) l,λB P H z j R D q=>?_⟩;unfold c9 at q;split at q
 .rename_i E L;obtain⟨d,⟨A,hp,u⟩,O⟩:=R.at2 g L;refine⟨_,d,.inl ⟨rfl,_,SqL.of hp⟩,K B P H z j R _ ?_⟩;revert q;cases m j with
  |ok y=>
   intro q v T s r;have q:ZC C B S Sb Sc D (if E.length<sizeLine then .ok (.nx (j.set i (some (.l (E++[y])))))else .wall):=q;split at q
   .rename_i hz;have R2:=R.keep s;refine⟨_,A,v,rfl,rfl,s _ _ hp,by rw[u.len];exact hz,q P _ z (R2.wr g O d (by exact id) ?_)⟩;have f:=Mof.wr (o:=.lst (A++[v])) R2 g;exact⟨_,zg,((u.same s).append (.cons r.rep .nil)).gen f λ_ m _=>m⟩
   .exact q.elim
  |exc c fs=>exact id
  |wall=>exact id
 .exact q.elim
def dput{d f:Type}[DecidableEq d](kvs:List (d×f))(k:d)(v:f):List (d×f):=
 if kvs.any (λc=>decide (c.1=k))=true then kvs.map (λc=>if c.1=k then(c.1,v)else c)else kvs++[(k,v)]
end
def jX.put(h:jX W M H a c)(l:Rep W M H x v):jX W M H (dput a k x) (putK c k v):=by
 have i:∀{a:SN}{c:SE},jX W M H a c->a.any (λb=>decide (b.1=k))=c.any (λb=>decide (b.1=k))/\jX W M H (a.map λb=>if b.1=k then(b.1,x)else b) (c.map λb=>if b.1=k then(b.1,v)else b)/\jX W M H (a++[(k,x)]) (c++[(k,v)]):=by
  intro a
  induction a with
  |nil=>intro c h;cases(show _=_ from h);exact⟨rfl,rfl,v,[],rfl,l,rfl⟩
  |cons m a n=>
   intro c h;obtain⟨u,q,rfl,j,o⟩:=h;obtain⟨f,d,g⟩:=n o;refine⟨by rw[a0O,a0O,f],?_,⟨u,_,rfl,j,g⟩⟩;rw[T2,T2];by_cases e:m.1=k
   .rw[if_pos e,if_pos e];exact⟨v,_,rfl,l,d⟩
   .rw[if_neg e,if_neg e];exact⟨u,_,rfl,j,d⟩
 obtain⟨f,d,g⟩:=i h;unfold dput putK;rw[f];split
 .exact d
 .exact g
section
variable {X:Cx}{C:LC}{S Sb Sc:So}{e a o:Sy}{es:Sw}{w:Bool}{m m1 m2:ME}{pos p pos':Pos}{i:Nat}
def Gg(i:Nat)(mk f:ME):MS:=λd=>(f d).bind λv=>match d[i]? with
 |some (some (.d c))=>(mk d).bind λy=>match pk y with
  |some k=>if c.length<sizeLine then .ok (.nx (d.set i (some (.d (dput c k v)))))else .wall
  |none=>.wall
 |_=>.wall
def Eo(J:X.A.units+1<cLine)(L:PE X o (rA i))(l:EM X C S w a m1)(Z:EM X C S false e m2)(r:S[i]?=some 2:=by rfl)(K:swapsWith e (some (.Subscript o a pos')) pos.line X.env=pure false:=by rfl):
  SM X C S S Sb Sc (.Assign [.Subscript o a pos'] e pos) (Gg i m1 m2):=λG=>by
 obtain⟨ta,W,O⟩:=l G;obtain⟨tv,U,I⟩:=Z G;refine⟨_,l5 J L W U K,λB P H n h R D q=>I B P H n h R _ ?_⟩;unfold Gg at q;revert q;cases m2 h with
 |ok y=>
  intro q v N A T;have E:=R.keep A;have q:ZC C B S Sb Sc D (match h[i]? with
   |some (some (.d d))=>(m1 h).bind λz=>match pk z with
    |some k=>if d.length<sizeLine then .ok (.nx (h.set i (some (.d (dput d k y)))))else .wall
    |none=>.wall
   |_=>.wall):=q
  split at q
  .rename_i d Q;obtain⟨j,⟨es,hp,F⟩,Y⟩:=E.at2 r Q;refine⟨_,j,O B P N n h E _ ?_⟩;revert q;cases m1 h with
   |ok z=>
    intro q u H2 g M;have R2:=E.keep g;have q:ZC C B S Sb Sc D (match pk z with
     |some k=>if d.length<sizeLine then .ok (.nx (h.set i (some (.d (dput d k y)))))else .wall
     |none=>.wall):=q
    split at q
    .rename_i k l;split at q
     .rename_i hz;have s:=g _ _ hp;refine⟨_,_,rfl,by rw[WG M.weak l];exact BR.k s (by rw[jX.len F];exact hz),q P _ n (R2.wr r Y j (by exact id) ?_)⟩;have f:=Mof.wr (o:=.dK (putK es k v)) R2 r;exact⟨_,zg,((F.same g).put (T.rep.same g)).gen f λ_ m _=>m⟩
     .exact q.elim
    .exact q.elim
   |exc c fs=>exact id
   |wall=>exact id
  .exact q.elim
 |exc c fs=>exact id
 |wall=>exact id
def uY(i:Nat)(mk f:ME):MS:=λc=>(f c).bind λv=>match c[i]? with
 |some (some (.l d))=>(mk c).bind λy=>match y with
  |.i k=>match ixN d.length k with
   |some j=>.ok (.nx (c.set i (some (.l (d.set j v)))))
   |none=>.wall
  |_=>.wall
 |_=>.wall
def Gh(M:PE X o (rA i))(K:EM X C S w a m1)(hv:EM X C S false e m2)(r:S[i]?=some 2:=by rfl)
  (ha:∀v,assign (.Subscript o a p) X.env v=(do
   let ov<-holding [v] (eval o X.env)
   let iv<-holding [v,ov] (eval a X.env)
   standAt p
   holding [v,ov,iv] (setItem ov iv v)
   release [v,ov,iv] []):=by intro _;rfl)
  (J:swapsWithSole [.Subscript o a p] e pos.line X.env=pure false:=by rfl) (O:swappedStores [.Subscript o a p] e X.env=pure none:=by rfl) (Y:(assignEach [.Subscript o a p] X.env).map (·.2)=[assign (.Subscript o a p) X.env]:=by rfl):
  SM X C S S Sb Sc (.Assign [.Subscript o a p] e pos) (uY i m1 m2):=λG=>by
 obtain⟨ta,a1,Q⟩:=K G;obtain⟨tv,W,I⟩:=hv G;refine⟨_,Iq W (Ip M a1 set_list ha) J O Y,λB P H n g R D q=>I B P H n g R _ ?_⟩;unfold uY at q;revert q;cases m2 g with
 |ok y=>
  intro q v N s U;have A:=R.keep s;have q:ZC C B S Sb Sc D (match g[i]? with
   |some (some (.l l))=>(m1 g).bind λz=>match z with
    |.i k=>match ixN l.length k with
     |some j=>.ok (.nx (g.set i (some (.l (l.set j y)))))
     |none=>.wall
    |_=>.wall
   |_=>.wall):=q
  split at q
  .rename_i l T;obtain⟨h,⟨F,hp,E⟩,hl⟩:=A.at2 r T;refine⟨_,h,Q B P N n g A _ ?_⟩;revert q;cases m1 g with
   |ok z=>
    intro q u H2 d L;have R2:=A.keep d;cases z with
    |i k=>
     have q:ZC C B S Sb Sc D (match ixN l.length k with
      |some j=>.ok (.nx (g.set i (some (.l (l.set j y)))))
      |none=>.wall):=q
     split at q
     .rename_i j Z;refine⟨_,F,k,j,rfl,L,d _ _ hp,by rw[E.len];exact Z,q P _ n (R2.wr r hl h (by exact id) ?_)⟩;have f:=Mof.wr (o:=.lst (F.set j v)) R2 r;exact⟨_,zg,(yq.set (U.rep.same d) j (E.same d)).gen f λ_ m _=>m⟩
     .exact q.elim
    |_=>exact q.elim
   |exc c fs=>exact id
   |wall=>exact id
  .exact q.elim
 |exc c fs=>exact id
 |wall=>exact id
def Bv(fs:SO)(f:Str)(v:PV):List (Str×PV):=match fs with
 |[]=>[(f,v)]
 |c::r=>if c.1=f then(f,v)::r else c::Bv r f v
end
def vx.put{W:RC}{M:Sr}{H:Hp}{f:Str}{x:PV}{v:V}(b:Rep W M H x v):∀{a:SO}{d:SW},vx W M H a d->vx W M H (Bv a f x) (Vx f v d)
 |[],_,h=>by cases(show _=_ from h);exact⟨v,[],rfl,b,rfl⟩
 |g::a,_,h=>by
  obtain⟨u,q,rfl,i,c⟩:=h;unfold Bv Vx;by_cases e:g.1=f
  .rw[if_pos e,if_pos e,e];exact⟨v,q,rfl,b,c⟩
  .rw[if_neg e,if_neg e];exact⟨u,_,rfl,i,vx.put b c⟩
def vx.len(h:vx W M H a es):es.length=a.length:=by have:=a0F List.length (vx.iff.mp h).1;simpa using this
section
variable {X:Cx}{C:LC}{S S' S1 Sb Sc:So}{e a b o:Sy}{es:Sw}{m:ME}{pos p pos':Pos}{x:Str}{i:Nat}
def mF(i:Nat)(cs:So)(f:Str)(m:ME):MS:=λd=>(m d).bind λv=>match d[i]? with
 |some (some (.o c fs))=>if c∈cs/\fs.length<1000 then .ok (.nx (d.set i (some (.o c (Bv fs f v)))))else .wall
 |_=>.wall
def uZ(E:PE X o (rA i))(L:EM X C S false e m)(u:∀c∈cs,Cls X.K (C.W.cls c)/\vw X.K (C.W.cls c) fn)(h:S[i]?=some 2:=by rfl)(A:swapsWith e (some (.Attribute o fn pos')) pos.line X.env=pure false:=by rfl):
  SM X C S S Sb Sc (.Assign [.Attribute o fn pos'] e pos) (mF i cs fn m):=λJ=>by
 obtain⟨N,I,z⟩:=L J;refine⟨_,D7 E I A,λB P H s g R D q=>z B P H s g R _ ?_⟩;unfold mF at q;revert q;cases m g with
 |ok y=>
  intro q v M j G;have n:=R.keep j;have q:ZC C B S Sb Sc D (match g[i]? with
   |some (some (.o c fs))=>if c∈cs/\fs.length<1000 then .ok (.nx (g.set i (some (.o c (Bv fs fn y)))))else .wall
   |_=>.wall):=q
  split at q
  .rename_i c fs F;split at q
   .rename_i hz;obtain⟨d,⟨l,es,hp,r⟩,K⟩:=n.at2 h F;refine⟨_,d,_,_,l,es,rfl,hp,(u c hz.1).1,(u c hz.1).2,by rw[r.len];exact hz.2,q P _ s (n.wr h K d (by exact id) ?_)⟩;have f:=Mof.wr (o:=.ins (C.W.cls c) l (Vx fn v es)) n h;exact⟨l,_,zg,(vx.put G.rep r).gen f λ_ m _=>m⟩
   .exact q.elim
  .exact q.elim
 |exc c fs=>exact id
 |wall=>exact id
abbrev MG:=PV->Sto->Option Sto
def LG(C:LC)(S S':So)(g:TG)(mg:MG):Prop:=∀B P H h f x v,Rel C.W B S P H h f->Rep C.W (Mof B S P) H x v->∀Q:St->Hp->Prop,(∃c,mg x f=some c/\∀d,Rel C.W B S' P H d c->Q d H)->g v h H Q
def GM(X:Cx)(C:LC)(S S':So)(c:Sy)(mg:MG):Prop:=X.K=C.W.K->∃g,PG X c g/\LG C S S' g mg
def gNm(i:Nat):MG:=λx c=>some (c.set i (some x))
def QT(c:X.N.Nodup)(g:X.N[i]?=some x)(f:Loc X.env.scope x)(hf:X.fn x=true\/X.env.scope.names.lookup x=some .local:=by first|exact .inl rfl|exact .inr rfl|assumption):GM X C S (S.set i 0) (.Name x pos) (gNm i):=
 λ_=>⟨_,tU c g f hf,λB P H j h x v R r Q ⟨d,e,k⟩=>by cases e;exact k _ (R.set r)⟩
abbrev MGs:=List PV->Sto->Option Sto
def LGs(C:LC)(S S':So)(g:TGs)(mg:MGs):Prop:=∀B P H h f j l,Rel C.W B S P H h f->yq C.W (Mof B S P) H j l->∀Q:St->Hp->Prop,(∃c,mg j f=some c/\∀d,Rel C.W B S' P H d c->Q d H)->g l h H Q
def GsM(X:Cx)(C:LC)(S S':So)(c:Sw)(mg:MGs):Prop:=X.K=C.W.K->∃g,PGs X c g/\LGs C S S' g mg
def u6:MGs:=λc d=>match c with
 |[]=>some d
 |_=>none
def Qg(g:MG)(d:MGs):MGs:=λh f=>match h with
 |x::r=>(g x f).bind λc=>d r c
 |[]=>none
def oN:GsM X C S S [] u6:=λ_=>⟨_,Fu,λB P H g f c h R r Q ⟨d,e,k⟩=>by
 cases c with
 |nil=>cases e;cases(show _=_ from r);exact⟨rfl,k _ R⟩
 |cons x c=>cases e⟩
def Mof.le{B:Bs}{S S':So}{P:SA}(h:∀j:Nat,S'[j]?=some 2->S[j]?=some 2){a:Addr}(m:Mof B S P a):Mof B S' P a:=⟨m.1,λj c=>m.2 j (h j c)⟩
def vV(K:GM X C S S1 e g)(L:GsM X C S1 S' es gs)(D:∀j:Nat,S1[j]?=some 2->S[j]?=some 2)(z:(assignEach (e::es) X.env).map (·.2)=assign e X.env::(assignEach es X.env).map (·.2):=by rfl):GsM X C S S' (e::es) (Qg g gs):=λs=>by
 obtain⟨t,M,G⟩:=K s;obtain⟨u,J,y⟩:=L s;refine⟨_,BE M J z,λB P H F h f N R r Q ⟨c,e,k⟩=>?_⟩;cases f with
 |nil=>cases e
 |cons x f=>
  obtain⟨v,q,rfl,A,E⟩:=r;have e:(g x h).bind (λc=>gs f c)=some c:=e;cases n:g x h with
  |none=>rw[n]at e;cases e
  |some d=>rw[n]at e;exact⟨v,q,rfl,G B P H F h x v R A _ ⟨d,n,λl I=>y B P H l d f q I (E.sub λa m _=>Mof.le D m) Q ⟨c,e,k⟩⟩⟩
def gTp(n:Nat)(f:MGs):MG:=λx d=>match x with
 |.t c=>if c.length=n then f c d else none
 |_=>none
def oO(y:X.calm=true)(h:GsM X C S S' es gs)(A:(assignEach es X.env).length=n:=by rfl)(f:(assignEach es X.env).findIdx? (·.1)=none:=by rfl):GM X C S S' (.Tuple es k pos) (gTp n gs):=λs=>by
 obtain⟨t,D,z⟩:=h s;refine⟨_,Io y D A f,λB P H u q x v R r Q ⟨c,e,k⟩=>?_⟩;cases x with
 |t d=>
  obtain⟨p,l,rfl,hp,j⟩:=r;have e:(if d.length=n then gs d q else none)=some c:=e;by_cases g:d.length=n
  .rw[if_pos g]at e;exact⟨p,l,rfl,s▸hp,by rw[j.len];exact g,z B P H u q d l R j Q ⟨c,e,k⟩⟩
  .rw[if_neg g]at e;cases e
 |_=>cases e
def NA(B:Bs)(S:So)(P:SA):Addr->Prop:=λa=>¬B.xc a/\∀i,S[i]?=some 2->P i≠a
def Gi(W:RC)(M N:Sr)(f:Hp)(J:It)(xs:SH):Prop:=∀d,Fr N f d->
 (∀i x,xs[i]?=some x->J.go i d/\∀v c,J.yld i d v c->zA d c/\∀g:Addr->Prop,(∀a,M a->f a≠none->g a)->Rep W g c x v)/\J.stop xs.length d
abbrev MI:=Sto->Out (List PV)
def NAc(c:Bool)(B:Bs)(S:So)(P:SA):Addr->Prop:=if c=true then λ_=>True else NA B S P
def u7(C:LC)(B:Bs)(S:So)(P:SA)(c:Bool)(H:Hp)(R:It->Hp->Prop):Out (List PV)->Prop
 |.ok f=>∀J d,zA H d->Gi C.W (Mof B S P) (NAc c B S P) d J f->R J d
 |.exc c fs=>XPo C B c fs
 |.wall=>False
def LI(C:LC)(S:So)(c:Bool)(g:TI)(mi:MI):Prop:=∀B P H f d,Rel C.W B S P H f d->∀R:It->Hp->Prop,u7 C B S P c H R (mi d)->g f H R
def IM(X:Cx)(C:LC)(S:So)(c:Bool)(g f:Sy)(mi:MI):Prop:=X.K=C.W.K->∃d,PI X g f d/\LI C S c d mi
def vO(g:MG)(b:MS):List PV->Sto->Out Fw
 |[],d=>.ok (.nx d)
 |x::j,d=>(kW (g x d)).bind λh=>(b h).bind λf=>match f with
  |.nx c=>vO g b j c
  |.ct c=>vO g b j c
  |.bk c=>.ok (.nx c)
  |.rt v=>.ok (.rt v)
def JT(mi:MI)(g:MG)(b:MS):MS:=λc=>(mi c).bind λd=>vO g b d c
end
open Classical in
def Bs.loop(B:Bs)(S:So)(P:SA)(H:Hp)(hz:∀a,B.N0 a->(¬((∃i,S[i]?=some 2/\P i=a)\/B.xc a))/\H a≠none):Bs where
 H0:=λa=>if(∃i,S[i]?=some 2/\P i=a)\/B.xc a then none else H a
 M0:=B.Mt
 N0:=B.N0
 nz:=λa h=>by rw[if_neg (hz a h).1];exact(hz a h).2
 pin:=B.pin
 xc:=B.xc
section
variable {W:RC}{B:Bs}{S S':So}{P P':SA}{H H':Hp}{σ σ':St}{ρ ρ':Sto}
def Rel.hz(R:Rel W B S P H σ ρ):∀a,B.N0 a->(¬((∃i,S[i]?=some 2/\P i=a)\/B.xc a))/\H a≠none:=λa h=>by
 have b:=B.nz a h;refine⟨λz=>z.elim (λ⟨i,c,e⟩=>b (e▸(R.act i c).1)) (λz=>b (R.exc a z).choose_spec.2.2),λz=>?_⟩;cases q:B.H0 a with
 |none=>exact b q
 |some o=>rw[R.same a o q]at z;cases z
def VD(R:Rel W B S P H σ ρ)(h:(B.loop S P H R.hz).H0 a=none):B.H0 a=none:=by
 cases q:B.H0 a with
 |none=>rfl
 |some o=>have n:¬((∃i,S[i]?=some 2/\P i=a)\/B.xc a):=λz=>z.elim (λ⟨i,b,e⟩=>by rw[<- e,(R.act i b).1]at q;cases q) (λz=>by rw[(R.exc a z).choose_spec.2.2]at q;cases q);unfold Bs.loop at h;dsimp only at h;rw[if_neg n,R.same a o q]at h;cases h
def af(R:Rel W B S P H σ ρ):zA B.H0 (B.loop S P H R.hz).H0:=λa o h=>by have n:¬((∃i,S[i]?=some 2/\P i=a)\/B.xc a):=λz=>z.elim (λ⟨i,b,e⟩=>by rw[<- e,(R.act i b).1]at h;cases h) (λz=>by rw[(R.exc a z).choose_spec.2.2]at h;cases h);unfold Bs.loop;dsimp only;rw[if_neg n];exact R.same a o h
def eF(R:Rel W B S P H σ ρ)(h:(B.loop S P H R.hz).Mt a):B.Mt a:=h.elim id λz=>.inr (VD R z)
def Rel.loop(R:Rel W B S P H σ ρ):Rel W (B.loop S P H R.hz) S P H σ ρ:=by
 have sM:∀a,Mof B S P a->H a≠none->Mof (B.loop S P H R.hz) S P a:=λa m _=>⟨⟨.inl m.1.1,m.1.2⟩,m.2⟩;refine⟨λa o h=>?_,R.len,λi x e=>?_,λi c=>⟨?_,(R.act i c).2⟩,R.inj,R.pin,λa h=>?_,R.axc⟩
 .unfold Bs.loop at h;dsimp only at h;split at h
  .cases h
  .exact h
 .obtain⟨v,f,b,j,g⟩:=R.var i x e;exact⟨v,f,λz=>⟨(b z).1,(b z).2.gen rfl Fr.refl sM⟩,λz=>(j z).sub (λ_ m _=>m) sM,λz d=>(g z d).sub sM⟩
 .unfold Bs.loop;dsimp only;rw[if_pos (.inl ⟨i,c,rfl⟩)]
 .obtain⟨o,e,n,_⟩:=R.exc a h;exact⟨o,e,n,by unfold Bs.loop;dsimp only;rw[if_pos (.inr h)]⟩
def Rel.Ep(R:Rel W B S P H σ ρ)(b:Rel W (B.loop S P H R.hz) S' P' H' σ' ρ'):Rel W B S' P' H' σ' ρ':=by have sM:∀a,Mof (B.loop S P H R.hz) S' P' a->H' a≠none->Mof B S' P' a:=λa m _=>⟨⟨eF R m.1.1,m.1.2⟩,m.2⟩;refine⟨(af R).trans b.same,b.len,λi x e=>?_,λi d=>⟨VD R (b.act i d).1,(b.act i d).2⟩,b.inj,b.pin,λa h=>let⟨o,e,n⟩:=b.exc a h;⟨o,e,n.1,VD R n.2⟩,b.axc⟩;obtain⟨v,g,c,l,j⟩:=b.var i x e;exact⟨v,g,λz=>⟨(c z).1,(c z).2.gen rfl Fr.refl sM⟩,λz=>(l z).sub (λ_ m _=>m) sM,λz f=>(j z f).sub sM⟩
def Gj(R:Rel W B S P H σ ρ)(s:zA (B.loop S P H R.hz).H0 H'):Fr (NA B S P) H H':=λa o h m=>by
 have n:¬((∃i,S[i]?=some 2/\P i=a)\/B.xc a):=λz=>by
  rcases z with⟨i,d,e⟩|z
  .rcases m with m|m
   .exact m.2 i d e
   .obtain⟨_,f,b,c⟩:=R.act i d;rw[e,h]at b;cases b;exact c m
  .rcases m with m|m
   .exact m.1 z
   .obtain⟨f,b,c,_⟩:=R.exc a z;rw[h]at b;cases b;exact c m
 refine s a o ?_;unfold Bs.loop;dsimp only;rw[if_neg n];exact h
def Cu(hW:C.W=W)(R:Rel W B S P H σ ρ)(q:XPo C B c fs):XPo C (B.loop S P H R.hz) c fs:=λe d i f s b g h=>q e d i f ((af R).trans s) b g (h.sub λa m _=>eF R m)
def Gk(hW:C.W=W)(R:Rel W B S P H σ ρ)(h:Gd C (B.loop S P H R.hz) H' x v):Gd C B H' x v:=by
 unfold Gd at h ⊢;by_cases f:C.fr=true
 .rw[if_pos f]at h ⊢;obtain⟨p,e,hp,r⟩:=h;exact⟨p,e,VD R hp,r.gen rfl Fr.refl λa m _=>⟨eF R m.1,m.2⟩⟩
 .rw[if_neg f]at h ⊢;exact h.sub λa m _=>eF R m
end
section
variable {X:Cx}{C:LC}{S S1 Sb Sc:So}{pos:Pos}
def Cv(hi:∀R:It->Hp->Prop,u7 C B S P false H R (mi ρ)->wi σ H R)(hg:LG C S S1 g mg)(T:LS C S1 S S S tb mb)(R:Rel C.W B S P H σ ρ)(D:Ends)(q:ZC C B S Sb Sc D (JT mi mg mb ρ)):NH wi g tb D σ H:=by
 refine hi _ ?_;unfold JT at q;revert q;cases mi ρ with
 |exc c fs=>exact id
 |wall=>exact id
 |ok o=>
  intro q J O s2 Z;have R2:=R.keep s2;have q:ZC C B S Sb Sc D (vO mg mb o ρ):=q;refine⟨λi n r N=>n=o.length-i/\i<=o.length/\∃l u,Rel C.W (B.loop S P O R2.hz) S u N r l/\ZC C B S Sb Sc D (vO mg mb (o.drop i) l),⟨_,rfl,a0y _,ρ,P,R2.loop,q⟩,?_⟩
  rintro i n r N ⟨rfl,hle,l,u,M,d⟩
  have K:=Z N (Gj R2 M.same);by_cases s:i<o.length
  .have hx:o[i]?=some o[i]:=T4 s;obtain⟨go,yl⟩:=K.1 i _ hx;refine .inr ⟨go,λF E=>i+1<=o.length/\∃l u,Rel C.W (B.loop S P O R2.hz) S u E F l/\ZC C B S Sb Sc D (vO mg mb (o.drop (i+1)) l),λF E h=>⟨o.length-(i+1),by omega,rfl,h.1,h.2⟩,λv A hy=>?_⟩;obtain⟨W,ry⟩:=yl v A hy;have Ry:=M.keep W;have Y:=ry (Mof (B.loop S P O R2.hz) S u) λa m hn=>⟨⟨.inl m.1.1,m.1.2⟩,λj hj e=>by
    have z:=(M.act j hj).1;rw[e]at z;unfold Bs.loop at z;dsimp only at z;rw[if_neg (λz=>z.elim (λ⟨k,U,ek⟩=>m.2 k U ek) m.1.2)]at z;exact hn z⟩
   rw[a0Q s]at d;have d:ZC C B S Sb Sc D ((kW (mg o[i] l)).bind λp=>(mb p).bind λf=>match f with
    |.nx b=>vO mg mb (o.drop (i+1)) b
    |.ct b=>vO mg mb (o.drop (i+1)) b
    |.bk b=>.ok (.nx b)
    |.rt v=>.ok (.rt v)):=d
   cases w:mg o[i] l with
   |none=>rw[w]at d;exact d.elim
   |some p=>
    rw[w]at d;refine hg _ u A r l _ v Ry Y _ ⟨p,w,λQ R1=>T _ u A Q p R1 _ ?_⟩;have d:ZC C B S Sb Sc D ((mb p).bind λf=>match f with
     |.nx b=>vO mg mb (o.drop (i+1)) b
     |.ct b=>vO mg mb (o.drop (i+1)) b
     |.bk b=>.ok (.nx b)
     |.rt v=>.ok (.rt v)):=d
    revert d;cases mb p with
    |exc c fs=>exact λd=>Cu rfl R2 d
    |wall=>exact id
    |ok f=>
     cases f with
     |nx b=>exact λd I L y G=>⟨s,b,I,G,d⟩
     |ct b=>exact λd I L y G=>⟨s,b,I,G,d⟩
     |bk b=>exact λd I L y G=>d I L y (R2.Ep G)
     |rt x=>exact λd v L s3 h3=>d v L ((af R2).trans s3) (Gk rfl R2 h3)
  .have e:i=o.length:=by omega
   subst e;rw[a2I]at d;exact .inl ⟨K.2,d u N r (R2.Ep M)⟩
def LJ(e:LI C S false wi mi)(b:LG C S S1 g mg)(a:LS C S1 S S S tb mb):LS C S S Sb Sc (NH wi g tb) (JT mi mg mb):=λB P H d c R D q=>Cv (e B P H d c R) b a R D q
def jo(hp:PassesOwn (TQ X) X.A X.env X.xe)(n:X.calm=true)(m:IM X C S false tg jZ mi)(h:GM X C S S1 tg mg)(b:SsM X C S1 S S S body mb)(e:∀x,foldedSetIterable jZ X.env x=pure x:=by intro _;rfl):
  SM X C S S Sb Sc (.For tg jZ body [] pos) (JT mi mg mb):=λa=>by
 obtain⟨o,j,l⟩:=m a;obtain⟨g,c,f⟩:=h a;obtain⟨p,i,d⟩:=b a;exact⟨_,tZ hp n j c i e,LJ l f d⟩
def j5(c:MT)(b:MS):Nat->Sto->Out Fw
 |0,_=>.wall
 |n+1,d=>(c d).bind λt=>if t=true then(b d).bind λf=>match f with
   |.nx a=>j5 c b n a
   |.ct a=>j5 c b n a
   |.bk a=>.ok (.nx a)
   |.rt v=>.ok (.rt v)
  else .ok (.nx d)
open Classical in
def c_(c:MT)(b:MS):MS:=λa=>if h:∃n,j5 c b n a≠.wall then j5 c b (choose h) a else .wall
def Cw(z:LT C S tc c)(y:LS C S S S S tb b):LS C S S Sb Sc (D3 tc tb) (c_ c b):=λB P H F A R D q=>by
 unfold c_ at q;split at q
 .rename_i h;generalize Classical.choose h=n0 at q;refine⟨λn g r=>∃a i,Rel C.W B S i r g a/\ZC C B S Sb Sc D (j5 c b n a),⟨n0,A,P,R,q⟩,?_⟩
  rintro n g r ⟨a,i,p,e⟩
  cases n with
  |zero=>exact e.elim
  |succ n=>
   refine z B i r g a p _ ?_;unfold j5 at e;revert e;cases c a with
   |exc c fs=>exact id
   |wall=>exact id
   |ok k=>
    intro e u s;cases k with
    |false=>exact FN (e i u g (p.keep s))
    |true=>
     refine FO ⟨λj w=>∃a i,Rel C.W B S i w j a/\ZC C B S Sb Sc D (j5 c b n a),λj w h=>⟨n,a08 n,h⟩,y B i u g a (p.keep s) _ ?_⟩;have e:ZC C B S Sb Sc D ((b a).bind λf=>match f with
      |.nx d=>j5 c b n d
      |.ct d=>j5 c b n d
      |.bk d=>.ok (.nx d)
      |.rt v=>.ok (.rt v)):=e
     revert e;cases b a with
     |exc c fs=>exact id
     |wall=>exact id
     |ok f=>
      cases f with
      |nx d=>exact λe o E m l=>⟨d,o,l,e⟩
      |ct d=>exact λe o E m l=>⟨d,o,l,e⟩
      |bk d=>exact λe=>e
      |rt x=>exact λe=>e
 .exact q.elim
def Cy(hp:PassesOwn (TQ X) X.A X.env X.xe)(h:TM X C S c mc)(b:SsM X C S S S S body mb):SM X C S S Sb Sc (.While c body [] pos) (c_ mc mb):=λa=>by obtain⟨i,f,g⟩:=h a;obtain⟨j,e,d⟩:=b a;exact⟨_,BF hp f e,Cw g d⟩
end
def LEn(C:LC)(S:So)(te:TE)(m:ME):Prop:=∀B P H b a,Rel C.W B S P H b a->∀Q,ya C B H (λc=>qe C.W (NA B S P) (Mof B S P) c) Q (m a)->te b H Q
def EN(X:Cx)(C:LC)(S:So)(e:Sy)(m:ME):Prop:=X.K=C.W.K->∃a,PE X e a/\LEn C S a m
section
variable {X:Cx}{C:LC}{S:So}{e a b o tg:Sy}{w:Bool}{ws:Su}{m:ME}{ms:MA}{s1:MS}{pos p:Pos}{x:Str}{i:Nat}
def Mof.na{B:Bs}{P:SA}{a:Addr}(m:Mof B S P a):NA B S P a:=⟨m.1.2,m.2⟩
def EM.en(h:EM X C S false e m):EN X C S e m:=λn=>by obtain⟨l,f,g⟩:=h n;exact⟨l,f,λB P H d c R Q q=>g B P H d c R Q (VB q λx v r s j=>qe.sub j (λa m _=>Mof.na m) λ_ m _=>m)⟩
def Yn(h:PE X e (rA i))(f:S[i]?=some 1:=by rfl):EN X C S e (zc i):=λ_=>⟨_,h,λB P H s u R Q q=>lv R q λx v r e=>by
 obtain⟨y,c,_,l,_⟩:=R.var i x e;rw[r]at c;cases c;refine qe.sub (l f) (λa n _=>?_) λ_ m _=>m;have d:=B.nz a n;exact⟨λz=>d (R.exc a z).choose_spec.2.2,λj g e=>d (e▸(R.act j g).1)⟩⟩
def P6(K:SV)(g:TE):TI:=λf H R=>g f H λx c=>(∃a,x=.ref a/\(∃d,SqL K c a d)/\R (Itl K a) c)\/∃a,x=.ref a/\(∃d,SqT K c a d)/\R (Itt K a) c
def u9(B:PE X l tl):PI X tg l (P6 X.K tl):=by
 intro d s u H R I h;refine thn (B d s u H _ I h) λv s1 ⟨x,n,c,r,z⟩=>?_;rcases z with⟨a,e,⟨A,j⟩,q⟩|⟨a,e,⟨A,j⟩,q⟩
 .subst e;cases r;obtain⟨f,y,p,hz⟩:=c.list j;refine wpAny_pyIter_list p.isList ?_;refine⟨s1.heap.objs.size,[s1.heap.objs.size],_,_,n,rfl,c.kept (t':=s1.toks) λb o e=>S5 _ e,tW a _,⟨_,a0i _ rfl,rfl,rfl⟩,λb g=>?_,q⟩;have e:b=s1.heap.objs.size:=by simpa using g
  subst e;exact c.HF (S7 _) (c.hok.fresh (S7 _))
 .subst e;cases r;obtain⟨f,y,p,hz⟩:=c.tuple j;refine wpAny_pyIter_tuple (show s1.heap.IsTuple a f.toArray from p) ?_;refine⟨s1.heap.objs.size,[s1.heap.objs.size],_,_,n,rfl,c.kept (t':=s1.toks) λb o e=>S5 _ e,rC a _,⟨_,a0i _ rfl,rfl,rfl⟩,λb g=>?_,q⟩;have e:b=s1.heap.objs.size:=by simpa using g
  subst e;exact c.HF (S7 _) (c.hok.fresh (S7 _))
def u_{W:RC}{K:SV}{M N:Sr}{g:Hp}{a:Addr}{xs:SH}{vs:Sx}(d:∀a,M a->N a)(h:∀c,Fr N g c->SqL K c a vs)(r:yq W M g xs vs):Gi W M N g (Itl K a) xs:=λc f=>by refine⟨λi x s=>?_,vs,h c f,by rw[r.len];exact S7 _⟩;obtain⟨v,j,u⟩:=r.get s;refine⟨⟨vs,v,h c f,j⟩,λz q l=>?_⟩;obtain⟨rfl,y⟩:=l;have:=y vs (h _ f);rw[j]at this;cases this;exact⟨zA.refl _,λA sM=>Rep.gen (λa o h m=>f a o h (m.imp (d a) id)) (λa m n=>sM a m n) u⟩
def LK{W:RC}{K:SV}{M N:Sr}{g:Hp}{a:Addr}{xs:SH}{vs:Sx}(d:∀a,M a->N a)(h:∀c,Fr N g c->SqT K c a vs)(r:yq W M g xs vs):Gi W M N g (Itt K a) xs:=λc f=>by refine⟨λi x s=>?_,vs,h c f,by rw[r.len];exact S7 _⟩;obtain⟨v,j,u⟩:=r.get s;refine⟨⟨vs,v,h c f,j⟩,λz q l=>?_⟩;obtain⟨rfl,y⟩:=l;have:=y vs (h _ f);rw[j]at this;cases this;exact⟨zA.refl _,λA sM=>Rep.gen (λa o h m=>f a o h (m.imp (d a) id)) (λa m n=>sM a m n) u⟩
def items:PV->Out (List PV)
 |.l c=>.ok c
 |.t c=>.ok c
 |.sc d=>.ok (d.map PV.i)
 |_=>.wall
def yr(m:ME):MI:=λc=>(m c).bind items
variable {cc:Bool}
def Mof.nac{B:Bs}{P:SA}{a:Addr}(m:Mof B S P a):NAc cc B S P a:=by
 unfold NAc;cases cc with
 |true=>rw[if_pos rfl];trivial
 |false=>rw[if_neg T7];exact Mof.na m
def xa(A:X.K=C.W.K)(D:∀B P H h d,Rel C.W B S P H h d->∀Q,ya C B H (λg=>qe C.W (NAc cc B S P) (Mof B S P) g) Q (m d)->te h H Q):LI C S cc (P6 X.K te) (yr m):=λB P H h d R Q q=>by
 refine D B P H h d R _ ?_;unfold yr at q;revert q;cases m d with
 |exc c fs=>exact id
 |wall=>exact id
 |ok y=>
  intro q v g s r;cases y with
  |l F=>obtain⟨p,j,rfl,n,hp,u⟩:=r;exact .inl ⟨p,rfl,⟨j,SqL.of hp⟩,q _ g s (u_ (λa m=>Mof.nac m) (λz f=>SqL.of (f _ _ hp (.inl n))) u)⟩
  |t F=>obtain⟨p,j,rfl,hp,u⟩:=r;rw[<- A]at hp;exact .inr ⟨p,rfl,⟨j,hp⟩,q _ g s (LK (λa m=>Mof.nac m) (λz f=>f.sqT hp) u)⟩
  |sc E=>obtain⟨p,rfl,hp⟩:=r;rw[<- A]at hp;exact .inl ⟨p,rfl,⟨_,hp.sq⟩,q _ g s (u_ (vs:=E.map V.int) (λa m=>Mof.nac m) (λz f=>(hp.frame f).sq) yq.ints)⟩
  |_=>exact q.elim
def vy(h:EN X C S e m):IM X C S false tg e (yr m):=λc=>by obtain⟨g,d,f⟩:=h c;exact⟨_,u9 d,xa c f⟩
def WI(h:EM X C S w e m):IM X C S true tg e (yr m):=λc=>by obtain⟨n,g,j⟩:=h c;exact⟨_,u9 g,xa c λB P H f d R Q q=>j B P H f d R Q (VB q λx v l s r=>r.weak)⟩
def tM(c:Int)(n:Nat):List PV:=(List.range n).map λk=>.i (c+(k:Nat))
def Gm{c:Int}{n i:Nat}{x:PV}(h:(tM c n)[i]?=some x):i<n/\x=.i (c+i):=by unfold tM at h;rw[a0k]at h;obtain⟨k,d,rfl⟩:=u8.mp h;rw[T9]at d;obtain⟨f,g⟩:=d;rw[a0D]at f;rw[a1Q]at g;subst g;exact⟨f,rfl⟩
def Gn{c:Int}{n:Nat}:(tM c n).length=n:=by unfold tM;rw[v4,a0D]
def LL{W:RC}{M N:Sr}{h:Hp}{c:Int}{n:Nat}:Gi W M N h (Itr c n) (tM c n):=λq f=>by refine⟨λi x j=>?_,by rw[Gn];exact S7 _⟩;obtain⟨l,rfl⟩:=Gm j;refine⟨l,λv g d=>?_⟩;obtain⟨rfl,rfl⟩:=d;exact⟨zA.refl _,λ_ _=>rfl⟩
def xb:List PV->Out (List PV)
 |[.i n]=>if -(2 ^ 62)<=n/\n<2 ^ 62 then .ok (tM 0 n.toNat)else .wall
 |_=>.wall
def YA(ms:MA):MI:=λc=>(ms c).bind xb
def Vc(u:Gl X "range")(n:X.mg "range"=none)(D:AM X C S ws [a] ms)(g:starEach [a] X.env=[(false,eval a X.env)]:=by rfl):IM X C S cc tg (.Call (.Name "range" p) [a] [] pos) (YA ms):=λF=>by
 obtain⟨G,E,j⟩:=D F;refine⟨_,tX u n E g,λB P H h d R Q q=>j B P H h d R _ ?_⟩;unfold YA at q;revert q;cases ms d with
 |exc c fs=>exact id
 |wall=>exact id
 |ok z=>
  intro q I y s r;have r:=r.weak;have q:u7 C B S P cc H Q (xb z):=q;unfold xb at q;split at q
  .split at q
   .rename_i f;obtain⟨v,J,rfl,l,A⟩:=r;cases(show _=_ from A);cases(show _=_ from l);exact⟨_,rfl,f.1,f.2,q _ y s LL⟩
   .exact q.elim
  .exact q.elim
end
def noX{a:Type}:Out a->Out a
 |.exc _ _=>.wall
 |o=>o
def lcP(g:MG)(c:MT)(e:ME):List PV->Sto->List PV->Out PV
 |[],_,a=>.ok (.l a)
 |x::d,f,a=>(kW (g x f)).bind λb=>(noX (c b)).bind λt=>if t=true then(noX (e b)).bind λy=>if a.length<sizeLine then lcP g c e d b (a++[y])else .wall else lcP g c e d b a
def mG(ρ:Sto)(fr:SJ):Sto:=fr.map λo=>match o with|none=>none|some j=>(ρ[j]?).join
def mLC(mi:MI)(fr:SJ)(g:MG)(c:MT)(e:ME):ME:=λa=>(mi a).bind λb=>lcP g c e b (mG a fr) []
def Cz:MT:=λ_=>.ok true
def inS(S:So)(fr:SJ):List Nat:=fr.map λo=>match o with|none=>0|some j=>if S[j]?=some 2\/S[j]?=some 1 then 1 else 0
def lcB(B:Bs)(S:So)(P:SA)(H:Hp)(acc:Addr):Bs:=⟨H,Mof B S P,λa=>H a≠none,λ_ h=>h,none,λa=>a=acc⟩
def xf{S:So}{fr:SJ}{k c:Nat}(h:(inS S fr)[k]?=some c):c≠2:=by
 unfold inS at h;rw[a0k]at h;obtain⟨o,a,e⟩:=u8.mp h;intro z;rw[z]at e;cases o with
 |none=>cases e
 |some j=>dsimp only at e;split at e<;>cases e
section
variable {X:Cx}{C:LC}{S S1 Sb Sc:So}{e a o jZ tg elt:Sy}{ifs:Sw}{w:Bool}{m me:ME}{t1 mc:MT}{mg:MG}{mi:MI}{s1:MS}{pos:Pos}{x:Str}{i:Nat}{scope:Scope}
def Rel.comp{W:RC}{B:Bs}{P:SA}{H H':Hp}{σ:St}{ρ:Sto}{acc:Addr}{fr:SJ}{ys:Sx}(R:Rel W B S P H σ ρ)(A:H acc=none)(s:zA H H')(E:H' acc=some (.lst ys)):Rel W (lcB B S P H acc) (inS S fr) (λ_=>0) H' (Bu σ fr) (mG ρ fr):=by
 have f:∀{k:Nat},(inS S fr)[k]?=some 2->False:=λ{k} h=>xf h rfl;have sM:∀a,Mof B S P a->H a≠none->Mof (lcB B S P H acc) (inS S fr) (λ_=>0) a:=λa m n=>⟨⟨.inl m,λz=>n ((show a=acc from z)▸A)⟩,λi d=>(f d).elim⟩;refine⟨s,by unfold Bu mG;rw[v4,v4],λk x e=>?_,λi d=>(f d).elim,λi j d=>(f d).elim,λd=>(f d).elim,λa h=>?_,λi d=>(f d).elim⟩
 .unfold mG at e;rw[a0k]at e;obtain⟨o,u,e⟩:=u8.mp e;cases o with
  |none=>cases e
  |some j=>
   have e:(ρ[j]?).join=some x:=e;have D:ρ[j]?=some (some x):=by
    cases q:ρ[j]? with
    |none=>rw[q]at e;cases e
    |some z=>rw[q]at e;cases z with
     |none=>cases e
     |some z=>cases e;rfl
   obtain⟨v,K,I,J,L⟩:=R.var j x D;have r:(inS S fr)[k]?=some (if S[j]?=some 2\/S[j]?=some 1 then 1 else 0):=by unfold inS;rw[a0k,u];rfl
   refine⟨v,by unfold Bu;rw[a0k,u];show some ((σ[j]?).join)=_;rw[K];rfl,λz=>(f z).elim,λz=>?_,λz l=>?_⟩
   .rw[r]at z;by_cases g:S[j]?=some 2
    .obtain⟨rfl,F⟩:=I g;obtain⟨_,o,G,_⟩:=R.act j g;exact((F.Lg (N:=λa=>H a≠none) (by rw[G];intro z;cases z)).sub (λ_ m _=>m) sM).same s
    .by_cases y:S[j]?=some 1
     .exact((J y).sub (λa n q=>(R.hz a n).2) sM).same s
     .rw[if_neg (by rintro(q|q);exact g q;exact y q)]at z;cases z
   .rw[r]at l;by_cases c:S[j]?=some 2\/S[j]?=some 1
    .rw[if_pos c]at l;exact absurd rfl l
    .exact((L (λq=>c (.inl q)) (λq=>c (.inr q))).sub sM).same s
 .cases(show a=acc from h);exact⟨_,E,id,A⟩
def TsM(X:Cx)(C:LC)(S:So)(ifs:Sw)(m:MT):Prop:=X.K=C.W.K->∃c,PTs X ifs c/\LT C S c m
def de:TsM X C S [] Cz:=λ_=>⟨_,FW,λB P H d c R Q q=>q H (zA.refl _)⟩
def LM(h:TM X C S c t1):TsM X C S [c] t1:=λd=>let⟨tt,a1,a2⟩:=h d;⟨tt,FX a1,a2⟩
def xg{l:Type}{Y:l->Cx}(h:∀z,EM (Y z) C S w e m)(f:∀z,(Y z).K=C.W.K):∃g,(∀z,PE (Y z) e g)/\LE C S w g m:=
 ⟨λc H Q=>∀z,(Classical.choose (h z (f z))) c H Q,λz d s c H Q I q=>(a0z (h z (f z))).1 d s c H Q I (q z),λB P H c j R Q q z=>(a0z (h z (f z))).2 B P H c j R Q q⟩
def xh{l:Type}{Y:l->Cx}(h:∀z,TsM (Y z) C S ifs mc)(f:∀z,(Y z).K=C.W.K):∃g,(∀z,PTs (Y z) ifs g)/\LT C S g mc:=
 ⟨λc H Q=>∀z,(Classical.choose (h z (f z))) c H Q,λz d s c H Q I q=>(a0z (h z (f z))).1 d s c H Q I (q z),λB P H c j R Q q z=>(a0z (h z (f z))).2 B P H c j R Q q⟩
def xi{l:Type}{Y:l->Cx}(h:∀z,GM (Y z) C S S1 tg mg)(f:∀z,(Y z).K=C.W.K):∃g,(∀z,PG (Y z) tg g)/\LG C S S1 g mg:=
 ⟨λv c H Q=>∀z,(Classical.choose (h z (f z))) v c H Q,λz d s c H v u Q I r q=>(a0z (h z (f z))).1 d s c H v u Q I r (q z),λB P H c j x v R r Q q z=>(a0z (h z (f z))).2 B P H c j x v R r Q q⟩
def Gp{wi:TI}{g:TG}{tc:TT}{te:TE}{fr:SJ}{U:So}{W:RC}{B:Bs}{P:SA}{H:Hp}{σ:St}{ρ:Sto}(hi:∀R:It->Hp->Prop,u7 C B S P true H R (mi ρ)->wi σ H R)(hW:W=C.W)(hS:U=inS S fr)(hg:LG ⟨W,E0,false⟩ U U g mg)(ht:LT ⟨W,E0,false⟩ U tc mc)(he:LE ⟨W,E0,false⟩ U false te me)(R:Rel C.W B S P H σ ρ)(Q:VK)(q:ya C B H (RFr C.W (Mof B S P) H) Q (mLC mi fr mg mc me ρ)):tLC wi g tc te fr σ H Q:=by
 subst hW hS;refine hi _ ?_;unfold mLC at q;revert q;cases mi ρ with
 |exc c fs=>exact id
 |wall=>exact id
 |ok s=>
  intro q J I s1 io d ha;have R1:=R.keep s1;have q:ya C B H (RFr C.W (Mof B S P) H) Q (lcP mg mc me s (mG ρ fr) []):=q;have sM:∀a,Mof (lcB B S P I d) (inS S fr) (λ_=>0) a->Mof B S P a/\a≠d:=λa m=>⟨m.1.1.elim id λn=>R1.new a n,m.1.2⟩;refine⟨λi n N O=>n=s.length-i/\i<=s.length/\∃r A D,Rel C.W (lcB B S P I d) (inS S fr) (λ_=>0) O N r/\O d=some (.lst D)/\yq C.W (Mof (lcB B S P I d) (inS S fr) (λ_=>0)) O A D/\ya C B H (RFr C.W (Mof B S P) H) Q (lcP mg mc me (s.drop i) r A),
   ⟨_,rfl,a0y _,mG ρ fr,[],[],R1.comp ha (zA.upd ha) zg,zg,rfl,q⟩,?_⟩
  rintro i n N O ⟨rfl,hle,r,A,D,R',K,T,l⟩
  have Z:=io O (zA.fr R'.same);by_cases G:i<s.length
  .have hx:s[i]?=some s[i]:=T4 G;obtain⟨go,yl⟩:=Z.1 i _ hx;refine .inr ⟨go,λY F=>i+1<=s.length/\∃r A D,Rel C.W (lcB B S P I d) (inS S fr) (λ_=>0) F Y r/\F d=some (.lst D)/\yq C.W (Mof (lcB B S P I d) (inS S fr) (λ_=>0)) F A D/\ya C B H (RFr C.W (Mof B S P) H) Q (lcP mg mc me (s.drop (i+1)) r A),λY F h=>⟨s.length-(i+1),by omega,rfl,h.1,h.2⟩,λv M hy=>?_⟩;obtain⟨sy,ry⟩:=yl v M hy;have Ry:=R'.keep sy;have rx:=ry (Mof (lcB B S P I d) (inS S fr) (λ_=>0)) λa m hn=>⟨⟨.inl m,λz=>hn ((show a=d from z)▸ha)⟩,λj hj=>(xf hj rfl).elim⟩;rw[a0Q G]at l;unfold lcP at l;cases L:mg s[i] r with
   |none=>rw[L]at l;exact l.elim
   |some f=>
    rw[L]at l;refine hg _ _ M N r _ v Ry rx _ ⟨f,L,λσ1 R1'=>ht _ _ M σ1 f R1' _ ?_⟩;have l:ya C B H (RFr C.W (Mof B S P) H) Q ((noX (mc f)).bind λt=>if t=true then(noX (me f)).bind λy=>if A.length<sizeLine then lcP mg mc me (s.drop (i+1)) f (A++[y])else .wall else lcP mg mc me (s.drop (i+1)) f A):=l;revert l;cases mc f with
    |exc c fs=>exact λl=>l.elim
    |wall=>exact id
    |ok t=>
     intro l H5 s5;have R5:=R1'.keep s5;have u:=s5 _ _ (sy _ _ K);have E:=(T.same sy).same s5;cases t with
     |false=>exact FN ⟨G,f,A,D,R5,u,E,l⟩
     |true=>
      refine FO (he _ _ H5 σ1 f R5 _ ?_);have l:ya C B H (RFr C.W (Mof B S P) H) Q ((noX (me f)).bind λy=>if A.length<sizeLine then lcP mg mc me (s.drop (i+1)) f (A++[y])else .wall):=l;revert l;cases me f with
      |exc c fs=>exact λl=>l.elim
      |wall=>exact id
      |ok y=>
       intro l v6 H6 s6 r6;have l:ya C B H (RFr C.W (Mof B S P) H) Q (if A.length<sizeLine then lcP mg mc me (s.drop (i+1)) f (A++[y])else .wall):=l;split at l
       .rename_i hz;have R6:=R5.keep s6;have fr6:Fr (Mof (lcB B S P I d) (inS S fr) (λ_=>0)) H6 (upd H6 d (.lst (D++[v6]))):=λa o h m=>by
         have:a≠d:=λz=>by
          rcases m with m|m
          .exact m.1.2 z
          .rw[z,s6 _ _ u]at h;cases h;exact m
         rw[zi this];exact h
        exact⟨D,s6 _ _ u,by rw[E.len];exact hz,G,f,A++[y],D++[v6],R6.wrx (show(lcB B S P I d).xc d from rfl) (by exact id),zg,((E.same s6).append (.cons r6.rep .nil)).gen fr6 λ_ m _=>m,l⟩
       .exact l.elim
  .have e:i=s.length:=by omega
   subst e;rw[a2I]at l;exact .inl ⟨Z.2,l _ O (s1.trans R'.same) ⟨d,rfl,zA.none s1 ha,D,K,T.sub λa m _=>sM a m⟩⟩
def LN{d:TI}{g:TG}{f:TT}{te:TE}{fr:SJ}{c:So}{W:RC}(s:LI C S true d mi)(hW:W=C.W)(l:c=inS S fr)(j:LG ⟨W,E0,false⟩ c c g mg)(h:LT ⟨W,E0,false⟩ c f mc)(he:LE ⟨W,E0,false⟩ c false te me):LFr C S (tLC d g f te fr) (mLC mi fr mg mc me):=λB P H r n R Q q=>Gp (s B P H r n R) hW l j h he R Q q
abbrev CI:=List Addr×List (Addr×Obj)×Shared×Hp×Addr
abbrev cxI(X:Cx)(scope:Scope)(N:Sn)(z:CI):Cx:=jm X scope N z.1 z.2.1 z.2.2.1 z.2.2.2.1 z.2.2.2.2
def rY(N:Sn)(fr:SJ)(c:So)(v:X.calm=true)(j:B_ X scope N fr=true)(u:IM X C S true tg jZ mi)(E:∀z:CI,GM (cxI X scope N z) ⟨C.W,E0,false⟩ c c tg mg)(G:∀z:CI,TsM (cxI X scope N z) ⟨C.W,E0,false⟩ c ifs mc)(he:∀z:CI,EM (cxI X scope N z) ⟨C.W,E0,false⟩ c false elt me)(q:c=inS S fr:=by rfl)
  (n:∀x,foldedSetIterable jZ X.env x=pure x:=by intro _;rfl):FM X C S (.ListComp elt [⟨tg,jZ,ifs,0⟩] scope pos) (mLC mi fr mg mc me):=λh=>by
 obtain⟨J,I,A⟩:=u h;obtain⟨g,B,l⟩:=xi E λ_=>h;obtain⟨K,F,D⟩:=xh G λ_=>h;obtain⟨M,r,y⟩:=xg he λ_=>h;exact⟨_,OI N fr v j I (λd f s H L=>B ⟨d,f,s,H,L⟩) (λd f s H L=>F ⟨d,f,s,H,L⟩) (λd f s H L=>r ⟨d,f,s,H,L⟩) n,LN A rfl q l D y⟩
variable {y:Str}{tO py:Pos}
def OQ(N:Sn)(fr:SJ)(c:So)(T:X.N.Nodup)(Y:X.N[i]?=some y)(hl:X.env.scope.names.lookup y=some .local)(F:X.calm=true)(l:B_ X scope N fr=true)(E:IM X C S true tg jZ mi)(O:∀z:CI,GM (cxI X scope N z) ⟨C.W,E0,false⟩ c c tg mg)(Z:∀z:CI,TsM (cxI X scope N z) ⟨C.W,E0,false⟩ c ifs mc)(he:∀z:CI,EM (cxI X scope N z) ⟨C.W,E0,false⟩ c false elt me)(u:c=inS S fr:=by rfl)
  (j:swapsWith (.ListComp elt [⟨tg,jZ,ifs,0⟩] scope pos) (some (.Name y py)) tO.line X.env=pure true:=by rfl) (r:∀x,foldedSetIterable jZ X.env x=pure x:=by intro _;rfl):SM X C S (S.set i 0) Sb Sc (.Assign [.Name y py] (.ListComp elt [⟨tg,jZ,ifs,0⟩] scope pos) tO) (yX i (mLC mi fr mg mc me)):=λh=>by
 obtain⟨wi,a1,J⟩:=E h;obtain⟨g,K,n⟩:=xi O λ_=>h;obtain⟨tc,U,M⟩:=xh Z λ_=>h;obtain⟨te,A,G⟩:=xg he λ_=>h;refine⟨_,OJ N fr T Y hl F l a1 (λd f s H L=>K ⟨d,f,s,H,L⟩) (λd f s H L=>U ⟨d,f,s,H,L⟩) (λd f s H L=>A ⟨d,f,s,H,L⟩) j r,En λB P H D I R Q q=>LN J rfl u n M G B P H D I R Q (VB q λx v H2 s W=>RV.of (W.rep R.new))⟩
end
def wZ(fr:Bool)(n:Nat)(ms:MS)(xs:SH):Out PV:=match ms (xs.map some++List.replicate (n-xs.length) none)with
 |.ok (.nx _)=>if fr=true then .wall else .ok .n
 |.ok (.rt x)=>.ok x
 |.ok (.bk _)=>.wall
 |.ok (.ct _)=>.wall
 |.exc c fs=>.exc c fs
 |.wall=>.wall
def Vd(ws:Su)(n:Nat):List Nat:=ws.map (λw=>if w=true then 1 else 0)++List.replicate (n-ws.length) 0
def g6{ws:Su}{n k:Nat}:(Vd ws n)[k]?≠some 2:=by
 unfold Vd;rw[a2d];split
 .rw[a0k];intro h;obtain⟨w,_,e⟩:=u8.mp h;split at e<;>cases e
 .rw[a07];intro h;split at h<;>cases h
def jE.get{W:RC}{M:Sr}{H:Hp}:∀{c:Su}{f:SH}{g:Sx}{k:Nat}{x:PV},jE W M H c f g->f[k]?=some x->∃v w,g[k]?=some v/\c[k]?=some w/\qe W (if w=true then λ_=>True else M) M H x v
 |[],_,_,_,_,⟨a,b⟩,h=>by subst a;simp at h
 |w::c,_,_,0,x,⟨y,v,j,i,a,b,d,e⟩,h=>by subst a;subst b;simp at h;subst h;exact⟨v,w,rfl,rfl,d⟩
 |w::c,_,_,k+1,x,⟨y,v,j,i,a,b,d,e⟩,h=>by subst a;subst b;simp only[List.getElem?_cons_succ]at h ⊢;exact jE.get e h
def g7{xs:SH}{n k:Nat}{x:PV}(h:(xs.map some++List.replicate (n-xs.length) none)[k]?=some (some x)):xs[k]?=some x:=by
 rw[a2d]at h;split at h
 .rw[a0k]at h;obtain⟨y,a,e⟩:=u8.mp h;cases e;exact a
 .rw[a07]at h;split at h<;>cases h
def xj(H:Hp)(M:Sr):Bs:=⟨H,M,λa=>H a≠none,λ_ h=>h,none,λ_=>False⟩
def g8(h:jE W M H ws xs vs)(q:ws.length<=N.length):Rel W (xj H M) (Vd ws N.length) (λ_=>0) H (start N vs) (xs.map some++List.replicate (N.length-xs.length) none):=by
 have c:∀{k:Nat},(Vd ws N.length)[k]?=some 2->False:=λ{k} h=>g6 h;have sM:∀a,M a->H a≠none->Mof (xj H M) (Vd ws N.length) (λ_=>0) a:=λa m _=>⟨⟨.inl m,id⟩,λi b=>(c b).elim⟩;obtain⟨g,o⟩:=h.len;refine⟨zA.refl _,?_,λk x e=>?_,λi b=>(c b).elim,λi j b=>(c b).elim,λb=>(c b).elim,λa h=>h.elim,λi b=>(c b).elim⟩
 .unfold start;rw[S9,S9,v4,v4,a1i,a1i,g,o]
 .obtain⟨v,w,l,p,r⟩:=h.get (g7 e);have d:k<vs.length:=(T9.mp l).1;have f:(Vd ws N.length)[k]?=some (if w=true then 1 else 0):=by unfold Vd;rw[a0r (by rw[v4,<- g];exact d),a0k,p];rfl
  refine⟨v,?_,λz=>(c z).elim,λz=>?_,λ_ z=>?_⟩
  .unfold L2.start;rw[a0r (by rw[v4];exact d),a0k,l];rfl
  .rw[f]at z;refine qe.sub r (λa _ n=>n) sM
  .rw[f]at z;cases w with
   |true=>exact absurd rfl z
   |false=>exact(qe.iff.mp r).sub sM
section
variable {P:SG}{w:SI}{K:SV}{mg:Sl}{base:Heap}
def zE{x b:Str}{st:Tf}{f:Addr}{m:SK}{N i:Sn}{k n:Nat}{W:RC}{fr:Bool}{ws:Su}{ms:MS}{S' Sb Sc:So}(F:Fun K x b st f m)(S:zr N i (zj st))(hW:K=W.K)(C:ws.length=i.length)(B:N.length=n)(R:ws.length<=n)
  (h:∀(d:Value)(A:SQ)(a:List Env)(s:Ss)(H:Hp)(E:XK),jJ k (A.deeper (envOfC b (zj st) s.heap.objs.size f d))->SsM (thr (dY (CXe P w) P w K mg base N b (zj st) f d A a s H E) E) ⟨W,E,fr⟩ (Vd ws n) S' Sb Sc (Zw st) ms):
  qd P w K mg base (CXe P w) (k+1) f m i (lsp W fr ws (wZ fr n ms)):=by
 subst B;refine F.okX S (F_ C) λd A a s H Z Q E L ⟨M,l,O,q⟩=>?_;obtain⟨X,o,I⟩:=h d A a s H E L hW;refine⟨X,o,I (xj H M) _ H _ _ (g8 O R) _ ?_⟩;unfold wZ at q;revert q;cases ms (l.map some++List.replicate (N.length-l.length) none)with
 |exc c fs=>exact λq e G Y J s D T U=>q e G Y J s D T U
 |wall=>exact id
 |ok p=>
  cases p with
  |nx g=>
   intro q P' j u z;cases fr with
   |true=>exact q.elim
   |false=>exact q .non j z.same rfl
  |rt y=>exact λq v j s r=>q v j s r
  |bk g=>exact λq=>q.elim
  |ct g=>exact λq=>q.elim
def OR(c:Nat)(n:Nat)(ms:MS)(xs:SH):Out PV:=match ms (some (.o c [])::(xs.map some++List.replicate (n-xs.length) none))with
 |.ok (.nx a)=>match a[0]? with
  |some (some x)=>.ok x
  |_=>.wall
 |.ok (.rt _)=>.wall
 |.ok (.bk _)=>.wall
 |.ok (.ct _)=>.wall
 |.exc c fs=>.exc c fs
 |.wall=>.wall
def bsI(H:Hp)(M:Sr)(x:Addr):Bs:=⟨erase H x,M,λa=>erase H x a≠none,λ_ h=>h,some x,λ_=>False⟩
def JU:zA (erase H x) H:=λa o h=>by
 unfold erase at h;split at h
 .cases h
 .exact h
def rZ(h:jE W M (erase H x) ws xs vs)(g:H x=some (.ins (W.cls c) dx []))(C:N.length=n+1)(F:ws.length<=n):
  Rel W (bsI H M x) (2::Vd ws n) (λ_=>x) H (start N (.ref x::vs)) (some (.o c [])::(xs.map some++List.replicate (n-xs.length) none)):=by
 have l:erase H x x=none:=by unfold erase;rw[if_pos rfl]
 have d:∀{k:Nat},(2::Vd ws n)[k]?=some 2->k=0:=λ{k} h=>by
  cases k with
  |zero=>rfl
  |succ k=>rw[a0p]at h;exact(g6 h).elim
 have sM:∀a,M a->erase H x a≠none->Mof (bsI H M x) (2::Vd ws n) (λ_=>x) a:=λa m z=>⟨⟨.inl m,id⟩,λi b q=>z (q▸l)⟩;obtain⟨o,A⟩:=h.len;refine⟨JU,?_,λk y e=>?_,λi b=>⟨l,_,g,id⟩,λi j b D _=>(d b).trans (d D).symm,λb p hp=>(a0x hp),λa h=>h.elim,λi b=>id⟩
 .unfold L2.start;simp only[List.length_cons,List.length_append,List.length_map,List.length_replicate,o,A,C];omega
 .cases k with
  |zero=>cases e;exact⟨.ref x,rfl,λ_=>⟨rfl,dx,[],g,rfl⟩,(λz=>by cases z),λz=>absurd rfl z⟩
  |succ k=>
   rw[a0p]at e;obtain⟨v,w,s,B,r⟩:=h.get (g7 e);have f:k<vs.length:=(T9.mp s).1;have u:(2::Vd ws n)[k+1]?=some (if w=true then 1 else 0):=by rw[a0p];unfold Vd;rw[a0r (by rw[v4,<- o];exact f),a0k,B];rfl
   have E:qe W (if w=true then λ_=>True else M) M H y v:=qe.same r JU;refine⟨v,?_,(λz=>by cases(d z)),λz=>?_,λ_ z=>?_⟩
   .unfold L2.start;rw[T2,List.cons_append,a0p,a0r (by rw[v4];exact f),a0k,s];rfl
   .exact qe.same (qe.sub r (λa _ n=>n) sM) JU
   .rw[u]at z;cases w with
    |true=>exact absurd rfl z
    |false=>exact Rep.same ((qe.iff.mp r).sub sM) JU
def xk{x d:Str}{st:Tf}{f:Addr}{u:SK}{N o:Sn}{k n c:Nat}{W:RC}{ws:Su}{ms:MS}{S' Sb Sc:So}(F:Fun K x d st f u)(S:zr N o (zj st))(hW:K=W.K)(L:ws.length+1=o.length)(J:N.length=n+1)(hn:ws.length<=n)(j:S'[0]?=some 2)
  (h:∀(g:Value)(A:SQ)(b:List Env)(s:Ss)(H:Hp)(E:XK),jJ k (A.deeper (envOfC d (zj st) s.heap.objs.size f g))->SsM (thr (dY (CXe P w) P w K mg base N d (zj st) f g A b s H E) E) ⟨W,E,false⟩ (2::Vd ws n) S' Sb Sc (Zw st) ms):
  qd P w K mg base (CXe P w) (k+1) f u o (NR W c ws (OR c n ms)):=by
 refine F.okX S (Cq L) λg A b s H vs Q E U ⟨M,x,p,r,D,e,I,Z,q⟩=>?_;subst e;obtain⟨ts,B,R⟩:=h g A b s H E U hW;refine⟨ts,B,R (bsI H M x) _ H _ _ (rZ Z I J hn) _ ?_⟩;unfold OR at q;revert q;cases ms (some (.o c [])::(r.map some++List.replicate (n-r.length) none))with
 |exc c fs=>exact λq e p es T s O j h3=>q e p es T s O j h3
 |wall=>exact id
 |ok C=>
  cases C with
  |nx i=>
   intro q P' X G l;have q:P5 W M H x Q E (match i[0]? with|some (some x)=>.ok x|_=>.wall):=q;split at q
   .rename_i y Y;obtain⟨_,v,_⟩:=l.at2 j Y;have e:=l.pin j x rfl;rw[e]at v;exact q X l.same (v.gen rfl Fr.refl λa m _=>⟨m.1.1,λz=>m.2 0 j (e.trans z.symm)⟩)
   .exact q.elim
  |rt y=>exact λq=>q.elim
  |bk i=>exact λq=>q.elim
  |ct i=>exact λq=>q.elim
end
def xl(C:Addr)(fs:Sn):Sp:=λc H Q _=>∃e b,c=.ref e::b/\b.length=fs.length/\H e=some (XO e C none .none)/\∀a,H a=none->Q .non (upd (upd H a (XD a (fs.zip b))) e (XO e C (some a) .none))
def w4(c:Nat)(a:Sn)(ms:MA):MS:=λd=>(ms d).bind λb=>if b.length=a.length/\b.length<=1000 then .exc c (a.zip b)else .wall
def vx.zip{W:RC}{M:Sr}{H:Hp}:∀{a:Sn}{b:SH}{c:Sx},yq W M H b c->b.length=a.length->vx W M H (a.zip b) (a.zip c)
 |[],[],_,h,_=>by cases(show _=_ from h);rfl
 |f::a,x::b,_,h,e=>by obtain⟨v,r,rfl,d,g⟩:=h;exact⟨v,_,rfl,d,vx.zip g (by simpa using e)⟩
 |[],_::_,_,_,e=>by cases e
 |_::_,[],_,_,e=>by cases e
def jr(K:X.calm=true)(M:XMk X.K (C.W.cls c) f)(W:QI X.K (C.W.cls c))(F:qd X.prog X.w X.K X.mg X.base (CXe X.prog X.w) k f fd ps (xl (C.W.cls c) fns))(Q:jJ (k+1) X.A)(O:Gl X x)(L:X.mg x=some (.ref (C.W.cls c)))(g:Binds X.K fd ps [])
  (T:AM (thr X C.E) C S ws (e::es) ms) (I:ws.all (!·)=true:=by rfl) (n:(x==("__debug__":Str))=false:=by decide) (he:starEach (e::es) X.env=(false,eval e X.env)::starEach es X.env:=by rfl) (hpl:(backTo wW (starEach es X.env)).any (·.1)=false:=by rfl):
  SM (thr X C.E) C S S' Sb Sc (.Raise (some (.Call (.Name x p) (e::es) [] wW)) none pos) (w4 c fns ms):=λA=>by
 obtain⟨G,U,J⟩:=T A;refine⟨_,B5 K (B4 (X:=thr X C.E) M F Q O L g zI U n he hpl),λB P H o s R D q=>?_⟩;show G o H _;refine J B P H o s R _ ?_;unfold w4 at q;revert q;cases ms s with
 |exc c fs=>exact id
 |wall=>exact id
 |ok j=>
  intro q i r E N;have l:=N.NK I;have q:ZC C B S' Sb Sc D (if j.length=fns.length/\j.length<=1000 then .exc c (fns.zip j)else .wall):=q;split at q
  .rename_i hz;refine⟨by rw[l.len];exact hz.2,λy w=>⟨y,i,rfl,by rw[l.len];exact hz.1,zg,λh d=>⟨rfl,y,_,h,rfl,A▸W,zg,?_⟩⟩⟩;have v:h≠y:=λz=>by rw[z,zg]at d;cases d
   rw[zi v]at d;rw[Yu];have u:zA r (upd (upd (upd r y (XO y (C.W.cls c) none .none)) h (XD h (fns.zip i))) y (XC y (C.W.cls c) h)):=λb q g=>by rw[zi (zZ g w),zi (zZ g d),zi (zZ g w)];exact g
   exact q y h (fns.zip i) _ (R.same.trans (E.trans u)) zg (by rw[zi v,zg]) ((vx.zip l hz.1).gen u.fr λa m _=>m.1.1)
  .exact q.elim
def QU{S:So}{i:Nat}:∀j:Nat,(S.set i 0)[j]?=some 2->S[j]?=some 2:=λ_ h=>(qv (c:=0) h).1
def CA:PV->PV->Out PV
 |.l a,.l b=>if a.length+b.length<=sizeLine then .ok (.l (a++b))else .wall
 |_,_=>.wall
section
variable {X:Cx}{C:LC}{S:So}{a b:Sy}{w1 w2:Bool}{m1 m2:ME}{pos:Pos}
def LP(G:EM X C S w1 a m1)(L:EM X C S w2 b m2):FM X C S (.BinOp a .Add b pos) (mOp CA m1 m2):=λn=>by
 obtain⟨N,M,E⟩:=G n;obtain⟨T,F,o⟩:=L n;refine⟨_,Ir Ec M F,λB P H j l R Q q=>E B P H j l R _ (Yy q λx v A r g I=>o B P A j l (R.keep r) _ (Yy I λy u O K D c=>?_))⟩;have g:=g.same K;unfold CA at c;split at c
 .split at c
  .rename_i hz;obtain⟨p,s,rfl,_,hp,i⟩:=g;obtain⟨J,h,rfl,_,f,d⟩:=D;exact⟨p,J,s,h,rfl,rfl,hp,f,by rw[i.len,d.len];exact hz,λz hz=>c _ _ (zA.upd hz) (Kf (i.append d) hz)⟩
  .exact c.elim
 .exact c.elim
def r8:ME:=λ_=>.ok (.d [])
def mH:FM X C S (.Dict [] [] pos) r8:=λf=>⟨_,BU,λB P H d c R Q q=>λp hp=>q _ _ (zA.upd hp) (F8 (xs:=[]) (vs:=[]) rfl hp)⟩
end
section
variable {α β:Type}{a b:Int}{x y:PV}{ρ:Sto}
def vW{a:α}{f:α->Out β}:(Out.ok a).bind f=f a:=rfl
def df(c:-(2 ^ 64)<a)(d:a<2 ^ 64):Ke (.i a) (.i b)=.ok (.i (a*b)):=by show(if D4 a b\/_ then _ else _)=_;rw[if_pos (.inl (.inl ⟨c,d⟩))]
def Er(c:0<b)(d:b<1073741824):Yv (.i a) (.i b)=.ok (.i (a / b)):=by show(if HI a b then _ else _)=_;rw[if_pos ⟨c,d⟩]
def kL(c:0<b):zX (.i a) (.i b)=.ok (.i (a % b)):=by show(if 0<b then _ else _)=_;rw[if_pos c]
def LQ(d:0<=b)(e:b<=1000000)(c:a.natAbs<2 ^ 64):aa (.i a) (.i b)=.ok (.i (a ^ b.toNat)):=by show(if HJ a b then _ else _)=_;rw[if_pos ⟨d,e,c⟩]
def OS:pIx (.l xs) (.i a)=kW (atI xs a):=rfl
def g9{a:α}:kW (some a)=.ok a:=rfl
def LU(h:z.length<=sizeLine):QR [.s z]=.ok (.i z.length):=by show(if _ then _ else _)=_;rw[if_pos h]
def CB{xs:List α}{x:α}:atI (x::xs) 0=some x:=by unfold atI ixN;rw[if_pos (a1d _),if_pos (by simp)];rfl
def xm{xs:List α}(h:0<=k):atI xs k=xs[k.toNat]?:=by
 unfold atI ixN;rw[if_pos h];by_cases c:k<xs.length
 .rw[if_pos c];rfl
 .rw[if_neg c];symm;exact a2w.mpr (by omega)
def oP{xs:List α}:atI xs (-1)=xs.getLast?:=by
 unfold atI ixN;rw[if_neg (by decide)];cases xs with
 |nil=>rfl
 |cons x xs=>rw[if_pos (by simp only[List.length_cons];omega)];rw[List.getLast?_eq_getElem?];show(x::xs)[((-1:Int)+((xs.length+1:Nat):Int)).toNat]?=(x::xs)[xs.length+1-1]?;congr 1;omega
def xn{c:MT}{b:MS}{n:Nat}{o:Out Fw}(h:j5 c b n ρ=o)(j:o≠.wall):c_ c b ρ=o:=by
 have mono:∀(n k:Nat)(ρ:Sto),j5 c b n ρ≠.wall->j5 c b (n+k) ρ=j5 c b n ρ:=by
  intro n
  induction n with
  |zero=>intro k ρ h;exact absurd rfl h
  |succ n l=>
   intro k ρ h;rw[show n+1+k=(n+k)+1 by omega];unfold j5 at h ⊢;cases q:c ρ with
   |exc c fs=>rfl
   |wall=>rfl
   |ok t=>
    rw[q]at h;cases t with
    |false=>rfl
    |true=>
     simp only[vW,if_true]at h ⊢;cases p:b ρ with
     |exc c fs=>rfl
     |wall=>rfl
     |ok f=>
      rw[p]at h;cases f with
      |nx d=>exact l k d h
      |ct d=>exact l k d h
      |bk d=>rfl
      |rt v=>rfl
 have e:∃n,j5 c b n ρ≠.wall:=⟨n,h▸j⟩;unfold c_;rw[dif_pos e];have i:=a0z e;generalize Classical.choose e=n0 at i;rcases Nat.le_total n n0 with g|g
 .obtain⟨k,rfl⟩:=Nat.le.dest g;rw[mono n k ρ (h▸j)];exact h
 .obtain⟨k,rfl⟩:=Nat.le.dest g;rw[<- mono n0 k ρ i];exact h
def xo{g:MG}{b:MS}{x:PV}{xs:SH}:vO g b (x::xs) ρ=(kW (g x ρ)).bind λd=>(b d).bind λf=>match f with
  |.nx c=>vO g b xs c
  |.ct c=>vO g b xs c
  |.bk c=>.ok (.nx c)
  |.rt v=>.ok (.rt v):=rfl
def eG{α:Type}[BEq α][LawfulBEq α][DecidableEq α]{a b:α}:(a==b)=decide (a=b):=by
 by_cases h:a=b
 .subst h;simp
 .simp[h]
def OT:vD n (.i a) (.i b)=.ok (.b (xor n (decide (a=b)))):=by show Out.ok (PV.b (xor n (a==b)))=_;rw[eG]
def OU{n:Bool}{x y:Str}:vD n (.s x) (.s y)=.ok (.b (xor n (decide (x=y)))):=by show Out.ok (PV.b (xor n (x==y)))=_;rw[eG]
def OV:vD n (.l xs) (.l ys)=match mw (ej 7) xs ys with|some b=>.ok (.b (xor n b))|none=>.wall:=rfl
def LV:vD n (.t xs) (.t ys)=match mw (ej 7) xs ys with|some b=>.ok (.b (xor n b))|none=>.wall:=rfl
def QV:mw f (x::xs) (y::ys)=NM (f x y) (mw f xs ys):=rfl
def Es:ej n (.i a) (.i b)=some (decide (a=b)):=by cases n<;>(show some (a==b)=_;rw[eG])
def xp{n:Nat}{x y:Str}:ej n (.s x) (.s y)=some (decide (x=y)):=by cases n<;>(show some (x==y)=_;rw[eG])
def ag{f:Ts}:∀{c:SH},(∀x∈c,f x x=some true)->mw f c c=some true
 |[],_=>rfl
 |x::c,h=>by rw[QV,h x S4,ag λy d=>h y (S6 _ d)];rfl
def zM{fr:Bool}{n:Nat}{ms:MS}{xs:SH}{x:PV}(h:ms (xs.map some++List.replicate (n-xs.length) none)=.ok (.rt x)):wZ fr n ms xs=.ok x:=by unfold wZ;rw[h]
def Gq(h:s ρ=.ok (.nx ρ')):zY s t ρ=t ρ':=by unfold zY;rw[h];rfl
def j9(h:s ρ=.ok (.rt x)):zY s t ρ=.ok (.rt x):=by unfold zY;rw[h];rfl
def g_{k:Str}{v:PV}{r:SO}:List.lookup k ((k,v)::r)=some v:=by simp[List.lookup]
def j_{k j:Str}{v:PV}{r:SO}(h:(k==j)=false):List.lookup k ((j,v)::r)=List.lookup k r:=by simp[List.lookup,h]
def xq:List.lookup k ([]:List (Str×PV))=none:=rfl
def eI:Bv [] k v=[(k,v)]:=rfl
def ai(h:(j==k)=false):Bv ((j,x)::r) k v=(j,x)::Bv r k v:=by show(if j=k then _ else _)=_;rw[if_neg (by simpa using h)]
end
def Et{b:Type}{a:b}:noX (.ok a)=.ok a:=rfl
def eJ{l:Type}{g:MG}{c:MT}{e:ME}(j:l->PV)(keep:l->Bool)(d:l->PV)(J:Sto->Prop):∀(i:List l)(f:Sto)(a:SH),J f->(∀x∈i,∀f,J f->∃b,g (j x) f=some b/\J b/\c b=.ok (keep x)/\(keep x=true->e b=.ok (d x)))->a.length+i.length<=100000->lcP g c e (i.map j) f a=.ok (.l (a++(i.filter keep).map d))
 |[],f,a,_,_,_=>by simp[lcP]
 |x::i,f,a,o,h,r=>by
  obtain⟨b,p,n,q,s⟩:=h x S4 f o;rw[S0]at r;rw[T2];unfold lcP;rw[p,g9,vW,q,Et,vW];cases m:keep x with
  |true=>rw[if_pos rfl,s m,Et,vW,if_pos (T8 (show a.length<100000 by omega) (by decide)),List.filter_cons_of_pos m,T2];rw[eJ j keep d J i b (a++[d x]) n (λz hz=>h z (S6 _ hz)) (by rw[S9];show a.length+1+_<=_;omega),a0w];rfl
  |false=>rw[if_neg T7,List.filter_cons_of_neg (by rw[m];exact T7)];exact eJ j keep d J i b a n (λz hz=>h z (S6 _ hz)) (by omega)
def WJ{j:Type}(i:j->PV)(f:j->PV)(J:Sto->Prop)(xs:List j)(ρ:Sto)(m:J ρ)(h:∀x∈xs,∀ρ,J ρ->∃d,g (i x) ρ=some d/\J d/\e d=.ok (f x))(n:xs.length<=100000):lcP g Cz e (xs.map i) ρ []=.ok (.l (xs.map f)):=by rw[eJ (c:=Cz) i (λ_=>true) f J xs ρ [] m (λx o ρ l=>let⟨d,a,b,c⟩:=h x o ρ l;⟨d,a,b,rfl,λ_=>c⟩) (by simpa using n)];rw[List.filter_eq_self.mpr λ_ _=>rfl];rfl
def aj{n:Nat}:∀{a:Sn},mw (ej n) (a.map PV.s) (a.map PV.s)=some true
 |[]=>rfl
 |x::a=>by rw[T2,QV,xp,aj,T5 rfl];rfl
end L2
namespace L2
open PySem
end L2
namespace L2
open PySem PySem.Spec PyProof.Rows PySem.W
section
variable {X:Cx}
def ao:∀{b:Sx}{a:Sv},b.length=a.length->(∀(j:Nat) x u,b[j]?=some x->a[j]?=some u->RelV x u)->Vals b a
 |[],[],_,_=>.nil
 |x::b,u::a,e,h=>.cons (h 0 x u rfl rfl) (ao (by simpa using e) λj y v d c=>h (j+1) y v (by simpa using d) (by simpa using c))
def CC(I:Inv X pins σ H s)(a:s.heap.objs.size<=l)(e:∀b o,s.heap.get? b=some o->h'.get? b=some o)
  (i:h'.get? l=some { cls:=.type "list",dict:=none,data:=.seq acc c,slots:=#[] }) (hz:ys.length<=sizeLine) (d:ys.length=acc.size) (g:∀(j:Nat) x u,ys[j]?=some x->acc[j]?=some u->RelV x u) (q:∀l,H l=none->Q (.ref l) (upd H l (.lst ys))):
  EP X pins σ Q (.ref l) { s with heap:=h',toks:=tk }:=
 ⟨.ref l,_,I.laid (t':=tk) e a (show qG X.prog X.w _ h' _ (.lst ys)from⟨hz,acc.toList,c,ao (by rw[a1q];exact d) (λj x u h f=>g j x u h (by simpa using f)),by rw[Array.toArray_toList];exact i⟩),rfl,q _ (I.hok.fresh a)⟩
end
def RX{b c:Type}(o:Out b)(f:b->Out c):Out c:=match o with
 |.ok a=>f a
 |.exc _ _=>.wall
 |.wall=>.wall
def hX(g:SD)(ms:MA):ME:=λa=>RX (ms a) g
def LW(h:KV es vs):∀{i:Nat}{k:Key}{v:V},es[i]?=some (k,v)->∃w,vs[i]?=some (k,w):=by
 induction h with
 |nil=>intro i k v e;simp at e
 |@cons p q _ _ hp _ a=>
  intro i k v e;cases i with
  |zero=>simp at e;subst e;exact⟨q.2,by simp;exact Prod.ext hp.1.symm rfl⟩
  |succ i=>simp at e ⊢;exact a e
def xt(h:(yJ P w).is k u=true):RelV (kV k) u:=by
 rw[rj]at h;rcases qc h with⟨i,t,rfl,rfl⟩|⟨x,t,rfl,rfl⟩
 .exact⟨t,rfl⟩
 .exact⟨t,rfl⟩
def kP:Key->PV
 |.inl i=>.i i
 |.inr x=>.s x
def LX{W:RC}{M:Sr}{H:Hp}:∀k:Key,Rep W M H (kP k) (kV k)
 |.inl _=>rfl
 |.inr _=>rfl
def LY:List V->Hp->VK->Prop:=λb H Q=>∃(p:Addr)(a:SE),b=[.ref p]/\Rd H p (.dK a)/\∀l,H l=none->Q (.ref l) (upd H l (.dK a))
def r9:Yj X (.type "dict") LY:=by intro a s f H j i Q I r h;obtain⟨p,m,rfl,c,q⟩:=h;obtain⟨u,rfl,d⟩:=vals1 r;cases d;exact BZ I c λl g e b=>⟨.ref l,_,b,rfl,q l e⟩
def mI(xs:SH):PV->Out PV
 |.b k=>kW ((LD xs).map λa=>.i (a.count k))
 |_=>.wall
def xu(d b:ME):ME:=λa=>(d a).bind λx=>match x with
 |.l c=>(b a).bind (mI c)
 |_=>.wall
def xw(D:EM X C S w1 o m1)(T:EM X C S w2 e m2)(F:attributeBase o "count" X.env (eval o X.env)=eval o X.env:=by rfl)
  (J:((backTo wW (starEach [e] X.env)).all (λx=>!x.1)&&(backToKw wW (keywordEach [] X.env)).all (λx=>x.1.isSome)
   && decide (([e]:List Expr).length+([]:List Keyword).length+(if([]:List Keyword).isEmpty then 0 else 1)<30))=true:=by rfl)
  (G:(jI.endLine==wW.line)=true:=by rfl) (h:starEach [e] X.env=[(false,eval e X.env)]:=by rfl):EM X C S false (.Call (.Attribute o "count" jI) [e] [] wW) (xu m1 m2):=λm=>by
 obtain⟨Z,U,K⟩:=D m;obtain⟨Y,M,s⟩:=T m;refine⟨_,BO a1t a2S PySem.F.type_list_count uB U (Zv M Xg (by rw[h];rfl)) F J G (by rw[h];rfl) rfl,λB P H i f R Q q=>K B P H i f R _ (zN q λx v g w N a=>?_)⟩;cases x with
 |l j=>
  obtain⟨p,E,rfl,_,r,A⟩:=N.weak;refine⟨.inl ⟨rfl,E,SqL.of r⟩,s B P g i f (R.keep w) _ ?_⟩;have a:ya C B g (RV C B S P false) Q ((m2 f).bind (mI j)):=a;revert a;cases m2 f with
  |exc c fs=>exact id
  |wall=>exact id
  |ok y=>
   intro a u O n I;have a:ya C B g (RV C B S P false) Q (mI j y):=a;cases y with
   |b k=>obtain⟨z,e,a⟩:=qj a;obtain⟨L,W,rfl⟩:=u8.mp e;have d:=n _ _ r;rw[uR A W]at d;exact⟨p,L,k,rfl,by rw[(show u=V.bl k from I.weak)],SqL.of d,a _ O n (RV.of rfl)⟩
   |_=>exact a.elim
 |_=>exact a.elim
end L2
namespace L2
open PySem
def OW{c:Type}{P:List c->Prop}{us:List c}(d:us.length=1)(h:∀a,P [a]):P us:=by rcases us with _|⟨a,_|⟨b,us⟩⟩<;>first|exact h _|cases d
def OX{d:Type}{P:List d->Prop}{us:List d}(e:us.length=2)(h:∀a b,P [a,b]):P us:=by rcases us with _|⟨a,_|⟨b,_|⟨c,us⟩⟩⟩<;>first|exact h _ _|cases e
def OY{e:Type}{P:List e->Prop}{us:List e}(f:us.length=3)(h:∀a b c,P [a,b,c]):P us:=by rcases us with _|⟨a,_|⟨b,_|⟨c,_|⟨d,us⟩⟩⟩⟩<;>first|exact h _ _ _|cases f
def OZ{f:Type}{P:List f->Prop}{us:List f}(g:us.length=4)(h:∀a b c d,P [a,b,c,d]):P us:=by rcases us with _|⟨a,_|⟨b,_|⟨c,_|⟨d,_|⟨e,us⟩⟩⟩⟩⟩<;>first|exact h _ _ _ _|cases g
def O0{g:Type}{P:List g->Prop}{us:List g}(i:us.length=5)(h:∀a b c d e,P [a,b,c,d,e]):P us:=by rcases us with _|⟨a,_|⟨b,_|⟨c,_|⟨d,_|⟨e,_|⟨f,us⟩⟩⟩⟩⟩⟩<;>first|exact h _ _ _ _ _|cases i
def aq(z:CXe P w outer H s (λ_ _ _=>False) v s'):False:=by obtain⟨_,_,_,_,_,_,_,_,_,_,_,_,_,_,_,_,_,_,q⟩:=z;exact q
def okb{b c:Type}{a:b}{f:b->Out c}:(Out.ok a).bind f=f a:=Eq.trans (Eq.refl _) (Eq.refl _)
section
variable {α:Type}{g:MG}{b:MS}{c:MT}{e:ME}{ρ ρ':Sto}{s t:MS}{m:ME}{x:PV}{mi:MI}{o:Out Fw}{i:Nat}
def zd(h:∃ρ',s ρ=.ok (.nx ρ')/\t ρ'=o):zY s t ρ=o:=let⟨_,a,b⟩:=h;(Gq a).trans b
def mJ{fr:SJ}{xs:SH}(h:mi ρ=.ok xs)(a:lcP g c e xs (mG ρ fr) []=.ok x):mLC mi fr g c e ρ=.ok x:=by unfold mLC;rw[h,vW,a]
def yt(h:m ρ=.ok x):yX i m ρ=.ok (.nx (ρ.set i (some x))):=by unfold yX;rw[h,vW]
def qV(h:mi ρ=.ok xs)(a:vO g b xs ρ=o):JT mi g b ρ=o:=by unfold JT;rw[h,vW,a]
def CD{n:Nat}(h:n<=1000000):xb [.i (n:Int)]=.ok (tM 0 n):=by unfold xb;exact(if_pos ⟨by omega,by omega⟩).trans (by rw[a1Y])
def oQ(h:ms ρ=.ok [.i (n:Int)])(a:n<=1000000):YA ms ρ=.ok (tM 0 n):=by unfold YA;rw[h,vW,CD a]
def mK(h:ms ρ=.ok [.i n])(a:0<=n)(d:n<=1000000):YA ms ρ=.ok (tM 0 n.toNat):=oQ (n:=n.toNat) (by rw[h];congr 3;omega) (by omega)
def ye(h:m ρ=.ok (.l xs)):yr m ρ=.ok xs:=by unfold yr;rw[h,vW];rfl
def UC:tM 0 n=(List.range n).map λk=>PV.i ((k:Nat):Int):=by unfold tM;exact a1r λk _=>by congr 1;omega
def oR(l:α->PV)(J:Nat->Sto->Prop):∀(f:List α)(j:Nat)(ρ:Sto),J j ρ->(∀(k:Nat)(h:k<f.length)(ρ:Sto),J (j+k) ρ->∃d,g (l f[k]) ρ=some d/\∃a,J (j+k+1) a/\(b d=.ok (.nx a)\/b d=.ok (.ct a)))->∃ρ',J (j+f.length) ρ'/\vO g b (f.map l) ρ=.ok (.nx ρ')
 |[],j,ρ,h,_=>⟨ρ,h,rfl⟩
 |x::f,j,ρ,h,r=>by
  obtain⟨d,w,a,y,n⟩:=r 0 (a2J _) ρ h;obtain⟨p,z,u⟩:=oR l J f (j+1) a y λk v ρ q=>by have:=r (k+1) (a2K v) ρ (by rw[show j+(k+1)=j+1+k by omega];exact q);rw[show j+(k+1)+1=j+1+k+1 by omega]at this;exact this
  refine⟨p,by rw[S0,show j+(f.length+1)=j+1+f.length by omega];exact z,?_⟩;rw[T2,xo,show g (l x) ρ=some d from w,g9,vW];rcases n with n|n<;>(rw[n,vW];exact u)
def WK(f:α->PV)(J:Nat->Sto->Prop)(xs:List α)(ρ:Sto)(h:J 0 ρ)(n:∀(k:Nat)(h:k<xs.length)(ρ:Sto),J k ρ->∃d,g (f xs[k]) ρ=some d/\∃a,J (k+1) a/\(b d=.ok (.nx a)\/b d=.ok (.ct a))):∃ρ',J xs.length ρ'/\vO g b (xs.map f) ρ=.ok (.nx ρ'):=by
 have:=oR (g:=g) (b:=b) f J xs 0 ρ h λk l ρ j=>by have:=n k l ρ (by rwa [a3u]at j);rwa [a3u]
 rwa [a3u]at this
def UD(J:Nat->Sto->Prop)(n:Nat)(ρ:Sto)(h:J 0 ρ)(l:∀(k:Nat),k<n->∀(ρ:Sto),J k ρ->∃d,g (.i (k:Int)) ρ=some d/\∃a,J (k+1) a/\(b d=.ok (.nx a)\/b d=.ok (.ct a))):∃ρ',J n ρ'/\vO g b (tM 0 n) ρ=.ok (.nx ρ'):=by
 have:=WK (g:=g) (b:=b) (λk:Nat=>PV.i (k:Int)) J (List.range n) ρ h λk j ρ f=>by rw[a1Q];exact l k (by rwa [a0D]at j) ρ f
 rwa [a0D,<- UC]at this
end
end L2
namespace L2
open PySem PySem.Spec PyProof.Rows PySem.W
section
variable {prog:SG}{w:SI}{A:SQ}{E:Sq}{h:Heap}{g:Array GenState}{d:Drawn}{t:Nat}{os:OsState}{a:Addr}{its:Td}{n:Nat}{sl:SX}
def h8:typeLookup (.type "list") "keys"=pure none:=by rw[a2W,a17];kernel_rfl
def au:typeLookup (.type "list") "__getattr__"=pure none:=by rw[a2W,a17];kernel_rfl
def xx:isSubtype (.type "AttributeError") (.type "AttributeError")=pure true:=by rw[isSubtype_type];kernel_rfl
def Gr(he:h.get? e=some ⟨.type "AttributeError",none,.fields #[T,.none,.none,.none,.bool false,X,rawInt 0,rawInt 0],#[]⟩)
  (m:∀c,(∀b o,b≠e->h.get? b=some o->c.get? b=some o)->(∃i,c.get? e=some i/\i.cls=.type "AttributeError")->Q () ⟨c,g,d,t,os⟩):
  wpAny (model prog w) A (noteAttr (.ref e) o name) Q E ⟨h,g,d,t,os⟩:=by
 have f:(⟨h,g,d,t,os⟩:Shared).TypeIs (.ref e) "AttributeError":=⟨_,he,rfl⟩;unfold noteAttr lacksNameAndObj;refine f8 ?_;refine f8 (a15 (b:=true) f xx ?_);rw[if_neg (by decide)];refine f8 (a29 he ?_);dsimp only;rw[if_neg (λz=>by cases(show false=true from z))];rw[if_neg (λz=>by cases(show false=true from z))];refine S8 ?_;rw[if_pos rfl];refine f8 (a3d ?_);refine f8 (a1R (T:="AttributeError") f ?_);dsimp only;unfold layMembers;refine f8 (a29 he ?_);dsimp only;refine wpAny_update he ?_;refine m _ (λb o j l=>(a0q _ _ (Ne.symm j)).trans l) ⟨_,a0R _ he rfl,rfl⟩
def r_(hh:A.handled=none)(hx:h.get? a=some ⟨.type "list",none,.seq its n,sl⟩)
  (hE:∀h' tk e,(∀b o,h.get? b=some o->h'.get? b=some o)->(∃oe,h'.get? e=some oe/\oe.cls=.type "AttributeError")->E (.ref e) ⟨h',g,d,tk,os⟩):
  wpAny (model prog w) A (Builtin.«object.__getattribute__» ⟨[.ref a,.str "keys" tk],[]⟩) Q E ⟨h,g,d,t,os⟩:=by
 have hT:(⟨h,g,d,t,os⟩:Shared).TypeIs (.ref a) "list":=⟨_,hx,rfl⟩;have f4:=h8
 repeat(any_goals(first|assumption|wp_step))
 unfold raiseAttrError;refine f8 (wpAny_mkStr (f8 ?_) (by decide +kernel));unfold newExc newTuple;refine f8 (a1V ?_);refine f8 (m:=firstArgMember _ _) (a20 (a:=Value.none) (by simp only[firstArgMember];kernel_rfl) ?_);refine a1V ?_;refine f8 (a2E (f8 ?_));refine Gr (a0i _ rfl) λh' hk he=>?_;unfold raiseNew;refine f8 (wpAny_handled ?_);rw[hh]
 first
  |refine a3A ?_
  |refine f8 (S8 (a3A ?_))
 exact hE _ _ _ (λb o e=>hk b o (a0e (T8 (T1 e) (by simp))) (S5 _ (S5 _ e))) he
def xy(m:A.handled=none)(j:h.get? a=some ⟨.type "list",none,.seq its n,sl⟩)
  (l:∀c f e,(∀b o,h.get? b=some o->c.get? b=some o)->(∃i,c.get? e=some i/\i.cls=.type "AttributeError")->R (.error (.ref e)) ⟨c,g,d,f,os⟩):
  codeAny (model prog w) A (.call (.builtin "list.__getattribute__") ⟨[.ref a,.str "keys" f],[]⟩) R ⟨h,g,d,t,os⟩:=
 a1I F.slot_list_getattribute.plain F.entry_list_ga (F.slot_list_getattribute.check _ _ _ _ _ _ _ _ (show(⟨h,g,d,t,os⟩:Shared).TypeIs (.ref a) "list" from⟨_,j,rfl⟩) (F.args_list_getattribute_2 _ _) (r_ m j l))
def Gs(s:A.handled=none)(l:h.get? a=some ⟨.type "list",none,.seq its n,sl⟩)(u:∀c i,(∀b o,h.get? b=some o->c.get? b=some o)->Q none ⟨c,g,d,i,os⟩):
  wpAny (model prog w) A (getAttr? (.ref a) "keys") Q E ⟨h,g,d,t,os⟩:=by
 have q:∀t,(⟨h,g,d,t,os⟩:Shared).TypeIs (.ref a) "list":=λt=>⟨_,l,rfl⟩;have p:=F.slot_list_getattribute.lookup;have r:=F.slot_list_getattribute.bind (.ref a);unfold getAttr? getAttrBy?;refine f8 (a2E ?_);refine f8 (a1L ?_);unfold getAttrBy;refine a0H ?_;refine f8 (a1R (T:="list") (q _) ?_);refine f8 (a20 p ?_);dsimp only;rw[if_neg (λz=>by cases(show false=true from z))];unfold getAttrByItsOwn hookBefore;rw[if_neg (λz=>by cases(show false=true from z))];refine f8 (S8 ?_);refine f8 (a1L ?_);refine a0H ?_;unfold callGetattribute;rw[if_neg (λz=>by cases(show false=true from z))];unfold boundAndCalled;refine f8 (a20 r ?_);dsimp only;refine a1c (xy s l λc i e m j=>?_);obtain⟨x,j,v⟩:=j;have f:(⟨c,g,d,i,os⟩:Shared).TypeIs (.ref e) "AttributeError":=⟨_,j,v⟩;dsimp only;unfold getattributeRaised;refine f8 (a15 (b:=true) f xx ?_);rw[if_pos rfl];unfold hookBehind;rw[if_neg (λz=>by cases(show false=true from z))];refine f8 (a20 au ?_);unfold hookOrError attributeErrorLeaves;dsimp only;rw[if_pos (show(!false)=true from rfl)];refine f8 (a3A ?_);refine f8 (a15 (b:=true) f xx ?_);rw[if_pos rfl];exact S8 (u c i m)
end
def Kg:entryFor table "dict.update.loop"=some Builtin.«dict.update.loop»:=entryFor_of_tree (by kernel_rfl)
def ky:plainId "dict.update.loop"=true:=by decide +kernel
section
variable {prog:SG}{w:SI}{A:SQ}{R:Result->Shared->Prop}{I:Addr}{fp wr:Tg}{G:Array GenState->Array GenState->Prop}{n:Nat}{P:Nat->Value->Prop}{St:Nat->Shared->Prop}{K:Type}[DecidableEq K] {knd:KeyKind prog w K}
def TupAt(h:Heap)(a:Addr)(k v:Value):Prop:=∃o m,h.get? a=some o/\o.cls=.type "tuple"/\o.data=.seq #[k,v] m
def Bw(key:Nat->K)(val:TF):Nat->List (K×Value)
 |0=>[]
 |i+1=>stored (Bw key val i) (key i) (val i)
def eK(key:Nat->K)(val:TF):∀i,(Bw key val i).length<=i
 |0=>S7 _
 |i+1=>by
  have:=eK key val i;unfold Bw stored;split
  .rw[v4];omega
  .rw[S9];show _+1<=_;omega
def CF(W:WalksS prog w A.in1 I fp wr G n P St)(D:Addr)(z:D∉fp)(key:Nat->K)(kv val:TF)(ad:SA)(hP:∀i v,P i v->v=.ref (ad i))(hk:∀i,i<n->knd.is (key i) (kv i)=true)(hw:∀i,i<n->ad i∉D::wr)(hn:n<=sizeLine):
  ∀(k i:Nat)(X:Tok)(s:Ss),n-i=k->i<=n->St i s->(∀j,j<n->TupAt s.heap (ad j) (kv j) (val j))->s.heap.DictOf knd D (Bw key val i)->
   (∀a,Moved (D::wr) G s a->a.heap.DictOf knd D (Bw key val n)->R (.ok (.ret .none)) a)->
   codeAny (model prog w) A (.builtin "dict.update.loop" ⟨[.ref D,.ref I,.int (i:Int) X,.none],[]⟩) R s:=by
 have q:D∉wr:=λh=>z (W.sub _ h);have d:∀b∈wr,b∈D::wr:=λb l=>S6 _ l;have u:∀{s a:Ss},Moved (D::wr) G s a->(∀j,j<n->TupAt s.heap (ad j) (kv j) (val j))->∀j,j<n->TupAt a.heap (ad j) (kv j) (val j):=λf h j hj=>by obtain⟨o,m,E,Z,h3⟩:=h j hj;exact⟨o,m,f.heap _ _ (hw j hj) E,Z,h3⟩
 intro k
 induction k with
 |zero=>
  intro i X s Q hi g Y hD O;have H:i=n:=by omega
  subst H;refine codeAny_builtin Kg ?_;rw[a3e ky _];show wpAny _ A.in1 (pyNext (.ref I) >>= _) _ _ s;refine f8 (W.done s _ _ g λa f=>?_);dsimp only;refine f8 (m:=Builtin.Dict.addKeywords D []) ?_;refine S8 ?_;exact S8 (O a (f.mono d) (by
   obtain⟨o,es,F,L,rest⟩:=hD;exact⟨o,es,F,f.heap D _ q L,rest⟩))
 |succ k ih=>
  intro i X s Q hi g Y hD O;have c:i<n:=by omega
  refine codeAny_builtin Kg ?_;rw[a3e ky _];show wpAny _ A.in1 (pyNext (.ref I) >>= _) _ _ s;refine f8 (W.item i s _ _ c g λv a S x f=>?_);cases hP i v S;have y:=f.mono d;have J:=u y Y;obtain⟨o,m,E,Z,h3⟩:=J i c;have N:a.heap.DictOf knd D (Bw key val i):=by obtain⟨o,es,F,L,rest⟩:=hD;exact⟨o,es,F,f.heap D _ q L,rest⟩
  have hT:a.TypeIs (.ref (ad i)) "tuple":=⟨o,E,Z⟩;dsimp only;refine f8 (a0H (f8 (wpAny_tryCatch ?_)));unfold Builtin.Dict.pairItems;refine f8 (a1R (T:="tuple") hT ?_);rw[if_pos (by decide)];unfold seqItems?;refine f8 (f8 (a29 E ?_));rw[h3];dsimp only;refine S8 (S8 ?_);show wpAny _ _ (holding [kv i,val i] (dictSet D (kv i) (val i))) _ _ _;refine a0H (wpAny_dictSet_pairs (hsz:=a0o (eK key val i) (a0o hi hn)) (hk i c) N λh' U r=>?_);have e1:((i:Int)+1)=((i+1:Nat):Int):=by omega
  have B:Moved (D::wr) G s { a with heap:=h',toks:=a.toks+1 }:=y.then_heap (a03 _) λb o l e=>by rw[r.2 b (λh:b=D=>l (by rw[h];exact S4))];exact e
  refine S8 ⟨a3h ky _,?_⟩;rw[show rawInt ((i:Int)+1)=Value.int ((i+1:Nat):Int) 0 by rw[e1];rfl];refine ih (i+1) 0 _ (by omega) c (W.frame _ a _ _ x (a03 _) λb l o e=>?_) (u B Y) U λM p C=>O M (Moved.trans W.gtrans B p) C;rw[r.2 b (λh:b=D=>z (by rw[<- h];exact l))];exact e
end
section
variable {prog:SG}{w:SI}{A:SQ}{E:Sq}{s:Ss}{K:Type}[DecidableEq K] {knd:KeyKind prog w K}
def eN{l:Addr}{items:Td}{m:Nat}{sl:SX}{Q:Sq}{key:Nat->K}{kv val:TF}{ad:SA}(hh:A.handled=none)(hl:s.heap.get? l=some ⟨.type "list",none,.seq items m,sl⟩)
  (hP:∀i,i<items.size->items[i]?=some (.ref (ad i))) (ht:∀i,i<items.size->TupAt s.heap (ad i) (kv i) (val i)) (hk:∀i,i<items.size->knd.is (key i) (kv i)=true) (hn:items.size<=sizeLine)
  (h:∀h' tk,(∀b o,s.heap.get? b=some o->h'.get? b=some o)->h'.DictOf knd s.heap.objs.size (Bw key val items.size)->Q (.ref s.heap.objs.size) { s with heap:=h',toks:=tk }):
  wpAny (model prog w) A (call (.type "dict") [.ref l]) Q E s:=by
 refine callType_codes (Q₁:=λobj s₁=>obj=.ref s.heap.objs.size/\s₁={ s with heap:=s.heap.push { cls:=.type "dict",data:=.dict #[] } }) F.kt_called_dict (F.kt_typeCall_dict_1 _) F.entry_dict_init (kt_code_dict_new _ ⟨rfl,rfl⟩) ?_
 rintro obj s₁ ⟨rfl,rfl⟩
 have hnew:(s.heap.push { cls:=.type "dict",data:=.dict #[] }).DictOf knd s.heap.objs.size []:=Heap.DictOf.new s.heap;have hl':(s.heap.push { cls:=.type "dict",data:=.dict #[] }).get? l=some ⟨.type "list",none,.seq items m,sl⟩:=S5 _ hl;refine⟨hnew.typeIs,F.args_dict_init_2 _ _,?_⟩;unfold Builtin.«dict.__init__»;refine f8 ?_;unfold Builtin.Dict.selfAndRest;refine f8 (wpAny_notOrdered_dict hnew.typeIs ?_);show wpAny _ _ (pure (s.heap.objs.size,[Value.ref l])) _ _ _;refine S8 ?_;show wpAny _ _ (Builtin.Dict.updateFrom "dict.__init__" s.heap.objs.size (.ref l) [] .none) _ _ _;unfold Builtin.Dict.updateFrom;refine f8 (a1R (T:="list") ⟨_,hl',rfl⟩ ?_);rw[if_pos (by decide)];refine f8 ?_;refine Gs hh hl' λh1 t1 k1=>?_;rw[if_pos (show(none:Option Value).isNone=true from rfl)];refine f8 (a3d ?_);have hl1:h1.get? l=some ⟨.type "list",none,.seq items m,sl⟩:=k1 _ _ hl';have hil:h1.IsList l items:=⟨_,hl1,rfl,m,rfl⟩;refine f8 (wpAny_pyIter_list hil ?_);have D1:h1.DictOf knd s.heap.objs.size []:=by obtain⟨o,es,ep,ho,rest⟩:=hnew;exact⟨o,es,ep,k1 _ _ ho,rest⟩
 have ls:l<s.heap.objs.size:=T1 hl;have l1:l<h1.objs.size:=T1 hl1;have ds:s.heap.objs.size<h1.objs.size:=by obtain⟨o,_,_,ho,_⟩:=D1;exact T1 ho
 have hne:l≠h1.objs.size:=a0e l1;have kp:∀b o,h1.get? b=some o->(h1.push { cls:=.type "list_iterator",data:=.fields #[.ref l,.int 0 0] }).get? b=some o:=λb o e=>S5 _ e;have tl:∀j,j<items.size->ad j<s.heap.objs.size:=λj hj=>by obtain⟨o,_,h1,_⟩:=ht j hj;exact T1 h1
 refine S8 ⟨a3h ky _,CF (knd:=knd) (Walks.list (A:=A.in1.in1) hh h1.objs.size l hne items).toS s.heap.objs.size (by simp;exact⟨a0e ds,a1e ls⟩) key kv val ad (λi v hv=>?_) hk (λi hi=>?_) hn items.size 0 0 _ (by omega) (a0y _) ⟨⟨_,a0i _ rfl,rfl,rfl⟩,?_⟩ (λj hj=>?_) ?_ λs' hm hD=>?_⟩
 .have hi:i<items.size:=by
   by_cases c:i<items.size
   .exact c
   .rw[a2Z (by omega)]at hv;cases hv
  rw[hP i hi]at hv;cases hv;rfl
 .have:=tl i hi;intro hm;rcases a0f.mp hm with e|hm
  .exact a0e this e
  .exact a0e (a2c this ds) (a0j.mp hm)
 .exact⟨_,kp _ _ hl1,rfl,m,rfl⟩
 .obtain⟨o,q,e1,e2,e3⟩:=ht j hj;exact⟨o,q,kp _ _ (k1 _ _ (S5 _ e1)),e2,e3⟩
 .obtain⟨o,es,ep,ho,rest⟩:=D1;exact⟨o,es,ep,kp _ _ ho,rest⟩
 .rw[Moved.eq_with hm];refine⟨rfl,h s'.heap s'.toks (λb o e=>hm.heap b o (λhmem=>?_) (kp _ _ (k1 _ _ (S5 _ e)))) hD⟩;have:=T1 e;rcases a0f.mp hmem with e'|hm
  .exact a0e this e'
  .exact a0e (a2c this ds) (a0j.mp hm)
end
section
variable {X:Cx}
def eO(K:SV)(H:Hp):List V->List (Key×V)->Prop
 |[],b=>b=[]
 |x::c,b=>∃a k v r,x=.ref a/\b=(k,v)::r/\SqT K H a [kV k,v]/\eO K H c r
def xA(es:SE):List (Key×V):=es.foldl (λa b=>putK a b.1 b.2) []
def Eu(K:SV):List V->Hp->VK->Prop:=λc H Q=>∃(p:Addr)(a:Sx)(b:SE),c=[.ref p]/\SqL K H p a/\eO K H a b/\∀l,H l=none->Q (.ref l) (upd H l (.dK (xA b)))
def oS{pins:Sm}{σ:St}{H:Hp}{s:Ss}(I:Inv X pins σ H s):∀{g:Sx}{f:SE}{b:Sv},eO X.K H g f->Vals g b->∃c:List (Addr×Value×Value),b=c.map (λp=>Value.ref p.1)/\c.length=f.length/\(∀p∈c,TupAt s.heap p.1 p.2.1 p.2.2)/\∀(i:Nat) p e,c[i]?=some p->f[i]?=some e->RelV (kV e.1) p.2.1/\RelV e.2 p.2.2
 |[],_,b,h,r=>by cases(show _=_ from h);cases r;exact⟨[],rfl,rfl,(λ_ h=>by cases h),λ_ _ _ h=>by cases h⟩
 |x::g,_,b,h,r=>by
  obtain⟨a,k,v,f,rfl,rfl,C,A⟩:=h;cases r with
  |cons j r=>
   cases j;obtain⟨c,D,q,z,u⟩:=oS I A r;obtain⟨J,l,⟨o,y,E,m,G⟩,_⟩:=I.tuple C;obtain⟨F,B,rfl,w,n⟩:=vals2 l;refine⟨(a,F,B)::c,by rw[D];rfl,by rw[S0,S0,q],λp hp=>?_,λi p e hp d=>?_⟩
   .rcases a0f.mp hp with rfl|hp
    .exact⟨o,m,y,E,G⟩
    .exact z p hp
   .cases i with
    |zero=>rw[List.getElem?_cons_zero]at hp d;cases hp;cases d;exact⟨w,n⟩
    |succ i=>rw[a0p]at hp d;exact u i p e hp d
def xB{es:SE}{key:Nat->Key}{val:TF}:∀n,n<=es.length->(∀i e,i<n->es[i]?=some e->key i=e.1/\RelV e.2 (val i))->KV ((es.take n).foldl (λb d=>putK b d.1 d.2) []) (Bw key val n)
 |0,_,_=>.nil
 |n+1,l,h=>by have a:n<es.length:=l;have c:=T4 a;rw[List.take_succ,c,List.foldl_append];obtain⟨g,f⟩:=h n _ (a08 n) c;show KV (putK _ _ _) (stored (Bw key val n) (key n) (val n));rw[g];exact(xB n (a1N a) λi e m j=>h i e (a1W m) j).put _ f
def sf(S:X.calm=true):Yj X (.type "dict") (Eu X.K):=by
 intro D s Z H W us Q I r h;obtain⟨p,W,b,rfl,P,hp,q⟩:=h;obtain⟨u,rfl,R⟩:=vals1 r;cases R;obtain⟨y,B,⟨o,m,T,L,M,N⟩,hz⟩:=I.list P;obtain⟨g,K,F,U,G⟩:=oS I hp B;have d:y.length=b.length:=by rw[K,v4,F]
 have z:∀i,i<b.length->∃a,g[i]?=some a/\b[i]?=some (b.getD i (.inl 0,.non))/\g.getD i (0,.none,.none)=a:=λi c=>by
  have n:i<g.length:=by rw[F];exact c
  refine⟨g[i],T4 n,by rw[a01,T4 c];rfl,by rw[a01,T4 n];rfl⟩
 have f:y.toArray.size=b.length:=by simpa using d
 obtain⟨cls,E,J,C⟩:=o;dsimp only at L M N;subst L M N;refine eN (knd:=yJ X.prog X.w) (key:=λi=>(b.getD i (.inl 0,.non)).1) (kv:=λi=>(g.getD i (0,.none,.none)).2.1) (val:=λi=>(g.getD i (0,.none,.none)).2.2) (ad:=λi=>(g.getD i (0,.none,.none)).1) (I.ok.hd S) T (λi c=>?_) (λi c=>?_) (λi c=>?_) ?_ λh' Y O hD=>?_
 .rw[f]at c;obtain⟨a,l,_,j⟩:=z i c;rw[j];simp[K,l]
 .rw[f]at c;obtain⟨a,l,_,j⟩:=z i c;rw[j];exact U a (a1H l)
 .rw[f]at c;obtain⟨a,l,w,j⟩:=z i c;rw[j];exact d0 (G i a _ l w).1
 .rw[f,<- d,<- B.length];exact hz
 .rw[f]at hD;have x:KV (xA b) (Bw (λi=>(b.getD i (.inl 0,.non)).1) (λi=>(g.getD i (0,.none,.none)).2.2) b.length):=by
   have:=xB (es:=b) (key:=λi=>(b.getD i (.inl 0,.non)).1) (val:=λi=>(g.getD i (0,.none,.none)).2.2) b.length (S7 _) λi e c w=>?_
   .rwa [a1b]at this
   .obtain⟨a,l,v,j⟩:=z i c;rw[w]at v;cases v;rw[j];exact⟨by rw[a01,w],(G i a _ l w).2⟩
  have A:=I.hok.fresh (S7 s.heap.objs.size);refine⟨.ref s.heap.objs.size,_,I.laid (a:=s.heap.objs.size) (o:=.dK (xA b)) (t':=Y) O (S7 _) (oj ?_ (a0E.mpr (Ne.symm (a0e I.big))) x hD),rfl,q _ A⟩;rw[x.length];refine a0o (eK _ _ _) ?_;rw[<- d,<- B.length];exact hz
end
def Gu:List PV->Option (List (Key×PV))
 |[]=>some []
 |.t [k,v]::a=>(pk k).bind λq=>(Gu a).map ((q,v)::·)
 |_=>none
def oU(es:SN):List (Key×PV):=es.foldl (λa b=>dput a b.1 b.2) []
def h9:List PV->Out PV
 |[.d a]=>.ok (.d a)
 |[.l a]=>kW ((Gu a).map λb=>.d (oU b))
 |_=>.wall
section
variable {W:RC}{M:Sr}{H:Hp}
def xC:∀{b:SH}{f:Sx}{d:SN},yq W M H b f->Gu b=some d->∃ev,eO W.K H f ev/\jX W M H d ev
 |[],_,_,h,e=>by cases e;cases(show _=_ from h);exact⟨[],rfl,rfl⟩
 |x::b,_,d,h,e=>by
  obtain⟨v,r,rfl,j,o⟩:=h;unfold Gu at e;split at e
  .cases ‹_::_=[]›
  .rename_i k y w a;cases a;obtain⟨q,m,e⟩:=a0d.mp e;obtain⟨B,hz,rfl⟩:=u8.mp e;obtain⟨ev,i,l⟩:=xC o hz;obtain⟨p,A,rfl,hp,C,z,rfl,g,c,u,rfl,s,n⟩:=j;cases(show _=_ from n);cases WG (qe.iff.mpr g) m;exact⟨(q,c)::ev,⟨p,q,c,ev,rfl,rfl,hp,i⟩,⟨c,ev,rfl,s,l⟩⟩
  .cases e
def dg:∀{es:SN}{ev:SE}{a:SN}{av:SE},jX W M H a av->jX W M H es ev->jX W M H (es.foldl (λacc kv=>dput acc kv.1 kv.2) a) (ev.foldl (λacc kv=>putK acc kv.1 kv.2) av)
 |[],_,_,_,h,e=>by cases(show _=_ from e);exact h
 |kx::es,_,a,av,h,⟨v,q,e,h1,h2⟩=>by subst e;rw[a1j,a1j];exact dg (a:=dput a kx.1 kx.2) (av:=putK av kx.1 v) (h.put h1) h2
def CG:LfF W (λc H Q=>LY c H Q\/Eu W.K c H Q) h9:=λM C B H o c Q n h q=>by
 unfold h9 at q;split at q
 .obtain⟨v,r,rfl,⟨p,f,rfl,_,a,b⟩,d⟩:=h;cases(show _=_ from d);exact .inl ⟨p,f,rfl,a,λl a=>q _ _ (zA.upd a) (F8 b a)⟩
 .obtain⟨z,e,q⟩:=qj q;obtain⟨f,i,rfl⟩:=u8.mp e;obtain⟨v,r,rfl,⟨p,m,rfl,_,a,b⟩,d⟩:=h;cases(show _=_ from d);obtain⟨ev,g,j⟩:=xC b i;exact .inr ⟨p,m,ev,rfl,SqL.of a,g,λl a=>q _ _ (zA.upd a) (F8 (dg (show jX W M H [] []from rfl) j) a)⟩
 .exact q.elim
end
def CH(f:X.calm=true)(b:Gl X "dict")(a:X.mg "dict"=none)(c:AM X C S ws [e] ms)(he:starEach [e] X.env=[(false,eval e X.env)]:=by rfl):FM X C S (.Call (.Name "dict" p) [e] [] pos) (zh h9 ms):=
 oH (λd=>d▸r9.or (sf f)) CG b a PyProof.Rows.boot_dict c (he:=he)
section
variable {prog:SG}{w:SI}{A:SQ}{E:Sq}{s:Ss}
def len_dict:typeLookup (.type "dict") "__len__"=pure (some (.builtin "dict.__len__")):=by rw[a2W,a17];kernel_rfl
def Gv(a:s.TypeIs (.ref d) "dict")(h:Q false s):wpAny (model prog w) A (Builtin.List.listLengthHint (.ref d)) Q E s:=by
 unfold Builtin.List.listLengthHint;refine f8 (a2V a len_dict ?_);generalize hid:("dict.__len__":String)=id0
 (fail_if_success (clear hid id0));wp_delta
 rw[show splitId id0=some ("dict","__len__")from by subst hid;decide +kernel];dsimp only;refine f8 (a15 (b:=true) a (by rw[isSubtype_type];kernel_rfl) ?_);subst hid;rw[if_neg (by decide)];rw[if_pos (by decide +kernel)];refine f8 (a1R (T:="dict") a ?_);exact S8 h
variable {K:Type}[DecidableEq K] {knd:KeyKind prog w K}
def Gw{Q:Sq}{d:Addr}{kvs:List (K×Value)}{ep:Nat}(hh:A.handled=none)(Y:(d==sysModules)=false)(hm:s.heap.DictAt knd d kvs ep)(hn:kvs.length<=sizeLine)
  (hQ:∀J tk c N,(∀b o,s.heap.get? b=some o->J.get? b=some o)->J.get? s.heap.objs.size=some { cls:=.type "list",dict:=none,data:=.seq c N,slots:=#[] }->ItemsOf (λi v=>∃k x,kvs[i]?=some (k,x)/\knd.is k v=true) c kvs.length->Q (.ref s.heap.objs.size) { s with heap:=J,toks:=tk }):
  wpAny (model prog w) A (call (.type "list") [.ref d]) Q E s:=by
 have W:d<s.heap.objs.size:=by obtain⟨o,_,X,_⟩:=hm;exact T1 X
 refine callType_codes (Q₁:=λy g=>y=.ref s.heap.objs.size/\g={ s with heap:=s.heap.push { cls:=.type "list",data:=.seq #[] } }) PySem.F.called_list (PySem.F.typeCall_list_1 _) PySem.F.entry_list_init
  (code_list_new _ ⟨rfl,rfl⟩) λy g H=>?_
 obtain⟨rfl,rfl⟩:=H;have I:(s.heap.push { cls:=.type "list",data:=.seq #[] }).get? s.heap.objs.size=some { cls:=.type "list",data:=.seq #[] }:=a0i _ rfl;refine⟨⟨_,I,rfl⟩,PySem.F.args_list_init_2 _ _,?_⟩;show wpAny _ _ (do let old<-Builtin.List.listItems (.ref s.heap.objs.size);Builtin.List.listUpdate (.ref s.heap.objs.size) (λ_=>#[]);letGo old.toList.reverse;Builtin.List.listExtendWith (.ref s.heap.objs.size) (.ref d) .none) _ _ _;refine f8 ?_;unfold Builtin.List.listItems;refine f8 (wpAny_seqItems I rfl (S8 ?_));show wpAny _ _ (updateSeq s.heap.objs.size (λ_=>#[]) >>= λ_=>letGo (#[]:Array Value).toList.reverse >>= λ_=>Builtin.List.listExtendWith (.ref s.heap.objs.size) (.ref d) .none) _ _ _;refine f8 (a2X I rfl ?_);have a:=a0R (Obj.mapSeq (λ_=>(#[]:Array Value))) I rfl;refine f8 (wpAny_letGo ?_);have O:∀b o,s.heap.get? b=some o->((s.heap.push { cls:=.type "list",data:=.seq #[] }).update s.heap.objs.size (Obj.mapSeq (λ_=>(#[]:Array Value)))).get? b=some o:=λb o e=>
  (a0q _ _ (a1e (T1 e))).trans (S5 _ e)
 generalize((s.heap.push { cls:=.type "list",data:=.seq #[] }).update s.heap.objs.size (Obj.mapSeq (λ_=>(#[]:Array Value))))=h2 at a O;have l:h2.DictAt knd d kvs ep:=hm.at' λo e=>O _ _ e;have B:∀{r:Ss},r.heap.DictAt knd d kvs ep->r.TypeIs (.ref d) "dict":=λz=>z.dictOf.typeIs;unfold Builtin.List.listExtendWith;refine f8 (a1R (T:="dict") (B l) ?_);have f:s.heap.objs.size≠d:=a1e W;have h1:Builtin.List.listSameRef (.ref s.heap.objs.size) (.ref d)=false:=by simp[Builtin.List.listSameRef,f]
 rw[if_neg (by rw[h1];decide)];refine f8 (wpAny_pyIter_dict Y l ?_);have h:∀b o,h2.get? b=some o->(h2.push { cls:=.type "dict_keyiterator",data:=.fields #[.ref d,.int 0 0,.int kvs.length 0,.int ep 0] }).get? b=some o:=λb o e=>S5 _ e;have m:(h2.push { cls:=.type "dict_keyiterator",data:=.fields #[.ref d,.int 0 0,.int kvs.length 0,.int ep 0] }).DictAt knd d kvs ep:=l.at' λo e=>h _ _ e;refine f8 (a0H (Gv (B m) ?_));rw[if_pos (by decide)];refine f8 (a3d ?_);unfold Builtin.List.listTouch Builtin.List.listUpdate;have L:s.heap.objs.size<h2.objs.size:=T1 a;have Z:d≠h2.objs.size:=a0e (a2c W L);have j:=h _ _ a;have u:(h2.push { cls:=.type "dict_keyiterator",data:=.fields #[.ref d,.int 0 0,.int kvs.length 0,.int ep 0] }).get? h2.objs.size=some { cls:=.type "dict_keyiterator",data:=.fields #[.ref d,.int 0 0,.int kvs.length 0,.int ep 0] }:=a0i _ rfl;have S:∀b o,s.heap.get? b=some o->(h2.push { cls:=.type "dict_keyiterator",data:=.fields #[.ref d,.int 0 0,.int kvs.length 0,.int ep 0] }).get? b=some o:=λb o e=>h _ _ (O b o e);generalize(h2.push { cls:=.type "dict_keyiterator",data:=.fields #[.ref d,.int 0 0,.int kvs.length 0,.int ep 0] })=h3 at j u S m;refine f8 (f8 (a2X j rfl ?_));have p:=a0R (Obj.mapSeq (λx:Array Value=>x.push Value.none)) j rfl;refine a2X p rfl ?_;have F:=a0R (Obj.mapSeq (λx:Array Value=>x.pop)) p rfl;have M:∀b o,b≠s.heap.objs.size->h3.get? b=some o->((h3.update s.heap.objs.size (Obj.mapSeq λx=>x.push Value.none)).update s.heap.objs.size (Obj.mapSeq λx=>x.pop)).get? b=some o:=λb o R e=>
  (a0q _ _ (Ne.symm R)).trans ((a0q _ _ (Ne.symm R)).trans e)
 have G:=m.at' (h':=((h3.update s.heap.objs.size (Obj.mapSeq λx=>x.push Value.none)).update s.heap.objs.size (Obj.mapSeq λx=>x.pop))) λo e=>M _ _ (Ne.symm f) e;have q:=M _ _ (a1e L) u;have U:∀b o,s.heap.get? b=some o->((h3.update s.heap.objs.size (Obj.mapSeq λx=>x.push Value.none)).update s.heap.objs.size (Obj.mapSeq λx=>x.pop)).get? b=some o:=λb o e=>M b o (a0e (T1 e)) (S b o e);generalize((h3.update s.heap.objs.size (Obj.mapSeq λx=>x.push Value.none)).update s.heap.objs.size (Obj.mapSeq λx=>x.pop))=h5 at F G q U;refine S8 ⟨a3h PySem.F.plain_extend_loop _,codeAny_extend_loopS (Walks.dictKeys (knd:=knd) (A:=A.in1.in1) hh h2.objs.size d Z kvs ep).toS hn s.heap.objs.size (by simp;exact⟨a0e L,f⟩) _ kvs.length 0 _ _ _ rfl (a0y _) (show _/\_ from⟨⟨_,q,rfl,rfl⟩,G⟩) F (ItemsOf.nil _) λr c N n P D=>?_⟩;rw[Moved.eq_with n];refine⟨rfl,hQ r.heap r.toks c N (λb o e=>n.heap b o (λC=>?_) (U b o e)) P D⟩;have:=T1 e;rcases a0f.mp C with e'|hm
 .exact a0e this e'
 .exact a0e (a2c this L) (a0j.mp hm)
end
section
variable {X:Cx}
def Ew:List V->Hp->VK->Prop:=λc H Q=>∃p a,c=[.ref p]/\Rd H p (.dK a)/\∀l,H l=none->Q (.ref l) (upd H l (.lst (a.map λb=>kV b.1)))
def si(E:X.calm=true):Yj X (.type "list") Ew:=by
 intro d s U H xs us Q I r h;obtain⟨p,T,rfl,A,q⟩:=h;obtain⟨u,rfl,B⟩:=vals1 r;cases B;obtain⟨z,K,c,a,o,M,b,S,J,O,L,D,P⟩:=Kc I.hok A;have n:c.length=T.length:=a.length.symm;refine Gw (knd:=yJ X.prog X.w) (kvs:=c) (ep:=b) (I.ok.hd E) K ⟨o,M,S,J,O,L,D,P⟩ (by rw[n];exact z) λZ g m W w N e=>?_;refine CC (s:=s) (tk:=g) I (S7 _) w N ?_ ?_ ?_ q
 .rw[v4];exact z
 .rw[v4,e.1,n]
 .intro j x v l R;obtain⟨k,y,f,F⟩:=e.2 j v R;rw[a0k]at l;obtain⟨i,C,rfl⟩:=u8.mp l;obtain⟨Y,G⟩:=LW a (k:=i.1) (v:=i.2) C;rw[G]at f;cases f;exact xt F
end
def kM:List PV->Out PV
 |[.l a]=>.ok (.l a)
 |[.t a]=>.ok (.l a)
 |[.sc a]=>.ok (.l (a.map PV.i))
 |[.d b]=>.ok (.l (b.map λc=>kP c.1))
 |_=>.wall
def oV{W:RC}{M:Sr}{H:Hp}:∀{a:SN}{c:SE},jX W M H a c->yq W M H (a.map λb=>kP b.1) (c.map λf=>kV f.1)
 |[],_,h=>by cases(show _=_ from h);rfl
 |b::r,_,⟨v,q,e,g,d⟩=>by subst e;exact⟨_,_,rfl,LX _,oV d⟩
def CJ(L:LfF W r F7):LfF W (λa H Q=>r a H Q\/Ew a H Q) kM:=λM C B H f a Q n h q=>by
 unfold kM at q;split at q
 .exact .inl (L M C B H _ a Q n h q)
 .exact .inl (L M C B H _ a Q n h q)
 .exact .inl (L M C B H _ a Q n h q)
 .obtain⟨v,r,rfl,⟨p,e,rfl,_,b,c⟩,d⟩:=h;cases(show _=_ from d);exact .inr ⟨p,e,rfl,b,λl b=>q _ _ (zA.upd b) (Kf (oV c) b)⟩
 .exact q.elim
def vF(f:X.calm=true)(b:Gl X "list")(a:X.mg "list"=none)(c:AM X C S ws [e] ms)(he:starEach [e] X.env=[(false,eval e X.env)]:=by rfl):FM X C S (.Call (.Name "list" p) [e] [] pos) (zh kM ms):=
 oH (λd=>d▸gK.or (si f)) (CJ F9) b a PyProof.Rows.boot_list c (he:=he)
inductive HV where
 |v (x:PV)|g (k:Nat)|t (xs:List HV)
inductive Cell where
 |l (xs:List HV)|d (kvs:List (Key×HV))|z (kvs:List (Key×HV))|o (c:Nat) (fs:List (Str×HV))|y (b:Bool)|m (l c:Nat) (q:Str)
abbrev AH:=List Cell
abbrev YB:=List (Option HV)
structure HC where
 W:RC
 H0:Hp
 M0:Addr->Prop
def HM(Z:HC)(A:SA)(n:Nat):Addr->Prop:=λa=>(Z.M0 a\/Z.H0 a=none)/\∀k,k<n->A k≠a
mutual
def ZD(W:RC)(M:Sr)(A:SA)(n:Nat)(H:Hp):HV->V->Prop
 |.v x,v=>Rep W M H x v
 |.g k,v=>k<n/\v=.ref (A k)
 |.t b,v=>∃p a,v=.ref p/\SqT W.K H p a/\qZ W M A n H b a
def qZ(W:RC)(M:Sr)(A:SA)(n:Nat)(H:Hp):List HV->List V->Prop
 |[],a=>a=[]
 |x::b,a=>∃v r,a=v::r/\ZD W M A n H x v/\qZ W M A n H b r
end
def q_{c:Type}(R:HV->V->Prop):List (c×HV)->List (c×V)->Prop
 |[],a=>a=[]
 |b::r,a=>∃v q,a=(b.1,v)::q/\R b.2 v/\q_ R r q
section
variable {W:RC}{M M':Sr}{A A':SA}{n n':Nat}{H H':Hp}
mutual
def ZD.gen(f:Fr M H H')(s:∀a,M a->H a≠none->M' a)(c:n<=n')(b:∀k,k<n->A' k=A k):∀{x:HV}{v:V},ZD W M A n H x v->ZD W M' A' n' H' x v
 |.v x,v,h=>Rep.gen f s h
 |.g k,v,h=>⟨T8 h.1 c,by rw[b k h.1];exact h.2⟩
 |.t g,v,h=>by unfold ZD at h ⊢;obtain⟨p,d,e,r,q⟩:=h;exact⟨p,d,e,f.sqT r,qZ.gen f s c b q⟩
def qZ.gen(f:Fr M H H')(s:∀a,M a->H a≠none->M' a)(c:n<=n')(b:∀k,k<n->A' k=A k):∀{x:List HV}{v:Sx},qZ W M A n H x v->qZ W M' A' n' H' x v
 |[],v,h=>h
 |x::i,j,h=>by unfold qZ at h ⊢;obtain⟨v,r,e,d,g⟩:=h;exact⟨v,r,e,ZD.gen f s c b d,qZ.gen f s c b g⟩
end
def q_.imp{g:Type}{R d:HV->V->Prop}(h:∀x v,R x v->d x v):∀{c:List (g×HV)}{f:List (g×V)},q_ R c f->q_ d c f
 |[],_,q=>q
 |_::_,_,⟨v,q,e,a,b⟩=>⟨v,q,e,h _ _ a,q_.imp h b⟩
def Mde(l c:Nat)(q:Str)(H:Hp)(e:Td):Prop:=∃a b d t,e = #[rawInt l,rawInt c,.ref a]/\H a=some (.frz b (.own a))/\b.data=.fields d/\d[1]?=some (.str q t)
def Mde.gen(f:Fr M H H'):Mde l c q H ps->Mde l c q H' ps:=λ⟨a,d,b,t,e,h,r⟩=>⟨a,d,b,t,e,f _ _ h (.inr trivial),r⟩
def mL(W:RC)(M:Sr)(A:SA)(n:Nat)(H:Hp)(p:Addr):Cell->Prop
 |.l h=>∃f,H p=some (.lst f)/\qZ W M A n H h f
 |.d d=>∃a,H p=some (.dK a)/\q_ (ZD W M A n H) d a
 |.z d=>∃o a,H p=some (.frz o (.dK a))/\q_ (ZD W M A n H) d a
 |.o c fs=>∃g a,H p=some (.ins (W.cls c) g a)/\q_ (ZD W M A n H) fs a
 |.y b=>p=W.cls 1000/\∃e,H p=some (.tbl e)/\(b=true->e = #[])
 |.m l c q=>p=W.cls 1000/\∃e,H p=some (.tbl e)/\Mde l c q H e
def mL.gen{p:Addr}(hp:H' p=H p)(f:Fr M H H')(s:∀a,M a->H a≠none->M' a)(g:n<=n')(d:∀k,k<n->A' k=A k):∀{c:Cell},mL W M A n H p c->mL W M' A' n' H' p c
 |.l _,⟨l,e,q⟩=>⟨l,hp.trans e,q.gen f s g d⟩
 |.d _,⟨b,e,q⟩=>⟨b,hp.trans e,q.imp λ_ _=>ZD.gen f s g d⟩
 |.z _,⟨o,b,e,q⟩=>⟨o,b,hp.trans e,q.imp λ_ _=>ZD.gen f s g d⟩
 |.o _ _,⟨j,b,e,q⟩=>⟨j,b,hp.trans e,q.imp λ_ _=>ZD.gen f s g d⟩
 |.y _,⟨i,h,e,q⟩=>⟨i,h,hp.trans e,q⟩
 |.m _ _ _,⟨i,h,e,q⟩=>⟨i,h,hp.trans e,q.gen f⟩
def mL.ob{p:Addr}:∀{c:Cell},mL W M A n H p c->∃o,H p=some o
 |.l _,⟨_,e,_⟩=>⟨_,e⟩
 |.d _,⟨_,e,_⟩=>⟨_,e⟩
 |.z _,⟨_,_,e,_⟩=>⟨_,e⟩
 |.o _ _,⟨_,_,e,_⟩=>⟨_,e⟩
 |.y _,⟨_,_,e,_⟩=>⟨_,e⟩
 |.m _ _ _,⟨_,_,e,_⟩=>⟨_,e⟩
end
structure Gro(Z:HC)(A:SA)(n:Nat)(H:Hp)(A':SA)(n':Nat)(H':Hp):Prop where
 le:n<=n'
 agr:∀k,k<n->A' k=A k
 fresh:∀k,n<=k->k<n'->H (A' k)=none
 fr:Fr (HM Z A n) H H'
 dom:∀a,H' a=none->H a=none
structure HH(Z:HC)(A:SA)(H:Hp)(G:AH):Prop where
 same:zA Z.H0 H
 cell:∀(k:Nat) c,G[k]?=some c->mL Z.W (HM Z A G.length) A G.length H (A k) c
 inj:∀j k,j<G.length->k<G.length->A j=A k->j=k
 own:∀k,k<G.length->Z.H0 (A k)=none
structure HR(Z:HC)(A:SA)(H:Hp)(σ:St)(ρ:YB)(G:AH):Prop extends HH Z A H G where
 len:σ.length=ρ.length
 var:∀(i:Nat) x,ρ[i]?=some (some x)->∃v,σ[i]?=some (some v)/\ZD Z.W (HM Z A G.length) A G.length H x v
section
variable {Z:HC}{A A' A'':SA}{n n' n'':Nat}{H H' H'':Hp}{G G':AH}{σ:St}{ρ:YB}
def Gro.sM(g:Gro Z A n H A' n' H'):∀a,HM Z A n a->H a≠none->HM Z A' n' a:=λa m h=>⟨m.1,λk b e=>by
 by_cases c:k<n
 .exact m.2 k c (by rw[<- g.agr k c];exact e)
 .exact h (e▸g.fresh k (by omega) b)⟩
def Gro.same(s:zA H H'):Gro Z A n H A n H':=⟨S7 _,λ_ _=>rfl,λk a b=>absurd b (by omega),s.fr,λa h=>zA.none s h⟩
def Gro.refl:Gro Z A n H A n H:=Gro.same (zA.refl _)
def Gro.trans(g:Gro Z A n H A' n' H')(k:Gro Z A' n' H' A'' n'' H''):Gro Z A n H A'' n'' H'':=by
 refine⟨a0o g.le k.le,λj b=>(k.agr j (T8 b g.le)).trans (g.agr j b),λj d e=>?_,λa o h m=>?_,λa h=>g.dom a (k.dom a h)⟩
 .by_cases c:j<n'
  .rw[k.agr j c];exact g.fresh j d c
  .exact g.dom _ (k.fresh j (by omega) e)
 .refine k.fr a o (g.fr a o h m) (m.imp (λm=>g.sM a m (by rw[h];exact λz=>by cases z)) id)
def ZD.gro(g:Gro Z A n H A' n' H')(h:ZD W (HM Z A n) A n H x v):ZD W (HM Z A' n') A' n' H' x v:=h.gen g.fr g.sM g.le g.agr
def qZ.gro(g:Gro Z A n H A' n' H')(h:qZ W (HM Z A n) A n H x v):qZ W (HM Z A' n') A' n' H' x v:=h.gen g.fr g.sM g.le g.agr
def HR.gro(R:HR Z A H σ ρ G)(h:HH Z A' H' G')(g:Gro Z A G.length H A' G'.length H'):HR Z A' H' σ ρ G':=
 ⟨h,R.len,λi x e=>let⟨v,h1,h2⟩:=R.var i x e;⟨v,h1,h2.gro g⟩⟩
def HH.ob(h:HH Z A H G)(a:k<G.length):∃o,H (A k)=some o:=(h.cell k _ (T4 a)).ob
def HH.keep(h:HH Z A H G)(s:zA H H'):HH Z A H' G:=⟨h.same.trans s,λk c e=>by
 have q:=h.cell k c e;obtain⟨o,a⟩:=q.ob;exact q.gen ((s _ _ a).trans a.symm) s.fr (λ_ m _=>m) (S7 _) λ_ _=>rfl,h.inj,h.own⟩
def HH.new(h:HH Z A H G):New (HM Z A G.length) H:=λp hp=>⟨.inr (zA.none h.same hp),λk b e=>by
 obtain⟨o,a⟩:=h.ob b;rw[e,hp]at a;cases a⟩
def HR.keep(R:HR Z A H σ ρ G)(s:zA H H'):HR Z A H' σ ρ G:=R.gro (R.toHH.keep s) (Gro.same s)
def exA(A:SA)(n:Nat)(p:Addr):Nat->Addr:=λk=>if k=n then p else A k
def aw:exA A n p n=p:=if_pos rfl
def Xk(h:k<n):exA A n p k=A k:=if_neg (by omega)
def Gro.ext(s:zA H H')(hp:H p=none):Gro Z A n H (exA A n p) (n+1) H':=
 ⟨a03 _,λk b=>Xk b,λk c d=>by rw[show k=n by omega,aw];exact hp,s.fr,λa h=>zA.none s h⟩
def HH.alloc(h:HH Z A H G)(s:zA H H')(hp:H p=none)(v:mL Z.W (HM Z (exA A G.length p) (G.length+1)) (exA A G.length p) (G.length+1) H' p c):HH Z (exA A G.length p) H' (G++[c]):=by
 have g:Gro Z A G.length H (exA A G.length p) (G.length+1) H':=Gro.ext s hp;have l:(G++[c]).length=G.length+1:=by simp
 have m:∀k,k<G.length->A k≠p:=λk a e=>by obtain⟨o,b⟩:=h.ob a;rw[e,hp]at b;cases b
 refine⟨h.same.trans s,λk d e=>?_,λj k r a e=>?_,λk a=>?_⟩
 .rw[l];by_cases a:k<G.length
  .rw[a0r a]at e;have q:=h.cell k d e;obtain⟨o,b⟩:=q.ob;rw[Xk a];exact q.gen ((s _ _ b).trans b.symm) g.fr g.sM g.le g.agr
  .have w:=(T9.mp e).1;have u:k=G.length:=by omega
   subst u;rw[a00 (S7 _),a2L]at e;cases e;rw[aw];exact v
 .rw[l]at r a;by_cases f:j=G.length
  .by_cases i:k=G.length
   .rw[f,i]
   .rw[f,aw,Xk (by omega)]at e;exact absurd e.symm (m k (by omega))
  .by_cases i:k=G.length
   .rw[i,aw,Xk (by omega)]at e;exact absurd e (m j (by omega))
   .rw[Xk (by omega),Xk (by omega)]at e;exact h.inj j k (by omega) (by omega) e
 .rw[l]at a;by_cases f:k=G.length
  .rw[f,aw];exact zA.none h.same hp
  .rw[Xk (by omega)];exact h.own k (by omega)
def HH.frw(h:HH Z A H G)(c:k<G.length)(f:H (A k)=Option.some o0)(d:¬Imm o0):Gro Z A G.length H A G.length (upd H (A k) o):=by
 refine⟨S7 _,λ_ _=>rfl,λk a b=>absurd b (by omega),λa q e m=>?_,λa e=>?_⟩
 .have:a≠A k:=λz=>by
   rcases m with m|m
   .exact m.2 k c z.symm
   .rw[z,f]at e;cases e;exact d m
  rw[zi this];exact e
 .by_cases z:a=A k
  .rw[z,zg]at e;cases e
  .rw[zi z]at e;exact e
def HH.write(h:HH Z A H G)(f:k<G.length)(r:H (A k)=Option.some o0)(p:¬Imm o0)(u:mL Z.W (HM Z A G.length) A G.length (upd H (A k) o) (A k) c):HH Z A (upd H (A k) o) (G.set k c):=by
 have g:=h.frw (o:=o) f r p;have l:(G.set k c).length=G.length:=a0v ..;refine⟨λa q e=>?_,λj d e=>?_,λi j s b=>h.inj i j (l▸s) (l▸b),λj b=>h.own j (l▸b)⟩
 .have:a≠A k:=λz=>by rw[z,h.own k f]at e;cases e
  rw[zi this];exact h.same a q e
 .rw[l];by_cases b:k=j
  .subst b;rw[a0l f]at e;cases e;exact u
  .rw[a0g b]at e;have m:=(T9.mp e).1;exact(h.cell j d e).gen (zi λz=>b (h.inj j k m f z).symm) g.fr g.sM g.le g.agr
def HR.set(R:HR Z A H σ ρ G)(c:ZD Z.W (HM Z A G.length) A G.length H x v):HR Z A H (σ.set i (Option.some v)) (ρ.set i (Option.some x)) G:=by
 refine⟨R.toHH,by rw[a0v,a0v];exact R.len,λj y e=>?_⟩;by_cases a:i=j
 .subst a;have b:i<ρ.length:=by
   have:=(T9.mp e).1
   rwa [a0v]at this
  rw[a0l b]at e;cases e;exact⟨v,by rw[a0l (by rw[R.len];exact b)],c⟩
 .rw[a0g a]at e ⊢;exact R.var j y e
end
inductive HX(α:Type)where
 |ok (a:α) (G:AH)|exc (c:Nat) (fs:SO) (G:AH)|wall
def HX.bind{d b:Type}:HX d->(d->AH->HX b)->HX b
 |.ok a G,f=>f a G
 |.exc c fs G,_=>.exc c fs G
 |.wall,_=>.wall
def Ex(Z:HC)(E:XK)(A:SA)(n:Nat)(H:Hp)(c:Nat)(fs:SO)(G':AH):Prop:=∀d a e b f,HH Z d a G'->Gro Z A n H d G'.length a->a e=some (XC e (Z.W.cls c) b)->a b=some (XD b f)->vx Z.W (HM Z d G'.length) a fs f->E (.ref e) (some b) a
def HPx{e:Type}(Z:HC)(E:XK)(A:SA)(n:Nat)(H:Hp)(K:e->(Nat->Addr)->Hp->AH->Prop):HX e->Prop
 |.ok x a=>∀d b,HH Z d b a->Gro Z A n H d a.length b->K x d b a
 |.exc c fs a=>Ex Z E A n H c fs a
 |.wall=>False
section
variable {α β:Type}{K:β->(Nat->Addr)->Hp->AH->Prop}{K':α->(Nat->Addr)->Hp->AH->Prop}
def Ex.gro(h:Ex Z E A n H c fs G)(g:Gro Z A n H A' n' H'):Ex Z E A' n' H' c fs G:=λa f e b j i d=>h a f e b j i (g.trans d)
def HPx.gro{o:HX β}(h:HPx Z E A n H K o)(g:Gro Z A n H A' n' H'):HPx Z E A' n' H' K o:=by
 cases o with
 |ok x f=>exact λa d e b=>h a d e (g.trans b)
 |exc c fs f=>exact Ex.gro h g
 |wall=>exact h
def HPx.bind{o:HX α}{f:α->AH->HX β}(h:HPx Z E A n H K (o.bind f))(k:∀x b d a,HH Z b d a->Gro Z A n H b a.length d->HPx Z E b a.length d K (f x a)->K' x b d a):HPx Z E A n H K' o:=by
 cases o with
 |ok x a=>exact λg i j e=>k x g i a j e (HPx.gro (o:=f x a) h e)
 |exc c fs a=>exact h
 |wall=>exact h
end
abbrev HME:=YB->AH->HX HV
abbrev HMT:=YB->AH->HX Bool
abbrev HMA:=YB->AH->HX (List HV)
def KV'(Z:HC)(Q:VK):HV->(Nat->Addr)->Hp->AH->Prop:=λx a b c=>∀v,ZD Z.W (HM Z a c.length) a c.length b x v->Q v b
def KT'(Q:Bool->Hp->Prop):Bool->(Nat->Addr)->Hp->AH->Prop:=λb _ a _=>Q b a
def KA'(Z:HC)(Q:List V->Hp->Prop):List HV->(Nat->Addr)->Hp->AH->Prop:=λe b c d=>∀a,qZ Z.W (HM Z b d.length) b d.length c e a->Q a c
def HE(X:Cx)(W:RC)(E:XK)(e:Sy)(m:HME):Prop:=X.K=W.K->∃c,PE X e c/\∀(Z:HC),Z.W=W->∀A H b a G,HR Z A H b a G->∀Q,HPx Z E A G.length H (KV' Z Q) (m a G)->c b H Q
def HT(X:Cx)(W:RC)(E:XK)(e:Sy)(m:HMT):Prop:=X.K=W.K->∃c,PT X e c/\∀(Z:HC),Z.W=W->∀A H b a G,HR Z A H b a G->∀Q,HPx Z E A G.length H (KT' Q) (m a G)->c b H Q
def HA(X:Cx)(W:RC)(E:XK)(es:Sw)(m:HMA):Prop:=X.K=W.K->∃c,PA X es c/\∀(Z:HC),Z.W=W->∀A H b a G,HR Z A H b a G->∀Q,HPx Z E A G.length H (KA' Z Q) (m a G)->c b H Q
mutual
def imm:PV->Bool
 |.i _=>true | .s _=>true | .b _=>true | .n=>true
 |.t a=>Bx a
 |.l _=>false | .d _=>false | .o _ _=>false | .x _ _=>false | .sc _=>false | .dt _=>false
def Bx:List PV->Bool
 |[]=>true
 |x::a=>imm x&&Bx a
end
def Ey:List (Str×PV)->Bool
 |[]=>true
 |x::a=>imm x.2&&Ey a
section
variable {W:RC}{M M':Sr}{H:Hp}
mutual
def ax:∀{x:PV}{v:V},imm x=true->Rep W M H x v->Rep W M' H x v
 |.i _,_,_,h=>h
 |.s _,_,_,h=>h
 |.b _,_,_,h=>h
 |.n,_,_,h=>h
 |.t c,_,e,h=>by unfold Rep at h ⊢;unfold imm at e;obtain⟨p,b,a,r,q⟩:=h;exact⟨p,b,a,r,eR e q⟩
 |.l _,_,e,_=>by unfold imm at e;cases e
 |.d _,_,e,_=>by unfold imm at e;cases e
 |.o _ _,_,e,_=>by unfold imm at e;cases e
 |.x _ _,_,e,_=>by unfold imm at e;cases e
 |.sc _,_,e,_=>by unfold imm at e;cases e
 |.dt _,_,e,_=>by unfold imm at e;cases e
def eR:∀{x:SH}{v:Sx},Bx x=true->yq W M H x v->yq W M' H x v
 |[],_,_,h=>h
 |x::d,_,e,h=>by unfold Bx at e;simp only[Bool.and_eq_true]at e;obtain⟨v,r,b,a,c⟩:=h;exact⟨v,r,b,ax e.1 a,eR e.2 c⟩
end
def JV:∀{x:SO}{v:SW},Ey x=true->vx W M H x v->vx W M' H x v
 |[],_,_,h=>h
 |x::d,_,e,h=>by unfold Ey at e;simp only[Bool.and_eq_true]at e;obtain⟨v,r,b,a,c⟩:=h;exact⟨v,r,b,ax e.1 a,JV e.2 c⟩
def Ub:List Bool->YB->Option Sto
 |_,[]=>some []
 |[],_::a=>(Ub [] a).map (none::·)
 |false::bs,_::a=>(Ub bs a).map (none::·)
 |true::bs,some (.v x)::a=>(Ub bs a).map (some x::·)
 |true::_,_=>none
def eS(f:HV->Option PV):List HV->Option (List PV)
 |[]=>some []
 |x::a=>(f x).bind λy=>(eS f a).map (y::·)
def sj{a:Type}(f:HV->Option PV):List (a×HV)->Option (List (a×PV))
 |[]=>some []
 |x::b=>(f x.2).bind λy=>(sj f b).map ((x.1,y)::·)
def vG(G:AH):Nat->HV->Option PV
 |0,_=>none
 |_+1,.v x=>some x
 |n+1,.t b=>(eS (vG G n) b).map .t
 |n+1,.g k=>match G[k]? with
  |some (.l b)=>(eS (vG G n) b).map .l
  |some (.d a)=>(sj (vG G n) a).map .d
  |some (.z a)=>(sj (vG G n) a).map .d
  |some (.o c fs)=>(sj (vG G n) fs).map (.o c)
  |_=>none
def Ve(G:AH):List Bool->YB->Option Sto
 |_,[]=>some []
 |[],_::a=>(Ve G [] a).map (none::·)
 |false::bs,_::a=>(Ve G bs a).map (none::·)
 |true::bs,some x::a=>(vG G 8 x).bind λy=>(Ve G bs a).map (some y::·)
 |true::_,none::_=>none
def YC{f:HV->Option PV}{N:Sr}(hf:∀x v y,ZD W M A n H x v->f x=some y->Rep W N H y v):∀{b:List HV}{c:Sx}{a:SH},qZ W M A n H b c->eS f b=some a->yq W N H a c
 |[],_,_,h,e=>by cases e;exact h
 |x::b,_,a,h,e=>by obtain⟨v,r,rfl,d,j⟩:=h;unfold eS at e;obtain⟨y,i,e⟩:=a0d.mp e;obtain⟨l,g,rfl⟩:=u8.mp e;exact⟨v,r,rfl,hf _ _ _ d i,YC hf j g⟩
def JW{f:HV->Option PV}{N:Sr}(hf:∀x v y,ZD W M A n H x v->f x=some y->Rep W N H y v):∀{b:List (Key×HV)}{c:SE}{a:SN},q_ (ZD W M A n H) b c->sj f b=some a->jX W N H a c
 |[],_,_,h,e=>by cases e;exact h
 |x::b,_,a,h,e=>by obtain⟨v,r,rfl,d,j⟩:=h;unfold sj at e;obtain⟨y,i,e⟩:=a0d.mp e;obtain⟨l,g,rfl⟩:=u8.mp e;exact⟨v,r,rfl,hf _ _ _ d i,JW hf j g⟩
def eU{f:HV->Option PV}{N:Sr}(hf:∀x v y,ZD W M A n H x v->f x=some y->Rep W N H y v):∀{b:List (Str×HV)}{c:SW}{a:SO},q_ (ZD W M A n H) b c->sj f b=some a->vx W N H a c
 |[],_,_,h,e=>by cases e;exact h
 |x::b,_,a,h,e=>by obtain⟨v,r,rfl,d,j⟩:=h;unfold sj at e;obtain⟨y,i,e⟩:=a0d.mp e;obtain⟨l,g,rfl⟩:=u8.mp e;exact⟨v,r,rfl,hf _ _ _ d i,eU hf j g⟩
end
section
variable {Z:HC}{A:SA}{H:Hp}{G:AH}{σ:St}{ρ:YB}
def WL(h:HH Z A H G):∀(n:Nat)(x:HV)(v:V)(y:PV),ZD Z.W (HM Z A G.length) A G.length H x v->vG G n x=some y->Rep Z.W (λ_=>True) H y v
 |0,_,_,_,_,e=>by cases e
 |n+1,.v x,v,y,r,e=>by cases e;exact Rep.sub r λ_ _ _=>trivial
 |n+1,.t i,v,y,r,e=>by unfold vG at e;obtain⟨g,a,rfl⟩:=u8.mp e;unfold ZD at r;obtain⟨p,b,rfl,s,q⟩:=r;exact⟨p,b,rfl,s,YC (WL h n) q a⟩
 |n+1,.g k,v,y,r,e=>by
  obtain⟨l,rfl⟩:=r;unfold vG at e;split at e
  .rename_i i f;obtain⟨g,a,rfl⟩:=u8.mp e;obtain⟨b,d,q⟩:=h.cell k _ f;exact⟨A k,b,rfl,trivial,d,YC (WL h n) q a⟩
  .rename_i i f;obtain⟨g,a,rfl⟩:=u8.mp e;obtain⟨b,d,q⟩:=h.cell k _ f;exact⟨A k,b,rfl,trivial,.inl d,JW (WL h n) q a⟩
  .rename_i i f;obtain⟨g,a,rfl⟩:=u8.mp e;obtain⟨o,b,d,q⟩:=h.cell k _ f;exact⟨A k,b,rfl,trivial,.inr ⟨o,d⟩,JW (WL h n) q a⟩
  .rename_i c i f;obtain⟨g,a,rfl⟩:=u8.mp e;obtain⟨j,b,d,q⟩:=h.cell k _ f;exact⟨A k,j,b,rfl,trivial,d,eU (WL h n) q a⟩
  .cases e
def VE:∀{bs:Su}{ρ:YB}{r:Sto}{i:Nat}{x:PV},Ub bs ρ=some r->r[i]?=some (some x)->ρ[i]?=some (some (.v x))
 |_,[],r,i,x,e,h=>by unfold Ub at e;cases e;simp at h
 |[],_::ρ,r,i,x,e,h=>by
  unfold Ub at e;obtain⟨b,a,rfl⟩:=u8.mp e;cases i with
  |zero=>cases h
  |succ i=>rw[a0p]at h ⊢;exact VE a h
 |false::bs,_::ρ,r,i,x,e,h=>by
  unfold Ub at e;obtain⟨b,a,rfl⟩:=u8.mp e;cases i with
  |zero=>cases h
  |succ i=>rw[a0p]at h ⊢;exact VE a h
 |true::bs,some (.v y)::ρ,r,i,x,e,h=>by
  unfold Ub at e;obtain⟨b,a,rfl⟩:=u8.mp e;cases i with
  |zero=>cases h;rfl
  |succ i=>rw[a0p]at h ⊢;exact VE a h
 |true::bs,none::ρ,r,i,x,e,h=>by cases e
 |true::bs,some (.g _)::ρ,r,i,x,e,h=>by cases e
 |true::bs,some (.t _)::ρ,r,i,x,e,h=>by cases e
def VF:∀{bs:Su}{ρ:YB}{r:Sto},Ub bs ρ=some r->r.length=ρ.length
 |_,[],r,e=>by unfold Ub at e;cases e;rfl
 |[],_::ρ,r,e=>by unfold Ub at e;obtain⟨b,a,rfl⟩:=u8.mp e;rw[S0,S0,VF a]
 |false::bs,_::ρ,r,e=>by unfold Ub at e;obtain⟨b,a,rfl⟩:=u8.mp e;rw[S0,S0,VF a]
 |true::bs,some (.v y)::ρ,r,e=>by unfold Ub at e;obtain⟨b,a,rfl⟩:=u8.mp e;rw[S0,S0,VF a]
 |true::bs,none::ρ,r,e=>by cases e
 |true::bs,some (.g _)::ρ,r,e=>by cases e
 |true::bs,some (.t _)::ρ,r,e=>by cases e
def UE:∀{bs:Su}{ρ:YB}{r:Sto}{i:Nat}{x:PV},Ve G bs ρ=some r->r[i]?=some (some x)->∃y,ρ[i]?=some (some y)/\vG G 8 y=some x
 |_,[],r,i,x,e,h=>by unfold Ve at e;cases e;simp at h
 |[],_::ρ,r,i,x,e,h=>by
  unfold Ve at e;obtain⟨b,a,rfl⟩:=u8.mp e;cases i with
  |zero=>cases h
  |succ i=>rw[a0p]at h ⊢;exact UE a h
 |false::bs,_::ρ,r,i,x,e,h=>by
  unfold Ve at e;obtain⟨b,a,rfl⟩:=u8.mp e;cases i with
  |zero=>cases h
  |succ i=>rw[a0p]at h ⊢;exact UE a h
 |true::bs,some y::ρ,r,i,x,e,h=>by
  unfold Ve at e;obtain⟨z,c,e⟩:=a0d.mp e;obtain⟨b,a,rfl⟩:=u8.mp e;cases i with
  |zero=>cases h;exact⟨y,rfl,c⟩
  |succ i=>rw[a0p]at h ⊢;exact UE a h
 |true::bs,none::ρ,r,i,x,e,h=>by cases e
def UG:∀{bs:Su}{ρ:YB}{r:Sto},Ve G bs ρ=some r->r.length=ρ.length
 |_,[],r,e=>by unfold Ve at e;cases e;rfl
 |[],_::ρ,r,e=>by unfold Ve at e;obtain⟨b,a,rfl⟩:=u8.mp e;rw[S0,S0,UG a]
 |false::bs,_::ρ,r,e=>by unfold Ve at e;obtain⟨b,a,rfl⟩:=u8.mp e;rw[S0,S0,UG a]
 |true::bs,some y::ρ,r,e=>by unfold Ve at e;obtain⟨z,c,e⟩:=a0d.mp e;obtain⟨b,a,rfl⟩:=u8.mp e;rw[S0,S0,UG a]
 |true::bs,none::ρ,r,e=>by cases e
def LZ{S:So}(a:S.all (·==0)=true){i c:Nat}(h:S[i]?=some c):c=0:=by have:=a1o.mp a c (a1H h);simpa using this
def L6(n:σ.length=r.length)(d:S.all (·==0)=true)(o:∀(i:Nat) x,r[i]?=some (some x)->∃v,σ[i]?=some (some v)/\Rep Z.W M H x v):Rel Z.W (xj H M) S (λ_=>0) H σ r:=by
 have c:∀{k:Nat},S[k]?=some 2->False:=λ{k} h=>by have:=LZ d h;omega
 have f:∀{k:Nat},S[k]?=some 1->False:=λ{k} h=>by have:=LZ d h;omega
 refine⟨zA.refl _,n,λi x e=>?_,λi b=>(c b).elim,λi j b=>(c b).elim,λb=>(c b).elim,λa h=>h.elim,λi b=>(c b).elim⟩;obtain⟨v,g,l⟩:=o i x e;exact⟨v,g,λz=>(c z).elim,λz=>(f z).elim,λ_ _=>l.sub λa m _=>⟨⟨.inl m,id⟩,λi b=>(c b).elim⟩⟩
def Gx(R:HR Z A H σ ρ G)(e:Ub bs ρ=some r)(a:S.all (·==0)=true):Rel Z.W (xj H (HM Z A G.length)) S (λ_=>0) H σ r:=
 L6 (R.len.trans (VF e).symm) a λi x h=>R.var i _ (VE e h)
def CK(R:HR Z A H σ ρ G)(e:Ve G bs ρ=some r)(a:S.all (·==0)=true):Rel Z.W (xj H λ_=>True) S (λ_=>0) H σ r:=
 L6 (R.len.trans (UG e).symm) a λi x h=>by obtain⟨y,b,c⟩:=UE e h;obtain⟨v,d,f⟩:=R.var i y b;exact⟨v,d,WL R.toHH _ _ _ _ f c⟩
def Gy(h:HH Z A H G):∀a,Mof (xj H (HM Z A G.length)) S P a->HM Z A G.length a:=λa m=>m.1.1.elim id λn=>h.new a n
end
def hP(bs:Su)(m:ME):HME:=λa G=>match Ub bs a with
 |some r=>match m r with
  |.ok x=>.ok (.v x) G
  |.exc c fs=>.exc c fs G
  |.wall=>.wall
 |none=>match Ve G bs a with
  |some r=>match m r with
   |.ok x=>if imm x=true then .ok (.v x) G else .wall
   |.exc c fs=>if Ey fs=true then .exc c fs G else .wall
   |.wall=>.wall
  |none=>.wall
def hPT(bs:Su)(m:MT):HMT:=λa G=>match Ub bs a with
 |some r=>match m r with
  |.ok x=>.ok x G
  |.exc c fs=>.exc c fs G
  |.wall=>.wall
 |none=>match Ve G bs a with
  |some r=>match m r with
   |.ok x=>.ok x G
   |.exc c fs=>if Ey fs=true then .exc c fs G else .wall
   |.wall=>.wall
  |none=>.wall
def vK{a:Type}(xs:List (a×PV)):List (a×HV):=xs.map λp=>(p.1,.v p.2)
def xD:PV->Option Cell
 |.l b=>some (.l (b.map .v))
 |.d a=>some (.d (vK a))
 |.o c fs=>some (.o c (vK fs))
 |_=>none
def NT:PV->Bool
 |.l b=>Bx b
 |.d a=>Bx (a.map (·.2))
 |.o _ fs=>Ey fs
 |_=>false
def hF(bs:Su)(m:ME):HME:=λa G=>match Ub bs a with
 |some r=>match m r with
  |.ok x=>match xD x with
   |some c=>.ok (.g G.length) (G++[c])
   |none=>.wall
  |.exc c fs=>.exc c fs G
  |.wall=>.wall
 |none=>match Ve G bs a with
  |some r=>match m r with
   |.ok x=>if NT x=true then match xD x with
    |some c=>.ok (.g G.length) (G++[c])
    |none=>.wall else .wall
   |.exc c fs=>if Ey fs=true then .exc c fs G else .wall
   |.wall=>.wall
  |none=>.wall
section
variable {W:RC}{M M':Sr}{A:SA}{n:Nat}{H:Hp}
def L7:∀{a:SH}{b:Sx},yq W M H a b->qZ W M A n H (a.map .v) b
 |[],_,h=>h
 |_::_,_,⟨v,r,e,c,d⟩=>⟨v,r,e,c,L7 d⟩
def L8:∀{a:SN}{b:SE},jX W M H a b->q_ (ZD W M A n H) (vK a) b
 |[],_,h=>h
 |_::_,_,⟨v,r,e,c,d⟩=>⟨v,r,e,c,L8 d⟩
def L9:∀{a:SO}{b:SW},vx W M H a b->q_ (ZD W M A n H) (vK a) b
 |[],_,h=>h
 |_::_,_,⟨v,r,e,c,d⟩=>⟨v,r,e,c,L9 d⟩
def oW:∀{x:SN}{v:SE},Bx (x.map (·.2))=true->jX W M H x v->jX W M' H x v
 |[],_,_,h=>h
 |x::d,_,e,h=>by rw[T2]at e;unfold Bx at e;simp only[Bool.and_eq_true]at e;obtain⟨v,r,b,a,c⟩:=h;exact⟨v,r,b,ax e.1 a,oW e.2 c⟩
def L_(b:d9 W M H p x)(e:xD x=some c):mL W M A n H p c:=by
 cases x with
 |l f=>cases e;obtain⟨a,h,r⟩:=b;exact⟨a,h,L7 r⟩
 |d f=>cases e;obtain⟨a,h,r⟩:=b;exact⟨a,h,L8 r⟩
 |o k f=>cases e;obtain⟨g,a,h,r⟩:=b;exact⟨g,a,h,L9 r⟩
 |_=>cases e
def oX(e:NT x=true)(b:d9 W M H p x):d9 W M' H p x:=by
 cases x with
 |l c=>obtain⟨a,h,r⟩:=b;exact⟨a,h,eR e r⟩
 |d c=>obtain⟨a,h,r⟩:=b;exact⟨a,h,oW e r⟩
 |o k c=>obtain⟨f,a,h,r⟩:=b;exact⟨f,a,h,JV e r⟩
 |_=>cases e
end
section
variable {X:Cx}{W:RC}{E:XK}{fr:Bool}{S:So}{e a:Sy}{es:Sw}{m:ME}{t:MT}{bs:Su}{pos p:Pos}{i:Nat}{m1:HME}{ms:HMA}{t1:HMT}
def mM(h:HH Z A H G)(q:Ex Z E A G.length H c fs G)(f:∀d es,vx Z.W (λa=>M a\/H a=none) d fs es->vx Z.W (HM Z A G.length) d fs es):XPo ⟨Z.W,E,fr⟩ (xj H M) c fs:=
 λe j es d s g l n=>q A d e j es (h.keep s) (Gro.same s) g l (f d es n)
def RY(bs:Su)(h:EM X ⟨W,E,fr⟩ S false e m)(l:S.all (·==0)=true:=by rfl):HE X W E e (hP bs m):=λz=>by
 obtain⟨w,B,u⟩:=h z;refine⟨w,B,λZ y A H o C G R Q q=>?_⟩;subst y;unfold hP at q;split at q
 .rename_i r j;refine u _ _ H o r (Gx R j l) Q ?_;revert q;cases m r with
  |ok x=>exact λq v d s f=>q A d (R.toHH.keep s) (Gro.same s) v (f.rep.sub λa m _=>Gy R.toHH a m)
  |exc c fs=>exact λq=>mM R.toHH q λd es h=>h.sub λa m _=>m.elim id λn=>R.toHH.new a n
  |wall=>exact id
 .split at q
  .rename_i r j;refine u _ _ H o r (CK R j l) Q ?_;revert q;cases m r with
   |ok x=>
    intro q v d s f;dsimp only at q;split at q
    .rename_i g;exact q A d (R.toHH.keep s) (Gro.same s) v (ax g f.rep)
    .exact q.elim
   |exc c fs=>
    intro q;dsimp only at q;split at q
    .rename_i g;exact mM R.toHH q λd es h=>JV g h
    .exact q.elim
   |wall=>exact id
  .exact q.elim
def By(bs:Su)(h:TM X ⟨W,E,fr⟩ S e t)(g:S.all (·==0)=true:=by rfl):HT X W E e (hPT bs t):=λw=>by
 obtain⟨u,y,l⟩:=h w;refine⟨u,y,λZ v A H j z G R Q q=>?_⟩;subst v;unfold hPT at q;split at q
 .rename_i r f;refine l _ _ H j r (Gx R f g) Q ?_;revert q;cases t r with
  |ok x=>exact λq d s=>q A d (R.toHH.keep s) (Gro.same s)
  |exc c fs=>exact λq=>mM R.toHH q λd es h=>h.sub λa m _=>m.elim id λn=>R.toHH.new a n
  |wall=>exact id
 .split at q
  .rename_i r f;refine l _ _ H j r (CK R f g) Q ?_;revert q;cases t r with
   |ok x=>exact λq d s=>q A d (R.toHH.keep s) (Gro.same s)
   |exc c fs=>
    intro q;dsimp only at q;split at q
    .rename_i o;exact mM R.toHH q λd es h=>JV o h
    .exact q.elim
   |wall=>exact id
  .exact q.elim
def mN{Z:HC}{A:SA}{H d:Hp}{G:AH}{c:Cell}{p:Addr}{Q:VK}(h:HH Z A H G)(s:zA H d)(hp:H p=none)(g:mL Z.W (HM Z (exA A G.length p) (G.length+1)) (exA A G.length p) (G.length+1) d p c)(q:HPx Z E A G.length H (KV' Z Q) (.ok (.g G.length) (G++[c]))):Q (.ref p) d:=by
 have f:(G++[c]).length=G.length+1:=by simp
 refine q _ d (h.alloc s hp g) (by rw[f];exact Gro.ext s hp) _ ⟨by rw[f];exact a08 _,?_⟩;rw[aw]
def Ma{Z:HC}{A:SA}{n:Nat}{p a:Addr}(m:HM Z A n a)(h:a≠p):HM Z (exA A n p) (n+1) a:=⟨m.1,λk d e=>by
 by_cases c:k=n
 .rw[c,aw]at e;exact h e.symm
 .rw[Xk (by omega)]at e;exact m.2 k (by omega) e⟩
def P7(bs:Su)(z:LFr ⟨W,E,fr⟩ S te m)(y:S.all (·==0)=true:=by rfl):∀(Z:HC),Z.W=W->∀A H d l G,HR Z A H d l G->∀Q,HPx Z E A G.length H (KV' Z Q) (hF bs m l G)->te d H Q:=λZ B A H d l G R Q q=>by
 subst B;unfold hF at q;split at q
 .rename_i r u;refine z _ _ H d r (Gx R u y) Q ?_;revert q;cases m r with
  |ok x=>
   intro q v o s f;dsimp only at q;split at q
   .rename_i c j;obtain⟨p,rfl,hp,w⟩:=f;exact mN R.toHH s hp (L_ (w.gen rfl Fr.refl λa m _=>Ma (Gy R.toHH a m.1) m.2) j) q
   .exact q.elim
  |exc c fs=>exact λq=>mM R.toHH q λo es h=>h.sub λa m _=>m.elim id λn=>R.toHH.new a n
  |wall=>exact id
 .split at q
  .rename_i r u;refine z _ _ H d r (CK R u y) Q ?_;revert q;cases m r with
   |ok x=>
    intro q v o s f;dsimp only at q;split at q
    .rename_i g;split at q
     .rename_i c j;obtain⟨p,rfl,hp,w⟩:=f;exact mN R.toHH s hp (L_ (oX g w) j) q
     .exact q.elim
    .exact q.elim
   |exc c fs=>
    intro q;dsimp only at q;split at q
    .rename_i g;exact mM R.toHH q λo es h=>JV g h
    .exact q.elim
   |wall=>exact id
  .exact q.elim
def RZ(bs:Su)(h:FM X ⟨W,E,fr⟩ S e m)(c:S.all (·==0)=true:=by rfl):HE X W E e (hF bs m):=λj=>by obtain⟨g,d,f⟩:=h j;exact⟨g,d,P7 bs f c⟩
def QW(i:Nat):HME:=λc G=>match c[i]? with
 |some (some x)=>.ok x G
 |_=>.wall
def j6(h:PE X e (rA i)):HE X W E e (QW i):=λ_=>⟨_,h,λZ l A H j g G R Q q=>by
 unfold QW at q;split at q
 .rename_i x f;obtain⟨v,c,d⟩:=R.var i x f;exact⟨v,c,q A H R.toHH Gro.refl v d⟩
 .exact q.elim⟩
def CL:HMA:=λ_ G=>.ok [] G
def ZE(m:HME)(ms:HMA):HMA:=λc G=>(m c G).bind λx d=>(ms c d).bind λg f=>.ok (x::g) f
def oY:HA X W E [] CL:=λ_=>⟨_,Xg,λZ f A H d c G R Q q=>q A H R.toHH Gro.refl [] rfl⟩
def YD(h:HE X W E e m1)(J:HA X W E es ms)(n:starEach (e::es) X.env=(false,eval e X.env)::starEach es X.env:=by rfl):HA X W E (e::es) (ZE m1 ms):=λj=>by obtain⟨P,N,y⟩:=h j;obtain⟨O,z,l⟩:=J j;refine⟨_,Zv N z n,λZ g A H c f G R Q q=>y Z g A H c f G R _ (HPx.bind q λx u s r C L D v o=>?_)⟩;refine l Z g u s c f r (R.gro C L) _ (HPx.bind D λU B I T M w F d K=>?_);exact F B I M Gro.refl (v::d) ⟨v,d,rfl,o.gro w,K⟩
def qZ.len{W:RC}{M:Sr}{A:SA}{n:Nat}{H:Hp}:∀{c:List HV}{d:Sx},qZ W M A n H c d->d.length=c.length
 |[],_,h=>by cases(show _=_ from h);rfl
 |x::c,_,h=>by obtain⟨v,r,rfl,_,f⟩:=h;rw[S0,S0,qZ.len f]
def Ez:List HV->Option (List PV)
 |[]=>some []
 |.v x::c=>(Ez c).map (x::·)
 |_::_=>none
def mkT(xs:List HV):HV:=match Ez xs with
 |some c=>.v (.t c)
 |none=>.t xs
def UH{W:RC}{M:Sr}{A:SA}{n:Nat}{H:Hp}:∀{d:List HV}{c:SH}{f:Sx},Ez d=some c->qZ W M A n H d f->yq W M H c f
 |[],_,_,e,h=>by cases e;exact h
 |.v x::d,c,_,e,h=>by unfold Ez at e;obtain⟨o,l,rfl⟩:=u8.mp e;obtain⟨v,r,rfl,g,j⟩:=h;exact⟨v,r,rfl,g,UH l j⟩
 |.g _::_,_,_,e,_=>by cases e
 |.t _::_,_,_,e,_=>by cases e
def P8(ms:HMA):HME:=λd G=>(ms d G).bind λc f=>if c.length<=sizeLine then .ok (mkT c) f else .wall
def Mb{x1}(h:HA X W E es ms):HE X W E (.Tuple es x1 pos) (P8 ms):=λB=>by
 obtain⟨D,z,v⟩:=h B;refine⟨_,UZ z,λZ x A H o u G R Q q=>v Z x A H o u G R _ (HPx.bind q λF j g r w I f d l=>?_)⟩;split at f
 .rename_i C;refine⟨by rw[l.len];exact C,λp hp=>?_⟩;have s:zA g (upd g p (.tup d)):=zA.upd hp;refine f j _ (w.keep s) (Gro.same s) _ ?_;have c:=l.gro (Gro.same (Z:=Z) (A:=j) (n:=r.length) s);unfold mkT;split
  .rename_i J y;exact⟨p,d,rfl,.inl (.inl zg),UH y c⟩
  .exact⟨p,d,rfl,.inl (.inl zg),c⟩
 .exact f.elim
def NU(t:HMT):HMT:=λd G=>(t d G).bind λc f=>.ok (!c) f
def Mc(h:HT X W E a t1):HT X W E (.UnaryOp .Not a pos) (NU t1):=λu=>by obtain⟨w,s,l⟩:=h u;exact⟨_,D2 s,λZ r A H d g G R Q q=>l Z r A H d g G R _ (HPx.bind q λc j f v n x o=>o j f n Gro.refl)⟩
end
section
variable {W:RC}{M:Sr}{A:SA}{n:Nat}{H:Hp}
def qZ.get:∀{a:List HV}{d:Sx}{i:Nat}{x:HV},qZ W M A n H a d->a[i]?=some x->∃v,d[i]?=some v/\ZD W M A n H x v
 |[],_,_,_,_,e=>by simp at e
 |x::a,_,0,y,h,e=>by obtain⟨v,r,rfl,b,c⟩:=h;simp at e;subst e;exact⟨v,rfl,b⟩
 |x::a,_,i+1,y,h,e=>by obtain⟨v,r,rfl,b,c⟩:=h;simp only[List.getElem?_cons_succ]at e ⊢;exact qZ.get c e
def qZ.at(h:qZ W M A n H xs vs)(e:atI xs i=some x):∃v,atI vs i=some v/\ZD W M A n H x v:=by
 unfold atI at e ⊢;rw[h.len];cases q:ixN xs.length i with
 |none=>rw[q]at e;cases e
 |some j=>rw[q]at e;exact h.get e
def qZ.append:∀{a d:List HV}{c b:Sx},qZ W M A n H a c->qZ W M A n H d b->qZ W M A n H (a++d) (c++b)
 |[],_,_,_,h,k=>by cases(show _=_ from h);exact k
 |x::a,_,_,_,h,k=>by obtain⟨v,r,rfl,e,f⟩:=h;exact⟨v,_,rfl,e,qZ.append f k⟩
variable {κ:Type}[DecidableEq κ] {R:HV->V->Prop}
def q_.len:∀{a:List (κ×HV)}{b:List (κ×V)},q_ R a b->b.length=a.length
 |[],_,h=>by cases(show _=_ from h);rfl
 |_::_,_,⟨v,q,e,d,c⟩=>by subst e;rw[S0,S0,q_.len c]
def q_.get:∀{a:List (κ×HV)}{b:List (κ×V)}{k:κ}{x:HV},q_ R a b->zP a k=some x->∃v,X_ b k=some v/\R x v
 |[],_,_,_,_,e=>by cases e
 |f::r,_,k,x,h,e=>by
  obtain⟨v,q,rfl,g,i⟩:=h;unfold zP at e;rw[a1z]at e;by_cases c:f.1=k
  .rw[T5 c]at e;cases e;exact⟨v,Uz c,g⟩
  .rw[a0a c]at e;obtain⟨u,d,j⟩:=q_.get i e;exact⟨u,by rw[UA c];exact d,j⟩
def q_.lookup:∀{a:List (Str×HV)}{b:SW}{f:Str}{x:HV},q_ R a b->a.lookup f=some x->∃v,b.lookup f=some v/\R x v
 |[],_,_,_,_,e=>by cases e
 |d::r,_,f,x,h,e=>by
  obtain⟨v,q,rfl,g,i⟩:=h;rw[a0u]at e ⊢;cases c:(f==d.1)with
  |true=>rw[c]at e;cases e;exact⟨v,rfl,g⟩
  |false=>rw[c]at e;exact q_.lookup i e
def q_.put{k:κ}{a:List (κ×HV)}{es:List (κ×V)}(h:q_ R a es)(j:R x v):q_ R (dput a k x) (putK es k v):=by
 have g:∀{a:List (κ×HV)}{es:List (κ×V)},q_ R a es->a.any (λb=>decide (b.1=k))=es.any (λb=>decide (b.1=k))/\q_ R (a.map λb=>if b.1=k then(b.1,x)else b) (es.map λb=>if b.1=k then(b.1,v)else b)/\q_ R (a++[(k,x)]) (es++[(k,v)]):=by
  intro a
  induction a with
  |nil=>intro es h;cases(show _=_ from h);exact⟨rfl,rfl,v,[],rfl,j,rfl⟩
  |cons l a m=>
   intro es h;obtain⟨u,q,rfl,i,o⟩:=h;obtain⟨d,c,f⟩:=m o;refine⟨by rw[a0O,a0O,d],?_,⟨u,_,rfl,i,f⟩⟩;rw[T2,T2];by_cases e:l.1=k
   .rw[if_pos e,if_pos e];exact⟨v,_,rfl,j,c⟩
   .rw[if_neg e,if_neg e];exact⟨u,_,rfl,i,c⟩
 obtain⟨d,c,f⟩:=g h;unfold dput putK;rw[d];split
 .exact c
 .exact f
end
def ixH(G:AH):HV->HV->Option HV
 |.g k,.v y=>match G[k]? with
  |some (.l b)=>match y with
   |.i j=>atI b j
   |_=>none
  |some (.d a)=>(pk y).bind λq=>zP a q
  |some (.z a)=>(pk y).bind λq=>zP a q
  |_=>none
 |.t b,.v (.i j)=>atI b j
 |.v x,.v y=>match pIx x y with
  |.ok z=>some (.v z)
  |_=>none
 |_,_=>none
def hIx(e d:HME):HME:=λa G=>(e a G).bind λx c=>(d a c).bind λy b=>match ixH b x y with
 |some z=>.ok z b
 |none=>.wall
def Md(cs:So)(f:Str)(m:HME):HME:=λb G=>(m b G).bind λx a=>match x with
 |.g k=>match a[k]? with
  |some (.o c fs)=>if c∈cs then match fs.lookup f with
   |some z=>.ok z a
   |none=>.wall else .wall
  |_=>.wall
 |_=>.wall
def h_(f:List HV->AH->HX HV)(ms:HMA):HME:=λb G=>(ms b G).bind λc a=>f c a
def hsp(W:RC)(n:Nat)(f:List HV->AH->HX HV):Sp:=λb H Q E=>∃(Z:HC)(A:SA)(G:AH)(a:List HV),Z.W=W/\a.length=n/\HH Z A H G/\qZ Z.W (HM Z A G.length) A G.length H a b/\HPx Z E A G.length H (KV' Z Q) (f a G)
def xE:∀a H Q E,hsp W n f a H Q E->a.length=n:=λa H Q E ⟨Z,A,G,c,_,b,_,r,_⟩=>r.len.trans b
def O1(h:HH Z A H G)(i:ZD Z.W (HM Z A G.length) A G.length H x v)(g:ZD Z.W (HM Z A G.length) A G.length H y u)(e:ixH G x y=some z)(q:∀f v,zA H f->ZD Z.W (HM Z A G.length) A G.length f z v->Q v f):P4 Z.W.K v u H Q:=by
 unfold ixH at e;split at e
 .rename_i k y;obtain⟨B,rfl⟩:=i;split at e
  .rename_i C d;obtain⟨c,hp,r⟩:=h.cell k _ d;split at e
   .obtain⟨w,b,a⟩:=r.at e;exact .inl (.inl ⟨_,c,_,w,rfl,g,SqL.of hp,b,q H w (zA.refl _) a⟩)
   .cases e
  .rename_i l d;obtain⟨c,hp,r⟩:=h.cell k _ d;obtain⟨j,m,e⟩:=a0d.mp e;obtain⟨w,b,a⟩:=r.get e;exact .inr ⟨_,w,rfl,by rw[WG (qe.iff.mpr (show Rep Z.W _ H y u from g)) m,<- b];exact lK.rk (.inl hp),q H w (zA.refl _) a⟩
  .rename_i l d;obtain⟨o,c,hp,r⟩:=h.cell k _ d;obtain⟨j,m,e⟩:=a0d.mp e;obtain⟨w,b,a⟩:=r.get e;exact .inr ⟨_,w,rfl,by rw[WG (qe.iff.mpr (show Rep Z.W _ H y u from g)) m,<- b];exact lK.rk (.inr ⟨o,hp⟩),q H w (zA.refl _) a⟩
  .cases e
 .obtain⟨p,c,rfl,n,r⟩:=i;obtain⟨w,b,a⟩:=r.at e;exact .inl (.inr (.inl ⟨p,c,_,w,rfl,g,n,b,q H w (zA.refl _) a⟩))
 .split at e
  .rename_i D hz;cases e;refine Lo (W:=Z.W) (HM Z A G.length) ⟨Z.W,E0,false⟩ (xj H λ_=>True) H _ _ v u Q h.new (Rep.weak i) (Rep.weak g) ?_;rw[hz];exact λw f s r=>q f w s r
  .cases e
 .cases e
def O2(l:X.A.units+1<cLine)(d:HE X W E a m1)(c:HE X W E b m2)(m:WD b:=by intro _ _;rfl):HE X W E (.Subscript a b pos) (hIx m1 m2):=λg=>by
 obtain⟨O,N,D⟩:=d g;obtain⟨T,F,j⟩:=c g;refine⟨_,BM (D9.or (mr l)) N F m,λZ f A H h i G R Q q=>D Z f A H h i G R _ (HPx.bind q λx B p o d M J v n=>?_)⟩;refine j Z f B p h i o (R.gro d M) _ (HPx.bind J λy I S P c C e u K=>?_);split at e
 .rename_i z hz;rw[g,<- f];exact O1 c (n.gro C) K hz λL w s r=>e I L (c.keep s) (Gro.same s) w r
 .exact e.elim
def Me(h:HE X W E e m1)(f:∀c∈cs,Cls X.K (W.cls c)/\vw X.K (W.cls c) fn)(j:attributeBase e fn X.env (eval e X.env)=eval e X.env:=by rfl):HE X W E (.Attribute e fn pos) (Md cs fn m1):=λF=>by
 obtain⟨K,C,y⟩:=h F;refine⟨_,D6 C j,λZ i A H m s G R Q q=>y Z i A H m s G R _ (HPx.bind q λx u o J g L a v l=>?_)⟩;subst i;split at a
 .rename_i k;obtain⟨I,rfl⟩:=l;split at a
  .rename_i c fs D;obtain⟨B,n,hp,r⟩:=g.cell k _ D;split at a
   .rename_i b;split at a
    .rename_i z hz;obtain⟨w,p,d⟩:=r.lookup hz;exact⟨_,_,B,n,w,rfl,hp,(f c b).1,(f c b).2,p,a u o g Gro.refl w d⟩
    .exact a.elim
   .exact a.elim
  .exact a.elim
 .exact a.elim
def xF(F:qd X.prog X.w X.K X.mg X.base (CXe X.prog X.w) k f fd ps (hsp W n g))(B:jJ k X.A)(w:Gl X x)(v:X.mg x=some (.ref f))(l:keepIn X.K (.ref f)=true)(j:Binds X.K fd ps [])(u:Passes (CXe X.prog X.w) X E)(I:HA X W E (e::es) ms)(J:∀d G a b,ms d G=.ok a b->a.length=n)
  (h:(x==("__debug__":Str))=false:=by decide) (he:starEach (e::es) X.env=(false,eval e X.env)::starEach es X.env:=by rfl) (hpl:(backTo pos (starEach es X.env)).any (·.1)=false:=by rfl):HE X W E (.Call (.Name x p) (e::es) [] pos) (h_ g ms):=λL=>by
 obtain⟨M,K,s⟩:=I L;refine⟨_,lV F B w v l j .nil u K h he hpl,λZ i A H m d G R Q q=>s Z i A H m d G R _ ?_⟩;unfold h_ at q;revert q;cases z:ms d G with
 |wall=>exact id
 |exc c fs b=>exact id
 |ok a b=>intro q r O y D N C;rw[a0h];exact⟨Z,r,b,a,i,J _ _ _ _ z,y,C,HPx.gro (o:=g a b) q D⟩
def EA:∀b G a c,CL b G=.ok a c->a.length=0:=λb G a c e=>by cases e;rfl
def WM(h:∀b G a d,ms b G=.ok a d->a.length=n):∀b G a d,ZE m ms b G=.ok a d->a.length=n+1:=λb G a d e=>by
 unfold ZE at e;cases i:m b G with
 |wall=>rw[i]at e;cases e
 |exc c fs f=>rw[i]at e;cases e
 |ok x f=>
  rw[i]at e;have e:(ms b f).bind (λa j=>.ok (x::a) j)=.ok a d:=e;cases g:ms b f with
  |wall=>rw[g]at e;cases e
  |exc c fs f=>rw[g]at e;cases e
  |ok l j=>rw[g]at e;cases e;rw[S0,h _ _ _ _ g]
inductive HFw where
 |nx (ρ:YB) (G:AH)|rt (x:HV) (G:AH)|bk (ρ:YB) (G:AH)|ct (ρ:YB) (G:AH)|exc (c:Nat) (fs:SO) (G:AH)|wall
abbrev HMS:=YB->AH->HFw
def HPs(Z:HC)(E:XK)(A:SA)(n:Nat)(H:Hp)(D:Ends):HFw->Prop
 |.nx f d=>∀e b a,HR Z e b a f d->Gro Z A n H e d.length b->D.nx a b
 |.rt x d=>∀e b v,HH Z e b d->Gro Z A n H e d.length b->ZD Z.W (HM Z e d.length) e d.length b x v->D.rt v b
 |.bk f d=>∀e b a,HR Z e b a f d->Gro Z A n H e d.length b->D.bk a b
 |.ct f d=>∀e b a,HR Z e b a f d->Gro Z A n H e d.length b->D.ct a b
 |.exc c fs d=>Ex Z E A n H c fs d
 |.wall=>False
def HX.fw{b:Type}:HX b->(b->AH->HFw)->HFw
 |.ok a G,f=>f a G
 |.exc c fs G,_=>.exc c fs G
 |.wall,_=>.wall
def LHS(W:RC)(E:XK)(ts:TS)(m:HMS):Prop:=∀(Z:HC),Z.W=W->∀A H b a G,HR Z A H b a G->∀D,HPs Z E A G.length H D (m a G)->ts D b H
def HS(X:Cx)(W:RC)(E:XK)(st:Tf)(m:HMS):Prop:=X.K=W.K->∃a,PS X st a/\LHS W E a m
def HSs(X:Cx)(W:RC)(E:XK)(st:SY)(m:HMS):Prop:=X.K=W.K->∃a,PSs X st a/\LHS W E a m
section
variable {α:Type}{K':α->(Nat->Addr)->Hp->AH->Prop}
def HPs.gro(h:HPs Z E A n H D o)(g:Gro Z A n H A' n' H'):HPs Z E A' n' H' D o:=by
 cases o with
 |nx f G=>exact λb e a r d=>h b e a r (g.trans d)
 |rt x G=>exact λb e v r d=>h b e v r (g.trans d)
 |bk f G=>exact λb e a r d=>h b e a r (g.trans d)
 |ct f G=>exact λb e a r d=>h b e a r (g.trans d)
 |exc c fs G=>exact Ex.gro h g
 |wall=>exact h
def HPs.bind{o:HX α}{f:α->AH->HFw}(h:HPs Z E A n H D (o.fw f))(k:∀x b d a,HH Z b d a->Gro Z A n H b a.length d->HPs Z E b a.length d D (f x a)->K' x b d a):HPx Z E A n H K' o:=by
 cases o with
 |ok x a=>exact λg i j e=>k x g i a j e (HPs.gro (o:=f x a) h e)
 |exc c fs a=>exact h
 |wall=>exact h
end
def Vf:HMS:=λa G=>.nx a G
def vH(a b:HMS):HMS:=λf G=>match a f G with
 |.nx d e=>b d e
 |.rt x e=>.rt x e
 |.bk d e=>.bk d e
 |.ct d e=>.ct d e
 |.exc c fs e=>.exc c fs e
 |.wall=>.wall
def vz(i:Nat)(m:HME):HMS:=λa G=>(m a G).fw λx b=>.nx (a.set i (some x)) b
def so(m:HME):HMS:=λa G=>(m a G).fw λ_ b=>.nx a b
def mO(m:HME):HMS:=λb G=>(m b G).fw λx a=>.rt x a
def hIf(t:HMT)(a b:HMS):HMS:=λd G=>(t d G).fw λc e=>if c=true then a d e else b d e
section
variable {X:Cx}{W:RC}{E:XK}{e a o:Sy}{es:Sw}{pos p pos' jI:Pos}{m m1 m2:HME}{t1:HMT}{s1 s2:HMS}{x:Str}{st:Tf}{sts stt:SY}{i:Nat}
def ZF:HSs X W E [] Vf:=λ_=>⟨_,tT,λZ f A H c d G R D q=>q A H c R Gro.refl⟩
def Mf(s:LHS W E t s1)(y:LHS W E u s2):LHS W E (Od t u) (vH s1 s2):=λZ l A H n j G R D q=>by
 refine s Z l A H n j G R _ ?_;unfold vH at q;revert q;cases s1 j G with
 |nx d f=>exact λq w v h r g=>y Z l w v h d f r D (HPs.gro (o:=s2 d f) q g)
 |rt x f=>exact id
 |bk d f=>exact id
 |ct d f=>exact id
 |exc c fs f=>exact id
 |wall=>exact id
def zH(g:HS X W E st s1)(j:HSs X W E sts s2):HSs X W E (st::sts) (vH s1 s2):=λc=>by obtain⟨t,h,l⟩:=g c;obtain⟨u,d,f⟩:=j c;exact⟨_,Uy h d,Mf l f⟩
def qx(f:HS X W E st s1):HSs X W E [st] s1:=λc=>by obtain⟨t,d,g⟩:=f c;exact⟨_,kY d,g⟩
def Mg(j:∀(Z:HC),Z.W=W->∀A H c d G,HR Z A H c d G->∀Q,HPx Z E A G.length H (KV' Z Q) (m d G)->te c H Q):LHS W E (HD te (lS i)) (vz i m):=λZ r A H c d G R D q=>
 j Z r A H c d G R _ (HPs.bind q λx h g u l s n v f=>n h g _ ((R.gro l s).set f) Gro.refl)
def Mh(d:X.N.Nodup)(l:X.N[i]?=some x)(g:Loc X.env.scope x)(h:HE X W E e m)(c:swapsWith e (some (.Name x pos')) pos.line X.env=pure false:=by rfl)(hf:X.fn x=true\/X.env.scope.names.lookup x=some .local:=by first|exact .inl rfl|exact .inr rfl|assumption):
  HS X W E (.Assign [.Name x pos'] e pos) (vz i m):=λn=>by
 obtain⟨q,f,j⟩:=h n;exact⟨_,tV d l g f c hf,Mg j⟩
def xG(h:HE X W E e m)(d:swapsWith e none pos.line X.env=pure false:=by rfl):HS X W E (.Expr e pos) (so m):=λy=>by obtain⟨C,w,l⟩:=h y;exact⟨_,UY w d,λZ s A H c g G R D q=>l Z s A H c g G R _ (HPs.bind q λx j f B n u r v z=>r j f c (R.gro n u) Gro.refl)⟩
def Kh(h:HE X W E e m):HS X W E (.Return (some e) pos) (mO m):=λw=>by obtain⟨z,u,l⟩:=h w;exact⟨_,n5 u,λZ s A H d g G R D q=>l Z s A H d g G R _ (HPs.bind q λx j f y n B r v c=>r j f v n Gro.refl c)⟩
def b7(h:HT X W E c t1)(g:HSs X W E sts s1)(I:HSs X W E stt s2):HS X W E (.If c sts stt pos) (hIf t1 s1 s2):=λn=>by
 obtain⟨K,J,z⟩:=h n;obtain⟨t,B,y⟩:=g n;obtain⟨u,F,C⟩:=I n;refine⟨_,Im J B F,λZ l A H d j G R D q=>z Z l A H d j G R _ (HPs.bind q λk s f r g w v=>?_)⟩;cases k with
 |true=>show(if true=true then t D d f else u D d f);rw[if_pos rfl];exact y Z l s f d j r (R.gro g w) D v
 |false=>show(if false=true then t D d f else u D d f);rw[if_neg T7];exact C Z l s f d j r (R.gro g w) D v
def O3(j h:HME):HMS:=λc G=>(j c G).fw λx d=>match x with
 |.g k=>match d[k]? with
  |some (.l _)=>(h c d).fw λy f=>match f[k]? with
   |some (.l g)=>if g.length<sizeLine then .nx c (f.set k (.l (g++[y])))else .wall
   |_=>.wall
  |_=>.wall
 |_=>.wall
def NV{Z:HC}{A:SA}{H:Hp}{G:AH}{σ:St}{ρ:YB}{D:Ends}{k:Nat}{c:Cell}{o j:HO}(R:HR Z A H σ ρ G)(d:k<G.length)(h:H (A k)=some j)(f:¬Imm j)(l:mL Z.W (HM Z A G.length) A G.length (upd H (A k) o) (A k) c)(q:HPs Z E A G.length H D (.nx ρ (G.set k c))):D.nx σ (upd H (A k) o):=by
 have g:Gro Z A G.length H A (G.set k c).length (upd H (A k) o):=by rw[a0v];exact R.toHH.frw d h f
 exact q A _ σ (R.gro (R.toHH.write d h f l) g) g
def xH(T:HE X W E o m1)(h:HE X W E e m2)(Y:attributeBase o "append" X.env (eval o X.env)=eval o X.env:=by rfl)
  (D0:((backTo p (starEach [e] X.env)).all (λx=>!x.1)&&(backToKw p (keywordEach [] X.env)).all (λx=>x.1.isSome)&&decide ([e].length+([]:List Keyword).length+(if([]:List Keyword).isEmpty then 0 else 1)<30))=true:=by rfl)
  (Xd:(jI.endLine==p.line)=true:=by rfl) (C:starEach [e] X.env=[(false,eval e X.env)]:=by rfl) (s:swapsWith (.Call (.Attribute o "append" jI) [e] [] p) none pos.line X.env=pure false:=by rfl):
  HS X W E (.Expr (.Call (.Attribute o "append" jI) [e] [] p) pos) (O3 m1 m2):=λN=>by
 obtain⟨to,U,o2⟩:=T N;obtain⟨te,a1,a2⟩:=h N;refine⟨_,UY (BO a1t a2G a2H U1 U (Zv a1 Xg C) Y D0 Xd C rfl) s,λZ M A H F J G R D q=>o2 Z M A H F J G R _ (HPs.bind q λx A1 H1 S L g1 f v Q=>?_)⟩;split at f
 .rename_i k;obtain⟨B,rfl⟩:=Q;split at f
  .rename_i xs0 w;obtain⟨vs0,n,_⟩:=L.cell k _ w;have O:=R.gro L g1;refine⟨.inl ⟨rfl,_,SqL.of n⟩,a2 Z M A1 H1 F J S O _ (HPs.bind f λy K H2 l z j g u ry=>?_)⟩;split at g
   .rename_i xs hc;split at g
    .rename_i hl;obtain⟨I,hp,r⟩:=z.cell k _ hc;have d:k<l.length:=T8 B j.le;rw[<- j.agr k B];have P:=z.frw (o:=.lst (I++[u])) d hp id;have one:qZ Z.W (HM Z K l.length) K l.length H2 [y] [u]:=⟨u,[],rfl,ry,rfl⟩;exact⟨_,I,u,rfl,rfl,hp,by rw[r.len];exact hl,NV (c:=.l (xs++[y])) (O.gro z j) d hp id ⟨_,zg,(r.append one).gro P⟩ g⟩
    .exact g.elim
   .exact g.elim
  .exact f.elim
 .exact f.elim
def O4(f:HME):HMS:=λd G=>(f d G).fw λx c=>match x with
 |.g k=>match c[k]? with
  |some (.l _)=>.nx d (c.set k (.l []))
  |_=>.wall
 |_=>.wall
def CM(n:HE X W E o m1)(y:attributeBase o "clear" X.env (eval o X.env)=eval o X.env:=by rfl)(z:(jI.endLine==p.line)=true:=by rfl)(f:swapsWith (.Call (.Attribute o "clear" jI) [] [] p) none pos.line X.env=pure false:=by rfl):
  HS X W E (.Expr (.Call (.Attribute o "clear" jI) [] [] p) pos) (O4 m1):=λJ=>by
 obtain⟨N,u,B⟩:=n J;refine⟨_,UY (IE a1t PySem.F.slot_list_clear PySem.F.type_list_clear BQ u y z) f,λZ F A H l C G R D q=>B Z F A H l C G R _ (HPs.bind q λx M L K g I d v j=>?_)⟩;split at d
 .rename_i k;obtain⟨h,rfl⟩:=j;split at d
  .rename_i O w;obtain⟨s,hp,r⟩:=g.cell k _ w;exact⟨.inl ⟨rfl,_,SqL.of hp⟩,_,s,rfl,rfl,hp,NV (c:=.l []) (R.gro g I) h hp id ⟨[],zg,rfl⟩ d⟩
  .exact d.elim
 .exact d.elim
def HQ(l mk g:HME):HMS:=λd G=>(g d G).fw λy h=>(l d h).fw λx j=>(mk d j).fw λz f=>match x,z with
 |.g k,.v z=>match f[k]?,pk z with
  |some (.d c),some q=>if c.length<sizeLine then .nx d (f.set k (.d (dput c q y)))else .wall
  |_,_=>.wall
 |_,_=>.wall
def EB(N:X.A.units+1<cLine)(P:HE X W E o m)(j:HE X W E a m1)(hv:HE X W E e m2)(L:swapsWith e (some (.Subscript o a pos')) pos.line X.env=pure false:=by rfl):
  HS X W E (.Assign [.Subscript o a pos'] e pos) (HQ m m1 m2):=λF=>by
 obtain⟨to,Q,U⟩:=P F;obtain⟨ta,a1,a2⟩:=j F;obtain⟨tv,b1,K⟩:=hv F;refine⟨_,l5 N Q a1 b1 L,λZ B A H l s G R D q=>K Z B A H l s G R _ (HPs.bind q λy Y T O h1 g1 q1 v ry=>?_)⟩;have J:=R.gro h1 g1;refine U Z B Y T l s O J _ (HPs.bind q1 λx A2 H2 G2 h2 I q2 w M=>?_);have R2:=J.gro h2 I;refine a2 Z B A2 H2 l s G2 R2 _ (HPs.bind q2 λz A3 H3 G3 C g d u rz=>?_);split at d
 .rename_i k z;obtain⟨j,rfl⟩:=M;split at d
  .rename_i n q S hq;split at d
   .rename_i hl;obtain⟨es,hp,r⟩:=C.cell k _ S;have f:k<G3.length:=T8 j g.le;have g4:=C.frw (o:=.dK (putK es q v)) f hp id;rw[<- g.agr k j];refine⟨_,_,rfl,by rw[WG (qe.iff.mpr (show Rep Z.W _ H3 z u from rz)) hq];exact BR.k hp (by rw[r.len];exact hl),NV (c:=.d (dput n q y)) (R2.gro C g) f hp id ⟨_,zg,?_⟩ d⟩;exact(r.put ((ry.gro I).gro g)).imp λ_ _ h=>h.gro g4
   .exact d.elim
  .exact d.elim
 .exact d.elim
end
abbrev HMG:=HV->YB->Option YB
def HG(X:Cx)(W:RC)(e:Sy)(mg:HMG):Prop:=X.K=W.K->∃g,PG X e g/\∀(Z:HC),Z.W=W->∀A H d c G x v,HR Z A H d c G->ZD Z.W (HM Z A G.length) A G.length H x v->∀Q:St->Hp->Prop,(∃a,mg x c=some a/\∀b,HR Z A H b a G->Q b H)->g v d H Q
abbrev Sk:=List HV->YB->Option YB
def hgN(i:Nat):HMG:=λx a=>some (a.set i (some x))
def eV(a:X.N.Nodup)(d:X.N[i]?=some x)(c:Loc X.env.scope x)(hf:X.fn x=true\/X.env.scope.names.lookup x=some .local:=by first|exact .inl rfl|exact .inr rfl|assumption):HG X W (.Name x pos) (hgN i):=
 λ_=>⟨_,tU a d c hf,λZ h A H g f G x v R r Q ⟨b,e,k⟩=>by cases e;exact k _ (R.set r)⟩
def b8(g:HMG)(b:HMS):List HV->YB->AH->HFw
 |[],e,G=>.nx e G
 |x::h,e,G=>match g x e with
  |none=>.wall
  |some f=>match b f G with
   |.nx a d=>b8 g b h a d
   |.ct a d=>b8 g b h a d
   |.bk a d=>.nx a d
   |.rt v d=>.rt v d
   |.exc c fs d=>.exc c fs d
   |.wall=>.wall
def isZ:Cell->Bool
 |.z _=>true
 |_=>false
def CN(A:SA)(G:AH)(a:Addr):Prop:=∃k c,G[k]?=some c/\isZ c=false/\A k=a
section
variable {W:RC}{E:XK}{Z:HC}{A A':SA}{H H':Hp}{G G':AH}{σ:St}{ρ:YB}{D:Ends}
def mL.live{M:Sr}{n:Nat}{p:Addr}:∀{c:Cell},mL W M A n H p c->isZ c=false->∃o,H p=Option.some o/\¬Imm o
 |.l _,⟨_,e,_⟩,_=>⟨_,e,id⟩
 |.d _,⟨_,e,_⟩,_=>⟨_,e,id⟩
 |.z _,_,h=>by cases h
 |.o _ _,⟨_,_,e,_⟩,_=>⟨_,e,id⟩
 |.y _,⟨_,_,e,_⟩,_=>⟨_,e,id⟩
 |.m _ _ _,⟨_,_,e,_⟩,_=>⟨_,e,id⟩
def mL.zed{M:Sr}{n:Nat}{p:Addr}:∀{c:Cell},mL W M A n H p c->isZ c=true->∃o,H p=Option.some o/\Imm o
 |.l _,_,h=>by cases h
 |.d _,_,h=>by cases h
 |.z _,⟨_,_,e,_⟩,_=>⟨_,e,trivial⟩
 |.o _ _,_,h=>by cases h
 |.y _,_,h=>by cases h
 |.m _ _ _,_,h=>by cases h
def Gro.rest(h:HH Z A H G)(h':HH Z A' H' G')(g:Gro Z A G.length H A' G'.length H'):Fr (λa=>¬CN A G a) H H':=λa o e m=>by
 rcases m with m|m
 .by_cases f:∃k,k<G.length/\A k=a
  .obtain⟨k,b,rfl⟩:=f;have c:=T4 b;have hz:isZ G[k]=true:=by
    cases z:isZ G[k]with
    |true=>rfl
    |false=>exact absurd ⟨k,_,c,z,rfl⟩ m
   obtain⟨j,d,i⟩:=(h.cell k _ c).zed hz;rw[d]at e;cases e;exact g.fr _ _ d (.inr i)
  .cases q:Z.H0 a with
   |none=>exact g.fr a o e (.inl ⟨.inr q,λk b z=>f ⟨k,b,z⟩⟩)
   |some u=>have:=h.same a u q;rw[e]at this;cases this;exact h'.same a _ q
 .exact g.fr a o e (.inr m)
open Classical in
def bsH(Z:HC)(A:SA)(H:Hp)(G:AH):Bs:=⟨λa=>if CN A G a then none else H a,HM Z A G.length,λ_=>False,λ_ h=>h.elim,none,CN A G⟩
def O5(R:HR Z A H σ ρ G)(e:Ub bs ρ=some r)(g:S.all (·==0)=true):Rel Z.W (bsH Z A H G) S (λ_=>0) H σ r:=by
 have d:∀{k:Nat},S[k]?=some 2->False:=λ{k} h=>by have:=LZ g h;omega
 have l:∀{k:Nat},S[k]?=some 1->False:=λ{k} h=>by have:=LZ g h;omega
 refine⟨λa o h=>?_,R.len.trans (VF e).symm,λi x q=>?_,λi b=>(d b).elim,λi j b=>(d b).elim,λb=>(d b).elim,λa h=>?_,λi b=>(d b).elim⟩
 .unfold bsH at h;dsimp only at h;split at h
  .cases h
  .exact h
 .obtain⟨v,s,w⟩:=R.var i _ (VE e q);refine⟨v,s,λz=>(d z).elim,λz=>(l z).elim,λ_ _=>(show Rep Z.W _ H x v from w).sub λa m _=>⟨⟨.inl m,λ⟨k,c,f,_,n⟩=>m.2 k (T9.mp f).1 n⟩,λi b=>(d b).elim⟩⟩
 .obtain⟨k,c,f,hz,rfl⟩:=h;obtain⟨o,p,u⟩:=(R.toHH.cell k c f).live hz;exact⟨o,p,u,by unfold bsH;dsimp only;rw[if_pos ⟨k,c,f,hz,rfl⟩]⟩
def CO(P:Z.W=W)
  (hi:∀R:It->Hp->Prop,(∀J w,zA H w->Gi Z.W (HM Z A G.length) (λa=>¬CN A G a) w J xs->R J w)->wi σ H R)
  (hg:∀(Z:HC),Z.W=W->∀A H σ ρ G x v,HR Z A H σ ρ G->ZD Z.W (HM Z A G.length) A G.length H x v->∀Q:St->Hp->Prop,(∃b,mg x ρ=some b/\∀d,HR Z A H d b G->Q d H)->g v σ H Q) (U:LHS W E tb mb) (R:HR Z A H σ ρ G) (q:HPs Z E A G.length H D (b8 mg mb (xs.map .v) ρ G)):NH wi g tb D σ H:=by
 refine hi _ λJ w S io=>?_;have R2:=R.keep S;have q2:=HPs.gro q (Gro.same S);refine⟨λi n d H'=>n=xs.length-i/\i<=xs.length/\∃b A' G',HR Z A' H' d b G'/\Gro Z A G.length w A' G'.length H'/\HPs Z E A' G'.length H' D (b8 mg mb ((xs.drop i).map .v) b G'),⟨_,rfl,a0y _,ρ,A,G,R2,Gro.refl,q2⟩,?_⟩
 rintro i n d H' ⟨rfl,hle,b,A',G',M,T,j⟩
 have B:=io H' (Gro.rest R2.toHH M.toHH T);by_cases r:i<xs.length
 .have hx:xs[i]?=some xs[i]:=T4 r;obtain⟨go,yl⟩:=B.1 i _ hx;refine .inr ⟨go,λz p=>i+1<=xs.length/\∃b A' G',HR Z A' p z b G'/\Gro Z A G.length w A' G'.length p/\HPs Z E A' G'.length p D (b8 mg mb ((xs.drop (i+1)).map .v) b G'),λz p h=>⟨xs.length-(i+1),by omega,rfl,h.1,h.2⟩,λv f hy=>?_⟩;obtain⟨F,ry⟩:=yl v f hy;have Ry:=M.keep F;have I:Gro Z A G.length w A' G'.length f:=T.trans (Gro.same F);have Y:Rep Z.W (HM Z A' G'.length) f xs[i] v:=ry _ λa m hn=>I.sM a m hn;rw[a0Q r,T2]at j;unfold b8 at j;split at j
  .exact j.elim
  .rename_i u N;refine hg Z P A' f d b G' _ v Ry (show ZD Z.W _ _ _ f (.v xs[i]) v from Y) _ ⟨u,N,λO R1=>U Z P A' f O u G' R1 _ ?_⟩;have j:=HPs.gro j (Gro.same F);revert j;cases mb u G' with
   |wall=>exact id
   |exc c fs s=>exact id
   |nx l s=>exact λj C H3 L K y=>⟨r,l,C,s,K,I.trans y,HPs.gro (o:=b8 mg mb ((xs.drop (i+1)).map .v) l s) j y⟩
   |ct l s=>exact λj C H3 L K y=>⟨r,l,C,s,K,I.trans y,HPs.gro (o:=b8 mg mb ((xs.drop (i+1)).map .v) l s) j y⟩
   |bk l s=>exact id
   |rt x s=>exact id
 .have e:i=xs.length:=by omega
  subst e;rw[a2I]at j;exact .inl ⟨B.2,j A' H' d M Gro.refl⟩
end
def b9(bs:Su)(mi:MI)(g:HMG)(b:HMS):HMS:=λa G=>match Ub bs a with
 |some r=>match mi r with
  |.ok c=>b8 g b (c.map .v) a G
  |_=>.wall
 |none=>.wall
section
variable {X:Cx}{W:RC}{E:XK}{fr:Bool}{S:So}{tg jZ:Sy}{body:SY}{mi:MI}{mg:HMG}{mb:HMS}{pos:Pos}
def mP(bs:Su)(hp:PassesOwn (TQ X) X.A X.env X.xe)(F:X.calm=true)(C:IM X ⟨W,E,fr⟩ S false tg jZ mi)(O:HG X W tg mg)(p:HSs X W E body mb)(l:S.all (·==0)=true:=by rfl)(w:∀x,foldedSetIterable jZ X.env x=pure x:=by intro _;rfl):
  HS X W E (.For tg jZ body [] pos) (b9 bs mi mg mb):=λj=>by
 obtain⟨wi,a1,K⟩:=C j;obtain⟨g,M,u⟩:=O j;obtain⟨tb,Q,N⟩:=p j;refine⟨_,tZ hp F a1 M Q w,λZ U A H y ρ G R D q=>?_⟩;unfold b9 at q;split at q
 .rename_i r Y;split at q
  .rename_i xs d;subst U;refine CO rfl (λL k=>?_) u N R q;refine K _ _ H y r (O5 R Y l) L ?_;rw[d];intro J T s B;refine k J T s λH' f=>?_;have n2:∀{k:Nat},S[k]?=some 2->False:=λ{k} h=>by have:=LZ l h;omega
   obtain⟨e,P⟩:=B H' λa o h m=>f a o h (m.imp (λm z=>m.1 z) id);refine⟨λi x d=>⟨(e i x d).1,λv c n=>⟨((e i x d).2 v c n).1,λI sM=>((e i x d).2 v c n).2 I λa m hn=>sM a ?_ hn⟩⟩,P⟩;have b:HM Z A G.length a\/(bsH Z A H G).H0 a=none:=m.1.1;rcases b with b|b
   .exact b
   .unfold bsH at b;dsimp only at b;split at b
    .rename_i hl;exact absurd hl m.1.2
    .exact R.toHH.new a b
  .exact q.elim
 .exact q.elim
end
def hB(p:SD)(ms:HMA):HME:=λb G=>(ms b G).bind λc a=>match eS (vG a 8) c with
 |some d=>match p d with
  |.ok z=>if imm z=true then .ok (.v z) a else .wall
  |_=>.wall
 |none=>.wall
def Bz(n:Nat)(ms:HMS)(xs:List HV)(G:AH):HX HV:=match ms (xs.map some++List.replicate (n-xs.length) none) G with
 |.nx _ a=>.ok (.v .n) a
 |.rt x a=>.ok x a
 |.exc c fs a=>.exc c fs a
 |_=>.wall
def sr{xs:List HV}{n k:Nat}{x:HV}(h:(xs.map some++List.replicate (n-xs.length) none)[k]?=some (some x)):xs[k]?=some x:=by
 rw[a2d]at h;split at h
 .rw[a0k]at h;obtain⟨y,a,e⟩:=u8.mp h;cases e;exact a
 .rw[a07]at h;split at h<;>cases h
def oZ(h:HH Z A H G)(r:qZ Z.W (HM Z A G.length) A G.length H xs vs):HR Z A H (start N vs) (xs.map some++List.replicate (N.length-xs.length) none) G:=by
 refine⟨h,?_,λi x e=>?_⟩
 .unfold start;rw[S9,S9,v4,v4,a1i,a1i,r.len]
 .obtain⟨v,a,c⟩:=r.get (sr e);have b:i<vs.length:=(T9.mp a).1;refine⟨v,?_,c⟩;unfold start;rw[a0r (by rw[v4];exact b),a0k,a];rfl
section
variable {P:SG}{w:SI}{K:SV}{mg:Sl}{base:Heap}
def xI{x b:Str}{st:Tf}{f:Addr}{z:SK}{N m:Sn}{k n l:Nat}{W:RC}{ms:HMS}(F:Fun K x b st f z)(S:zr N m (zj st))(hW:K=W.K)(p:m.length=l)(J:N.length=n)
  (h:∀(d:Value)(A:SQ)(a:List Env)(s:Ss)(H:Hp)(E:XK),jJ k (A.deeper (envOfC b (zj st) s.heap.objs.size f d))->HSs (thr (dY (CXe P w) P w K mg base N b (zj st) f d A a s H E) E) W E (Zw st) ms):
  qd P w K mg base (CXe P w) (k+1) f z m (hsp W l (Bz n ms)):=by
 subst J p;refine F.okX S xE λd A a s H X Q E O ⟨Z,R,G,u,M,p,I,r,q⟩=>?_;obtain⟨U,B,L⟩:=h d A a s H E O hW;refine⟨U,B,L Z M R H _ _ G (oZ I r) _ ?_⟩;unfold Bz at q;revert q;cases ms (u.map some++List.replicate (N.length-u.length) none) G with
 |exc c fs g=>exact id
 |wall=>exact id
 |nx e g=>exact λq j o C R2 i=>q j o R2.toHH i .non rfl
 |rt y g=>exact λq j o v T i D=>q j o T i v D
 |bk e g=>exact λq=>q.elim
 |ct e g=>exact λq=>q.elim
end
def o6{a:Type}:List (a×HV)->Option (List (a×PV))
 |[]=>some []
 | (k,.v x)::b=>(o6 b).map ((k,x)::·)
 |_::_=>none
def Gz:Cell->Option PV
 |.l b=>(Ez b).map .l
 |.d a=>(o6 a).map .d
 |.z a=>(o6 a).map .d
 |.o c fs=>(o6 fs).map (.o c)
 |.y _=>none
 |.m _ _ _=>none
def sres(G:AH):HV->Option PV
 |.v x=>some x
 |.t a=>(Ez a).map .t
 |.g k=>(G[k]?).bind Gz
def UI(G:AH):List Bool->YB->Option Sto
 |_,[]=>some []
 |[],_::a=>(UI G [] a).map (none::·)
 |false::bs,_::a=>(UI G bs a).map (none::·)
 |true::bs,some x::a=>(sres G x).bind λy=>(UI G bs a).map (some y::·)
 |true::_,none::_=>none
def hW(bs:Su)(m:ME):HME:=λa G=>match UI G bs a with
 |some r=>match m r with
  |.ok x=>.ok (.v x) G
  |.exc c fs=>.exc c fs G
  |.wall=>.wall
 |none=>.wall
section
variable {Z:HC}{A:SA}{H:Hp}{G:AH}{ρ:YB}
def eX{W:RC}{M:Sr}{n:Nat}:∀{b:List (Key×HV)}{a:SN}{c:SE},o6 b=some a->q_ (ZD W M A n H) b c->jX W M H a c
 |[],_,_,e,h=>by cases e;exact h
 | (k,.v x)::b,a,_,e,h=>by unfold o6 at e;obtain⟨i,g,rfl⟩:=u8.mp e;obtain⟨v,r,rfl,d,f⟩:=h;exact⟨v,r,rfl,d,eX g f⟩
 | (_,.g _)::_,_,_,e,_=>by cases e
 | (_,.t _)::_,_,_,e,_=>by cases e
def o7{W:RC}{M:Sr}{n:Nat}:∀{b:List (Str×HV)}{a:SO}{c:SW},o6 b=some a->q_ (ZD W M A n H) b c->vx W M H a c
 |[],_,_,e,h=>by cases e;exact h
 | (k,.v x)::b,a,_,e,h=>by unfold o6 at e;obtain⟨i,g,rfl⟩:=u8.mp e;obtain⟨v,r,rfl,d,f⟩:=h;exact⟨v,r,rfl,d,o7 g f⟩
 | (_,.g _)::_,_,_,e,_=>by cases e
 | (_,.t _)::_,_,_,e,_=>by cases e
def CP(h:HH Z A H G)(r:ZD Z.W (HM Z A G.length) A G.length H x v)(e:sres G x=some y):qe Z.W (λa=>H a≠none) (HM Z A G.length) H y v:=by
 cases x with
 |v z=>have e:some z=some y:=e;cases e;exact qe.sub (qe.iff.mpr (show Rep Z.W _ H y v from r)) (λ_ _ n=>n) λ_ m _=>m
 |t j=>obtain⟨w,i,rfl⟩:=u8.mp (show(Ez j).map PV.t=some y from e);obtain⟨p,u,rfl,s,q⟩:=r;exact⟨p,u,rfl,s,UH i q⟩
 |g k=>
  obtain⟨D,rfl⟩:=r;obtain⟨c,B,e⟩:=a0d.mp (show(G[k]?).bind Gz=some y from e);cases c with
  |y b=>cases e
  |m _ _ _=>cases e
  |l j=>obtain⟨w,i,rfl⟩:=u8.mp (show(Ez j).map PV.l=some y from e);obtain⟨u,f,q⟩:=h.cell k _ B;exact⟨A k,u,rfl,(show H (A k)≠none from λz=>by(rw[f]at z;cases z)),f,UH i q⟩
  |d j=>obtain⟨w,i,rfl⟩:=u8.mp (show(o6 j).map PV.d=some y from e);obtain⟨u,f,q⟩:=h.cell k _ B;exact⟨A k,u,rfl,(show H (A k)≠none from λz=>by(rw[f]at z;cases z)),.inl f,eX i q⟩
  |z j=>obtain⟨w,i,rfl⟩:=u8.mp (show(o6 j).map PV.d=some y from e);obtain⟨o,u,f,q⟩:=h.cell k _ B;exact⟨A k,u,rfl,(show H (A k)≠none from λz=>by(rw[f]at z;cases z)),.inr ⟨o,f⟩,eX i q⟩
  |o c j=>obtain⟨w,i,rfl⟩:=u8.mp (show(o6 j).map (PV.o c)=some y from e);obtain⟨C,u,f,q⟩:=h.cell k _ B;exact⟨A k,C,u,rfl,(show H (A k)≠none from λz=>by(rw[f]at z;cases z)),f,o7 i q⟩
def JX:∀{bs:Su}{ρ:YB}{r:Sto}{i:Nat}{x:PV},UI G bs ρ=some r->r[i]?=some (some x)->i<bs.length/\∃y,ρ[i]?=some (some y)/\sres G y=some x
 |_,[],r,i,x,e,h=>by unfold UI at e;cases e;simp at h
 |[],_::ρ,r,i,x,e,h=>by
  unfold UI at e;obtain⟨b,a,rfl⟩:=u8.mp e;cases i with
  |zero=>cases h
  |succ i=>rw[a0p]at h;exact absurd (JX a h).1 (a1k _)
 |false::bs,_::ρ,r,i,x,e,h=>by
  unfold UI at e;obtain⟨b,a,rfl⟩:=u8.mp e;cases i with
  |zero=>cases h
  |succ i=>rw[a0p]at h ⊢;exact⟨a2K (JX a h).1,(JX a h).2⟩
 |true::bs,some y::ρ,r,i,x,e,h=>by
  unfold UI at e;obtain⟨z,c,e⟩:=a0d.mp e;obtain⟨b,a,rfl⟩:=u8.mp e;cases i with
  |zero=>cases h;exact⟨a2J _,y,rfl,c⟩
  |succ i=>rw[a0p]at h ⊢;exact⟨a2K (JX a h).1,(JX a h).2⟩
 |true::bs,none::ρ,r,i,x,e,h=>by cases e
def UJ:∀{bs:Su}{ρ:YB}{r:Sto},UI G bs ρ=some r->r.length=ρ.length
 |_,[],r,e=>by unfold UI at e;cases e;rfl
 |[],_::ρ,r,e=>by unfold UI at e;obtain⟨b,a,rfl⟩:=u8.mp e;rw[S0,S0,UJ a]
 |false::bs,_::ρ,r,e=>by unfold UI at e;obtain⟨b,a,rfl⟩:=u8.mp e;rw[S0,S0,UJ a]
 |true::bs,some y::ρ,r,e=>by unfold UI at e;obtain⟨z,c,e⟩:=a0d.mp e;obtain⟨b,a,rfl⟩:=u8.mp e;rw[S0,S0,UJ a]
 |true::bs,none::ρ,r,e=>by cases e
end
def pD1(x:PV):PV->Out PV
 |.i n=>match pk x with|some k=>.ok (.d [(k,.i n)])|none=>.wall
 |_=>.wall
def mD1(mk b:ME):ME:=λa=>(mk a).bind λx=>(b a).bind λy=>pD1 x y
def O6(L:EM X C S w1 a m1)(N:EM X C S w2 b m2):FM X C S (.Dict [some a] [b] pos) (mD1 m1 m2):=λw=>by
 obtain⟨E,O,G⟩:=L w;obtain⟨U,J,D⟩:=N w;refine⟨_,FL (BW O J FK) rfl rfl (by intro h;cases h) (show 1<=15 by decide),λB P H f d R Q q=>λp hp=>?_⟩;have m:zA H (upd H p (.dK [])):=zA.upd hp;unfold mD1 at q;show E f _ _;refine G B P _ f d (R.keep m) _ ?_;cases r:m1 d with
 |exc c fs=>rw[r]at q;exact q
 |wall=>rw[r]at q;exact q
 |ok x=>
  rw[r]at q;intro v T e K;refine D B P _ f d (R.keep (m.trans e)) _ ?_;cases l:m2 d with
  |exc c fs=>have q:ya C B H _ Q ((m2 d).bind _):=q;rw[l]at q;exact q
  |wall=>have q:ya C B H _ Q ((m2 d).bind _):=q;rw[l]at q;exact q
  |ok y=>
   have q:ya C B H _ Q ((m2 d).bind _):=q;rw[l]at q;intro u M A F;have q:ya C B H _ Q (pD1 x y):=q;cases y with
   |i n=>
    cases s:pk x with
    |none=>have q:ya C B H _ Q (match pk x with|some k=>.ok (.d [(k,.i n)])|none=>.wall):=q;rw[s]at q;exact q.elim
    |some k=>
    have q:ya C B H _ Q (match pk x with|some k=>.ok (.d [(k,.i n)])|none=>.wall):=q;rw[s]at q;have ev:=WG (K.weak) s;have I:u=.int n:=F.weak;subst ev I;have g:M p=some (.dK []):=(e.trans A) _ _ zg;refine⟨g,[(k,.int n)],rfl,by show 1<=15;decide,q _ _ (λc o j=>?_) ⟨p,rfl,hp,[(k,.int n)],zg,⟨_,_,rfl,rfl,rfl⟩⟩⟩;have:c≠p:=λz=>by rw[z,hp]at j;cases j
    rw[zi this];exact(m.trans (e.trans A)) _ _ j
   |_=>exact(show False from q).elim
def mQ(G:AH):Nat->HV->Option PV
 |0,_=>none
 |_+1,.v x=>if imm x=true then some x else none
 |n+1,.t a=>(eS (mQ G n) a).map .t
 |n+1,.g k=>match G[k]? with
  |some (.l a)=>(eS (mQ G n) a).map .l
  |some (.d b)=>(sj (mQ G n) b).map .d
  |_=>none
section
variable {Z:HC}{A:SA}{H:Hp}{G:AH}
def UK{N:Sr}(h:HH Z A H G)(a:∀k,k<G.length->N (A k)):∀(n:Nat)(x:HV)(v:V)(y:PV),ZD Z.W (HM Z A G.length) A G.length H x v->mQ G n x=some y->Rep Z.W N H y v
 |0,_,_,_,_,e=>by cases e
 |n+1,.v x,v,y,r,e=>by
  unfold mQ at e;split at e
  .rename_i l;cases e;exact ax l r
  .cases e
 |n+1,.t j,v,y,r,e=>by unfold mQ at e;obtain⟨i,b,rfl⟩:=u8.mp e;unfold ZD at r;obtain⟨p,c,rfl,s,q⟩:=r;exact⟨p,c,rfl,s,YC (UK h a n) q b⟩
 |n+1,.g k,v,y,r,e=>by
  obtain⟨g,rfl⟩:=r;unfold mQ at e;split at e
  .rename_i j f;obtain⟨i,b,rfl⟩:=u8.mp e;obtain⟨c,d,q⟩:=h.cell k _ f;exact⟨A k,c,rfl,a k g,d,YC (UK h a n) q b⟩
  .rename_i j f;obtain⟨i,b,rfl⟩:=u8.mp e;obtain⟨c,d,q⟩:=h.cell k _ f;exact⟨A k,c,rfl,a k g,.inl d,JW (UK h a n) q b⟩
  .cases e
def CQ:HH ⟨Z.W,H,λ_=>True⟩ A H []:=⟨zA.refl _,λk c e=>(by cases e),λj k b=>absurd b (a1k _),λk a=>absurd a (a1k _)⟩
def dh(g:Gro ⟨Z.W,H,λ_=>True⟩ A 0 H A' n H'):zA H H':=λa o e=>g.fr a o e (.inl ⟨.inl trivial,λk b=>absurd b (a1k _)⟩)
end
def vOf(g:List HV->AH->HX HV)(xs:SH):Out PV:=match g (xs.map .v) []with
 |.ok y X=>match mQ X 8 y with
  |some z=>.ok z
  |none=>.wall
 |.exc c fs _=>if Ey fs=true then .exc c fs else .wall
 |.wall=>.wall
def EC{W:RC}{M:Sr}{H:Hp}{Z:HC}{A:SA}(d:∀a,HM Z A 0 a):∀{e:Su}{f:SH}{g:Sx},jE W M H e f g->qZ W (HM Z A 0) A 0 H (f.map .v) g
 |[],_,_,⟨c,b⟩=>by subst c;exact b
 |w::e,_,_,⟨x,v,l,h,c,b,i,j⟩=>by subst c;exact⟨v,h,b,qe.iff.mp (qe.sub i (λa _ _=>d a) λa _ _=>d a),EC d j⟩
def xJ{P:SG}{w:SI}{K:SV}{mg:Sl}{b:Heap}{k n:Nat}{f:Addr}{m:SK}{j:Sn}{W:RC}{g:List HV->AH->HX HV}{ws:Su}(F:qd P w K mg b (CXe P w) k f m j (hsp W n g))(G:ws.length=n):qd P w K mg b (CXe P w) k f m j (lsp W false ws (vOf g)):=
 F.imp λJ H Q E ⟨M,l,a,q⟩=>by
  have C:∀a,HM ⟨W,H,λ_=>True⟩ (λ_=>0) 0 a:=λa=>⟨.inl trivial,λk i=>absurd i (a1k _)⟩;refine⟨⟨W,H,λ_=>True⟩,λ_=>0,[],l.map .v,rfl,by rw[v4,a.len.2,G],CQ (Z:=⟨W,H,λ_=>True⟩),EC C a,?_⟩;unfold vOf at q;revert q;cases g (l.map .v) []with
  |wall=>exact λq=>q.elim
  |exc c fs p=>
   intro q;dsimp only at q;split at q
   .rename_i r;exact λA h e B I o d u s D=>q e B I h (dh (Z:=⟨W,H,λ_=>True⟩) d) u s (JV r D)
   .exact q.elim
  |ok y p=>
   intro q;dsimp only at q;split at q
   .rename_i z hz;intro A h o d v x;exact q v h (dh (Z:=⟨W,H,λ_=>True⟩) d) (show Rep W _ h z v from UK o (λk i=>.inr (d.fresh k (a0y _) i)) 8 y v z x hz)
   .exact q.elim
def signsOf:PV->Out (List PV)
 |.s z=>.ok (z.cps.toList.map λc=>.s ⟨#[c]⟩)
 |_=>.wall
def ia(m:ME):MI:=λa=>(m a).bind signsOf
def Mi:Gi W M N H2 (Its z) (z.cps.toList.map λc=>PV.s ⟨#[c]⟩):=λj f=>by refine⟨λi x d=>?_,by rw[v4];exact a19 a1q.symm⟩;rw[a0k]at d;obtain⟨c,b,rfl⟩:=u8.mp d;rw[Array.getElem?_toList]at b;refine⟨(a1M.mp b).1,λv g e=>?_⟩;obtain⟨rfl,h,a,rfl⟩:=e;rw[b]at a;cases a;exact⟨zA.refl _,λ_ _=>rfl⟩
def xK:List PV->Option (List Str)
 |[]=>some []
 |.s z::a=>(xK a).map (z::·)
 |_::_=>none
def GA:∀{c:Sx}{a:Sn},yq W M H b c->xK b=some a->c=a.map V.str:=by
 induction b with
 |nil=>intro c a r e;cases e;unfold yq at r;exact r
 |cons x b h=>
  intro c a r e;unfold yq at r;obtain⟨v,q,rfl,d,g⟩:=r;cases x with
  |s z=>obtain⟨i,f,rfl⟩:=u8.mp (show(xK b).map (z::·)=some a from e);unfold Rep at d;rw[h g f,d];rfl
  |_=>cases(show(none:Option (List Str))=some a from e)
def o8:∀{a:Sn},xK (a.map .s)=some a
 |[]=>rfl
 |y::a=>by show(xK (a.map .s)).map _=_;rw[o8];rfl
def ib(a:Str):PV->Out PV
 |.l c=>match xK c with
  |some b=>if(b.map (·.length)).sum+b.length*a.length<=16777216 then .ok (.s (Txt.join a b))else .wall
  |none=>.wall
 |_=>.wall
def O7(g:Str->PV->Out PV)(c b:ME):ME:=λa=>(c a).bind λx=>match x with
 |.s z=>(b a).bind (g z)
 |_=>.wall
def GB(D:EM X C S w1 o m1)(N:EM X C S w2 e m2)(E:attributeBase o "join" X.env (eval o X.env)=eval o X.env:=by rfl)
  (J:((backTo wW (starEach [e] X.env)).all (λx=>!x.1)&&(backToKw wW (keywordEach [] X.env)).all (λx=>x.1.isSome)
   && decide (([e]:List Expr).length+([]:List Keyword).length+(if([]:List Keyword).isEmpty then 0 else 1)<30))=true:=by rfl)
  (G:(jI.endLine==wW.line)=true:=by rfl) (j:starEach [e] X.env=[(false,eval e X.env)]:=by rfl):EM X C S false (.Call (.Attribute o "join" jI) [e] [] wW) (O7 ib m1 m2):=λr=>by
 obtain⟨Y,O,K⟩:=D r;obtain⟨W,L,w⟩:=N r;refine⟨_,BO PySem.F.plainAttrs_str PySem.F.slot_str_join PySem.F.type_str_join FY O (Zv L Xg (by rw[j];rfl)) E J G (by rw[j];rfl) rfl,λB P H m g R Q q=>K B P H m g R _ (zN q λx v F y M n=>?_)⟩;cases x with
 |s z=>
  have ev:v=V.str z:=M.weak;subst ev;refine⟨rfl,w B P F m g (R.keep y) _ (zN (o:=m2 g) (f:=ib z) n λx u Z s2 I a=>?_)⟩;cases x with
  |l b=>
   obtain⟨p,U,rfl,_,T,A⟩:=I.weak;cases d:xK b with
   |none=>
    have e:ib z (.l b)=.wall:=by show(match xK b with|some c=>_|none=>_)=_;rw[d]
    rw[e]at a;exact a.elim
   |some c=>
    have i:=GA A d;subst i;by_cases h:(c.map (·.length)).sum+c.length*z.length<=16777216
    .have e:ib z (.l b)=.ok (.s (Txt.join z c)):=by show(match xK b with|some c=>_|none=>_)=_;rw[d];exact if_pos h
     rw[e]at a;exact⟨z,p,c,rfl,rfl,SqL.of T,h,a _ _ (zA.refl _) (RV.of rfl)⟩
    .have e:ib z (.l b)=.wall:=by show(match xK b with|some c=>_|none=>_)=_;rw[d];exact if_neg h
     rw[e]at a;exact a.elim
  |_=>exact a.elim
 |_=>exact n.elim
def Mj:List V->Hp->VK->Prop:=λa H Q=>∃n:Int,a=[.int n]/\n.natAbs.log2<1920/\Q (.str (toString n)) H
def xM:Yj X (.type "str") Mj:=by intro a s d H e c Q I r h;obtain⟨n,rfl,b,q⟩:=h;obtain⟨u,rfl,t,rfl⟩:=vals1 r;exact P.str_of_int b ⟨.str _,H,I.tok _,⟨_,rfl⟩,q⟩
def ED:List PV->Out PV
 |[.i n]=>if n.natAbs.log2<1920 then .ok (.s (toString n))else .wall
 |_=>.wall
def GC:LfC W Mj ED:=λM C B H d e Q n h q=>by
 unfold ED at q;split at q
 .obtain⟨v,r,rfl,b,c⟩:=h;cases(show _=_ from c);cases(show _=_ from b);split at q
  .rename_i a;exact⟨_,rfl,a,q _ H (zA.refl _) rfl⟩
  .exact q.elim
 .exact q.elim
def xN(c:Gl X "str")(b:X.mg "str"=none)(a:AM X C S ws [e] ms)(he:starEach [e] X.env=[(false,eval e X.env)]:=by rfl):EM X C S false (.Call (.Name "str" p) [e] [] pos) (zh ED ms):=
 Cm (λ_=>xM) GC c b PyProof.Rows.Boot.str a (he:=he)
def Ml(h:EM X C S w e m):IM X C S cc (.Name y py) e (ia m):=λb=>by
 obtain⟨j,g,i⟩:=h b;refine⟨_,Lc g,λB P H d a R Q q=>i B P H d a R _ ?_⟩;unfold ia at q;revert q;cases m a with
 |exc c fs=>exact id
 |wall=>exact id
 |ok x=>
  intro q v f s r;cases x with
  |s z=>have ev:v=V.str z:=r.weak;exact⟨z,ev,q _ f s Mi⟩
  |_=>exact(show False from q).elim
def WN(k:Nat)(g:HMG)(b:HMS):Nat->Nat->YB->AH->HFw
 |r,i,f,G=>match G[k]? with
  |some (.l h)=>match h[i]? with
   |none=>.nx f G
   |some x=>match r with
    |0=>.wall
    |r+1=>match g x f with
     |none=>.wall
     |some e=>match b e G with
      |.nx a d=>WN k g b r (i+1) a d
      |.ct a d=>WN k g b r (i+1) a d
      |.bk a d=>.nx a d
      |.rt v d=>.rt v d
      |.exc c fs d=>.exc c fs d
      |.wall=>.wall
  |_=>.wall
def CS(m:HME)(g:HMG)(b:HMS):HMS:=λa G=>(m a G).fw λx c=>match x with
 |.g k=>match c[k]? with
  |some (.l d)=>WN k g b d.length 0 a c
  |_=>.wall
 |_=>.wall
def GD(hp:PassesOwn (TQ X) X.A X.env X.xe)(hc:X.calm=true)(hi:HE X W E jZ m)(hg:HG X W tg mg)(hb:HSs X W E body mb)(hs:∀x,foldedSetIterable jZ X.env x=pure x:=by intro _;rfl):
  HS X W E (.For tg jZ body [] pos) (CS m mg mb):=λY=>by
 obtain⟨te,a1,a2⟩:=hi Y;obtain⟨g,b1,b2⟩:=hg Y;obtain⟨tb,c1,c2⟩:=hb Y;refine⟨_,tZ hp hc (u9 a1) b1 c1 hs,λZ L A H σ ρ G R D q=>a2 Z L A H σ ρ G R _ (HPs.bind q λx F H1 G1 h1 g1 z v rx=>?_)⟩;split at z
 .rename_i k;obtain⟨hk,rfl⟩:=(show _/\_ from rx);split at z
  .rename_i xs hx;have R1:=R.gro h1 g1;obtain⟨vs,hl,rs⟩:=h1.cell k _ hx;refine .inl ⟨F k,rfl,⟨vs,SqL.of hl⟩,?_⟩;refine⟨λi n l J=>∃a f d,HR Z f J l a d/\Gro Z F G1.length H1 f d.length J/\HPs Z E f d.length J D (WN k mg mb n i a d),⟨xs.length,ρ,F,G1,R1,Gro.refl,z⟩,?_⟩
   rintro i n l J ⟨a,f,d,P,U,b⟩
   have ak:f k=F k:=U.agr k hk;unfold WN at b;split at b
   .rename_i ys hy;obtain⟨us,K,ru⟩:=P.toHH.cell k _ hy;rw[ak]at K;split at b
    .rename_i hn;refine .inl ⟨⟨us,SqL.of K,?_⟩,b f J l P Gro.refl⟩;rw[ru.len];exact a2w.mp hn
    .rename_i y Q;obtain⟨u,B,O⟩:=ru.get Q;split at b
     .exact b.elim
     .rename_i r;refine .inr ⟨⟨us,u,SqL.of K,B⟩,λC j=>∃a f d,HR Z f j C a d/\Gro Z F G1.length H1 f d.length j/\HPs Z E f d.length j D (WN k mg mb r (i+1) a d),λC j h=>⟨r,a08 _,h⟩,λv' I hv=>?_⟩;obtain⟨rfl,hv⟩:=hv;have:=hv us (SqL.of K);rw[B]at this;cases this;split at b
      .exact b.elim
      .rename_i s T;refine b2 Z L f I l a d y u P O _ ⟨s,T,λM R1=>c2 Z L f I M s d R1 _ ?_⟩;revert b;cases mb s d with
       |wall=>exact id
       |exc c fs p=>exact id
       |nx e p=>exact λb N H3 σ3 S w=>⟨e,N,p,S,U.trans w,HPs.gro (o:=WN k mg mb r (i+1) e p) b w⟩
       |ct e p=>exact λb N H3 σ3 S w=>⟨e,N,p,S,U.trans w,HPs.gro (o:=WN k mg mb r (i+1) e p) b w⟩
       |bk e p=>exact id
       |rt x p=>exact id
   .exact b.elim
  .exact z.elim
 .exact z.elim
def GF(kvs:SN)(y:PV):Out PV:=match pk y with
 |some k=>.ok ((zP kvs k).getD .n)
 |none=>.wall
def NW(d c:ME):ME:=λb=>(d b).bind λx=>match x with
 |.d a=>(c b).bind (GF a)
 |_=>.wall
def Mm(D:X.A.units+1<cLine)(O:EM X C S w1 o m1)(T:EM X C S w2 e m2)(m:M1 X o "get" jI e wW):EM X C S false (.Call (.Attribute o "get" jI) [e] [] wW) (NW m1 m2):=λA=>by
 obtain⟨W,U,J⟩:=O A;obtain⟨Y,M,E⟩:=T A;refine⟨_,BX D U M m,λB P H r h R Q q=>J B P H r h R _ (zN q λx v G F N w=>?_)⟩;cases x with
 |d a=>
  obtain⟨p,g,rfl,_,s,rk⟩:=N.weak;refine⟨p,rfl,.inl ⟨g,s⟩,E B P G r h (R.keep F) _ (zN (o:=m2 h) (f:=GF a) w λy u i j I b=>?_)⟩;cases l:pk y with
  |none=>
   have e:GF a y=.wall:=by unfold GF;rw[l]
   rw[e]at b;exact b.elim
  |some k=>
   have e:GF a y=.ok ((zP a k).getD .n):=by unfold GF;rw[l]
   rw[e]at b;have L:=WG I.weak l;subst L;have n:Rd i p (.dK g):=s.elim (λz=>.inl (j _ _ z)) λ⟨o,z⟩=>.inr ⟨o,j _ _ z⟩;refine⟨X_ g k,.inl ⟨g,k,n,rfl,rfl⟩,?_⟩;cases c:zP a k with
   |none=>rw[c]at b;rw[rk.NL c];exact b _ i (zA.refl _) (RV.of rfl)
   |some x=>rw[c]at b;obtain⟨v,ev,K⟩:=rk.get c;rw[ev];exact b _ i (zA.refl _) (RV.of (K.same j))
 |_=>exact w.elim
def pk2:List PV->Option (List Key)
 |[x,y]=>(pk x).bind λa=>(pk y).bind λb=>some [a,b]
 |_=>none
def WO(s:zA H H')(h:Rd H p u):Rd H' p u:=(zA.fr (M:=λ_=>True) s).rd h trivial
def WQ{k:Ti}:∀{kvs:Tq},X_ (dtV kvs) k=(zP kvs k).map V.int
 |[]=>rfl
 |q::r=>by
  unfold dtV X_ zP;rw[T2,a1z,a1z];by_cases c:q.1=k
  .simp only[c,decide_true];rfl
  .simp only[c,decide_false];exact WQ (kvs:=r)
def GG:putK (dtV a) k (.int n)=dtV (dput a k n):=by
 have e:∀{a:Tq},(dtV a).any (λb=>decide (b.1=k))=a.any (λb=>decide (b.1=k))/\(dtV a).map (λb=>if b.1=k then(b.1,V.int n)else b)=dtV (a.map λb=>if b.1=k then(b.1,n)else b):=λ{a}=>by
  induction a with
  |nil=>exact⟨rfl,rfl⟩
  |cons q r d=>
   unfold dtV at d ⊢;refine⟨by rw[T2,a0O,a0O,d.1],?_⟩;rw[T2,T2,T2,T2,d.2];by_cases c:q.1=k
   .rw[if_pos c,if_pos c]
   .rw[if_neg c,if_neg c]
 unfold putK dput;rw[e.1];split
 .exact e.2
 .unfold dtV;rw[a0m];rfl
section
variable {X:Cx}{C:LC}{S Sb Sc:So}{e a b o:Sy}{es:Sw}{w1 w2:Bool}{ws:Su}{m m1 m2:ME}{ms:MA}{pos p pos':Pos}{i x1:Nat}
def RVs.NX(h:RVs C B S P H ws xs vs)(c:pk2 xs=some ks):vs=ks.map kV/\vs.length<=sizeLine:=by
 have h:=h.weak
 match xs,c with
 |[x,y],c=>obtain⟨q,g,c⟩:=a0d.mp c;obtain⟨n,j,c⟩:=a0d.mp c;cases c;obtain⟨v,r,rfl,d,u,l,rfl,f,e⟩:=h;cases(show l=[]from e);rw[WG d g,WG f j];exact⟨rfl,by show 2<=sizeLine;decide⟩
def EE:ME:=λ_=>.ok (.dt [])
def CT:FM X C S (.Dict [] [] pos) EE:=λf=>⟨_,BV,λB P H d c R Q q=>λp hp=>q _ _ (zA.upd hp) ⟨p,rfl,hp,zg⟩⟩
def P9(x:PV)(xs:SH):Out PV:=match x,pk2 xs with
 |.dt c,some d=>kW ((zP c d).map PV.i)
 |_,_=>.wall
def ic(m:ME)(ms:MA):ME:=λc=>(m c).bind λx=>(ms c).bind λd=>P9 x d
def ay(s:X.A.units+1<cLine)(J:EM X C S w1 a m1)(O:AM X C S ws es ms)(r:WD (.Tuple es x1 p):=by intro _ _;rfl):EM X C S false (.Subscript a (.Tuple es x1 p) pos) (ic m1 ms):=λg=>by
 obtain⟨Y,T,E⟩:=J g;obtain⟨tb,F,h⟩:=O g;refine⟨_,BM (mr s) T (UZ F) r,λB P H d f R Q q=>E B P H d f R _ (zN q λx v A j G K=>h B P A d f (R.keep j) _ (qw K λxs Z H2 N D c=>?_))⟩;unfold P9 at c;split at c
 .rename_i u ks l;obtain⟨y,M,I⟩:=qj c;obtain⟨n,U,rfl⟩:=u8.mp M;obtain⟨rfl,W⟩:=D.NX l;obtain⟨p,rfl,_,L⟩:=G.weak;refine⟨W,λz hz=>⟨p,.int n,rfl,.inr ⟨_,_,z,WO (zA.upd hz) (WO N L),rfl,zg,by rw[WQ,U];rfl⟩,I _ _ (zA.upd hz) (RV.of rfl)⟩⟩
 .exact c.elim
def inT(c:Bool)(ks:Ti):PV->Out PV
 |.dt d=>.ok (.b (xor c (zP d ks).isSome))
 |_=>.wall
def eY(c:Bool)(ms:MA)(m:ME):ME:=λd=>(ms d).bind λg=>match pk2 g with
 |some f=>(m d).bind (inT c f)
 |none=>.wall
def EF(x:LA C S ws ta ms)(r:LE C S w1 tb m1):LE C S false (tOp (NP C.W.K neg) (PR ta) tb) (eY neg ms m1):=λB P H f g R Q q=>x B P H f g R _ (qw q λI D E h n d=>by
 split at d
 .rename_i F j;obtain⟨rfl,A⟩:=n.NX j;refine⟨A,λz hz=>r B P _ f g ((R.keep h).keep (zA.upd hz)) _ (zN (Yl d (zA.upd hz)) λy u G v l c=>?_)⟩;unfold inT at c;split at c
  .obtain⟨p,rfl,_,s⟩:=l.weak;exact .inr ⟨p,_,rfl,.inr ⟨_,_,z,s,rfl,v _ _ zg,rfl⟩,by rw[WQ,a06];exact c _ _ (zA.refl _) (RV.of rfl)⟩
  .exact c.elim
 .exact d.elim)
def xO(d:X.A.units+1<cLine)(j:AM X C S ws es ms)(n:EM X C S w2 b m2)(g:behindInMarks .In b=false:=by with_unfolding_all rfl):TM X C S (.Compare (.Tuple es x1 p) [.In] [b] pos) (z0 (eY false ms m2)):=λc=>by obtain⟨r,l,q⟩:=j c;obtain⟨s,f,h⟩:=n c;exact⟨_,lU (Ek d) (UZ l) f g,U9 (by rw[c];exact EF q h)⟩
def VG(d:X.A.units+1<cLine)(j:AM X C S ws es ms)(n:EM X C S w2 b m2)(g:behindInMarks .NotIn b=false:=by with_unfolding_all rfl):TM X C S (.Compare (.Tuple es x1 p) [.NotIn] [b] pos) (z0 (eY true ms m2)):=λc=>by obtain⟨r,l,q⟩:=j c;obtain⟨s,f,h⟩:=n c;exact⟨_,lU (g5 d) (UZ l) f g,U9 (by rw[c];exact EF q h)⟩
def O8(i:Nat)(ρ:Sto)(o:Out (List PV)):Option (Option PV)->PV->Out Fw
 |some (some (.dt c)),.i n=>o.bind λd=>match pk2 d with
  |some k=>if c.length<sizeLine then .ok (.nx (ρ.set i (some (.dt (dput c k n)))))else .wall
  |none=>.wall
 |_,_=>.wall
def ie(i:Nat)(ms:MA)(d:ME):MS:=λc=>(d c).bind λv=>O8 i c (ms c) c[i]? v
def mR(K:X.A.units+1<cLine)(M:PE X o (rA i))(j:AM X C S ws es ms)(hv:EM X C S false e m2)(E:S[i]?=some 2:=by rfl)(L:swapsWith e (some (.Subscript o (.Tuple es x1 p) pos')) pos.line X.env=pure false:=by rfl):
  SM X C S S Sb Sc (.Assign [.Subscript o (.Tuple es x1 p) pos'] e pos) (ie i ms m2):=λI=>by
 obtain⟨ta,Y,Q⟩:=j I;obtain⟨tv,W,J⟩:=hv I;refine⟨_,l5 K M (UZ Y) W L,λB P H l d R D q=>J B P H l d R _ ?_⟩;unfold ie at q;revert q;cases m2 d with
 |ok y=>
  intro q v F x U;have A:=R.keep x;have q:ZC C B S Sb Sc D (O8 i d (ms d) d[i]? y):=q;unfold O8 at q;split at q
  .rename_i f n T q0;obtain⟨h,hp,Z⟩:=A.at2 E T;have hp:F (P i)=some (.dT (dtV f)):=hp;cases(show v=.int n from U.weak);refine⟨_,h,Q B P F l d A _ ?_⟩;revert q;cases ms d with
   |ok z=>
    intro q u H2 g N;have R2:=A.keep g;have q:ZC C B S Sb Sc D (match pk2 z with
     |some k=>if f.length<sizeLine then .ok (.nx (d.set i (some (.dt (dput f k n)))))else .wall
     |none=>.wall):=q
    split at q
    .rename_i k j;split at q
     .rename_i hz;obtain⟨rfl,r⟩:=N.NX j;refine⟨r,λt G=>?_⟩;have O:=R2.keep (zA.upd (o:=.tup (k.map kV)) G);have s:=zA.upd (o:=.tup (k.map kV)) G _ _ (g _ _ hp);refine⟨_,_,rfl,BR.t s zg (by unfold dtV;rw[v4];exact hz),q P _ l (O.wr E Z h (by exact id) ?_)⟩;show upd _ _ _ _=_;rw[zg,GG]
     .exact q.elim
    .exact q.elim
   |exc c fs=>exact id
   |wall=>exact id
  .exact q.elim
 |exc c fs=>exact id
 |wall=>exact id
end
def O9{g:Type}{P:List g->Prop}{us:List g}(i:us.length=6)(h:∀a b c d e f,P [a,b,c,d,e,f]):P us:=by
 match us,i with|[a,b,c,d,e,f],_=>exact h a b c d e f
end L2
namespace L2
open PySem PySem.W PyProof.Rows
def UL{b:Type}(P:Tx)(f:Tv):KasT b->(b->Prop)->Prop
 |.ret a,Q=>Q a
 |.ask i j k,Q=>P i/\P j/\UL P f (k (f i j)) Q
def Yo{b c:Type}{P:Tx}{f:Tv}{g:b->KasT c}{Q:c->Prop}:∀{t:KasT b},UL P f t (λa=>UL P f (g a) Q)->UL P f (t.bind g) Q
 |.ret _,h=>h
 |.ask _ _ _,h=>⟨h.1,h.2.1,Yo h.2.2⟩
def qI{d:Type}{P:Tx}{f:Tv}{Q b:d->Prop}(c:∀a,Q a->b a):∀{t:KasT d},UL P f t Q->UL P f t b
 |.ret _,h=>c _ h
 |.ask _ _ _,h=>⟨h.1,h.2.1,qI c h.2.2⟩
def xP{g:Type}{P:Tx}{f:Tv}{b:Nat->Nat->(Bool->Shared->Prop)->Shared->Prop}{J:Shared->Prop}(m:∀i j C s,P i->P j->J s->(∀d,J d->C (f i j) d)->b i j C s){Q:g->Prop}{R:g->Shared->Prop}(l:∀a s,Q a->J s->R a s):∀{t:KasT g}{s:Ss},J s->UL P f t Q->t.kasWp b R s
 |.ret a,s,c,h=>l a s h c
 |.ask i j k,s,c,h=>m i j _ s h.1 h.2.1 c λd e=>xP m l e h.2.2
abbrev at0(p:Th)(k:Nat):Nat:=p.getD k 0
def VH:at0 p k=(p[k]?).getD 0:=by
 unfold at0;by_cases h:k<p.size
 .simp[Array.getD,h]
 .simp[Array.getD,h]
def eZ(a:j<=p.size)(k:Nat):at0 (kas_rev p i j) k=if i<=k/\k<j then at0 p (i+j-1-k)else at0 p k:=by rw[VH,VH,VH];unfold kas_rev;rw[getElem?_mirror_all a];split<;>rfl
def di(a:k<p.size)(b:l<=k)(i:Nat):at0 (bubble p k (k-l)) i=if i=l then at0 p k else if l<i/\i<=k then at0 p (i-1)else at0 p i:=by
 rw[VH,VH,VH,VH,getElem?_bubble a (k-l) (by omega),show k-(k-l)=l by omega];split
 .rfl
 .split<;>rfl
section
variable {O:KeyOrd}{key:Nat->O.α}{n:Nat}
abbrev kk(key:Nat->O.α)(p:Th)(i:Nat):O.α:=key (at0 p i)
abbrev ans(key:Nat->O.α)(i j:Nat):Bool:=O.blt (key i) (key j)
structure Pm(n:Nat)(p:Th):Prop where
 perm:p.toList.Perm (List.range n)
 size:p.size=n
def Pm.rev(h:Pm n p):Pm n (kas_rev p i j):=⟨(a2p.mp (mirror_perm p i j _)).trans h.perm,(kas_rev_size i j).trans h.size⟩
def Pm.bub(h:Pm n p):Pm n (bubble p i j):=⟨(a2p.mp (bubble_perm p i j)).trans h.perm,(bubble_size p i j).trans h.size⟩
def Pm.lt(h:Pm n p)(b:0<n)(k:Nat):at0 p k<n:=by
 rw[VH];by_cases a:k<p.size
 .rw[getElem?_pos p k a];have:p[k]∈p.toList:=by simp
  exact a0Y.mp (h.perm.mem_iff.mp this)
 .rw[getElem?_neg p k a];exact b
def Up(key:Nat->O.α)(p:Th)(m:Nat):Prop:=∀i j,i<=j->j<m->O.kle (kk key p i) (kk key p j)
def Dn(key:Nat->O.α)(p:Th)(m:Nat):Prop:=∀i j,i<=j->j<m->O.kle (kk key p j) (kk key p i)
def xQ{p:Th}(hp:Pm n p)(o:0<n):∀{f m:Nat},1<=m->m+f<=n->Up key p m->UL (·<n) (ans key) (kas_asc p f m) λr=>m<=r/\r<=m+f/\Up key p r/\(r<m+f->O.klt (kk key p r) (kk key p (r-1)))
 |0,m,_,_,e=>⟨S7 _,S7 _,e,λh=>absurd h (by omega)⟩
 |f+1,m,v,u,e=>by
  refine⟨hp.lt o _,hp.lt o _,?_⟩;show UL _ _ (if O.blt (kk key p m) (kk key p (m-1))=true then _ else _) _;cases q:O.blt (kk key p m) (kk key p (m-1))with
  |true=>exact⟨S7 _,by omega,e,λ_=>q⟩
  |false=>
   have g:Up key p (m+1):=λi j l w=>by
    by_cases c:j=m
    .subst c;by_cases s:i=j
     .subst s;exact O.irrefl _
     .exact a2M (e i (j-1) (by omega) (by omega)) q
    .exact e i j l (by omega)
   exact qI (λr ⟨a,b,c,d⟩=>⟨by omega,by omega,c,λh=>d (by omega)⟩) (xQ hp o (f:=f) (m:=m+1) (by omega) (by omega) g)
structure HU(key:Nat->O.α)(n:Nat)(p:Th)(m q:Nat):Prop where
 pm:Pm n p
 dn:Dn key p m
 le:m<=n
 qm:q+1<=m
 eq:∀k,m-(q+1)<=k->k<m->kk key p k=kk key p (m-1)
def HU.alike(h:HU key n p m q)(k:Nat):kk key (kas_rev p (m-(q+1)) m) k=kk key p k:=by
 have d:=h.le;have e:=h.pm.size;have f:=h.qm;unfold kk;rw[eZ (by omega)];split
 .rename_i c;have b:=h.eq (m-(q+1)+m-1-k) (by omega) (by omega);have a:=h.eq k c.1 c.2;exact b.trans a.symm
 .rfl
def mS(g:0<n):∀{f m q:Nat}{p:Th},m+f<=n->HU key n p m q->UL (·<n) (ans key) (kas_desc f p m q) λr=>m<=r.2.1/\r.2.1<=m+f/\HU key n r.1 r.2.1 r.2.2
 |0,m,q,p,_,h=>⟨S7 _,S7 _,h⟩
 |f+1,m,q,p,B,h=>by
  have C:=h.qm;refine⟨h.pm.lt g _,h.pm.lt g _,?_⟩;show UL _ _ (if O.blt (kk key p m) (kk key p (m-1))=true then _ else _) _;have l:∀{d:Th},(∀k,kk key d k=kk key p k)->O.kle (kk key p m) (kk key p (m-1))->Dn key d (m+1):=λ{d} o s i j u D=>by
   rw[o,o];by_cases c:j=m
   .subst c;by_cases z:i=j
    .subst z;exact O.irrefl _
    .exact a2M s (h.dn i (j-1) (by omega) (by omega))
   .exact h.dn i j u (by omega)
  cases v:O.blt (kk key p m) (kk key p (m-1))with
  |true=>
   have s:O.kle (kk key p m) (kk key p (m-1)):=a2N v;have x:∀{d:Th},Pm n d->(∀k,kk key d k=kk key p k)->UL (·<n) (ans key) (kas_desc f d (m+1) 0) λr=>m<=r.2.1/\r.2.1<=m+(f+1)/\HU key n r.1 r.2.1 r.2.2:=λ{d} hp o=>
    qI (λr ⟨a,b,c⟩=>⟨by omega,by omega,c⟩) (mS g (f:=f) (m:=m+1) (q:=0) (p:=d) (by omega) ⟨hp,l o s,by omega,by omega,λk y A=>by rw[show k=m+1-1 by omega]⟩)
   show UL _ _ (if q>0 then kas_desc f (kas_rev p (m-(q+1)) m) (m+1) 0 else kas_desc f p (m+1) 0) _;by_cases c:q>0
   .rw[if_pos c];exact x h.pm.rev h.alike
   .rw[if_neg c];exact x h.pm λ_=>rfl
  |false=>
   refine⟨h.pm.lt g _,h.pm.lt g _,?_⟩;show UL _ _ (if O.blt (kk key p (m-1)) (kk key p m)=true then _ else _) _;cases w:O.blt (kk key p (m-1)) (kk key p m)with
   |true=>exact⟨S7 _,by show m<=m+(f+1);omega,h⟩
   |false=>
    have e:kk key p m=kk key p (m-1):=O.total _ _ v w;refine qI (λr ⟨a,b,c⟩=>⟨by omega,by omega,c⟩) (mS g (f:=f) (m:=m+1) (q:=q+1) (p:=p) (by omega) ⟨h.pm,l (λ_=>rfl) w,by omega,by omega,λk y A=>?_⟩);by_cases c:k=m
    .rw[c];rfl
    .rw[show m+1-1=m by omega,e];exact h.eq k (by omega) (by omega)
abbrev O_(key:Nat->O.α)(n:Nat):Nat×Array Nat->Prop:=λr=>Pm n r.2/\1<=r.1/\r.1<=n/\Up key r.2 r.1
def o9(l:0<n)(hp:Pm n p)(e:1<=m)(o:m<=n)(g:Dn key p m):UL (·<n) (ans key) (kas_tail3 m n p) (O_ key n):=by
 have q:=hp.size;have d:Up key (kas_rev p 0 m) m:=λi j h s=>by unfold kk;rw[eZ (by omega),eZ (by omega),if_pos ⟨by omega,by omega⟩,if_pos ⟨by omega,by omega⟩];exact g (0+m-1-j) (0+m-1-i) (by omega) (by omega)
 refine Yo (qI (λr ⟨a,b,c,_⟩=>?_) (xQ hp.rev l (f:=n-m) (m:=m) e (by omega) d));exact⟨hp.rev,by show 1<=r;omega,by show r<=n;omega,c⟩
def az(e:0<n)(hp:Pm n p)(x:1<=m)(s:m+1<=n)(he:∀k,k<m->kk key p k=kk key p (m-1))(o:O.klt (kk key p m) (kk key p (m-1))):UL (·<n) (ans key) (kas_descPart m n p) (O_ key n):=by
 have v:=hp.size;have hf:HU key n p (m+1) 0:=⟨hp,λi j d g=>by
  by_cases c:j=m
  .subst c;by_cases l:i=j
   .subst l;exact O.irrefl _
   .rw[he i (by omega)];exact a2N o
  .rw[he i (by omega),he j (by omega)];exact O.irrefl _,by omega,by omega,λk u y=>by rw[show k=m+1-1 by omega]⟩
 refine Yo (qI (λr ⟨a,b,c⟩=>?_) (mS e (f:=n-(m+1)) (m:=m+1) (q:=0) (p:=p) (by omega) hf));have w:=c.qm;by_cases h:r.2.2>0
 .rw[if_pos h];exact o9 e c.pm.rev (by omega) c.le λi j d g=>by rw[c.alike,c.alike];exact c.dn i j d g
 .rw[if_neg h];exact o9 e c.pm (by omega) c.le c.dn
def CU(h:0<n)(hp:Pm n p):UL (·<n) (ans key) (kas_count n p) (O_ key n):=by
 have x:=hp.size;refine Yo (qI (λm ⟨a,b,c,d⟩=>?_) (xQ (key:=key) hp h (f:=n-1) (m:=1) (S7 _) (by omega) λi j v y=>by rw[show i=j by omega];exact O.irrefl _));by_cases r:(m==n)=true
 .rw[if_pos r];exact⟨hp,a,by show m<=n;omega,c⟩
 .rw[if_neg r];have g:m<n:=by have:m≠n:=λq=>r (by rw[q];exact a1J _);omega
  have u:=d (by omega);by_cases s:m>1
  .rw[if_pos s];refine⟨hp.lt h _,hp.lt h _,?_⟩;show UL _ _ (if O.blt (kk key p 0) (kk key p (m-1))=true then _ else _) _;cases w:O.blt (kk key p 0) (kk key p (m-1))with
   |true=>exact⟨hp,a,by show m<=n;omega,c⟩
   |false=>
    have e:kk key p 0=kk key p (m-1):=O.total _ _ w (c 0 (m-1) (by omega) (by omega));have al:∀k,k<m->kk key p k=kk key p (m-1):=λk l=>O.total _ _ (by rw[<- e];exact c 0 k (by omega) l) (c k (m-1) (by omega) (by omega));have o:∀k,kk key (kas_rev p 0 m) k=kk key p k:=λk=>by
     unfold kk;rw[eZ (by omega)];split
     .rename_i z;exact(al (0+m-1-k) (by omega)).trans (al k z.2).symm
     .rfl
    exact az h hp.rev a g (λk l=>by rw[o,o];exact al k l) (by rw[o,o];exact u)
  .rw[if_neg s];exact az h hp a g (λk l=>by rw[show k=m-1 by omega]) u
def kA{p:Th}(hp:Pm n p)(e:0<n){k:Nat}(a:Up key p k):∀{f l r:Nat},l<=r->r<=k->r-l<=f->(∀i,i<l->O.kle (kk key p i) (kk key p k))->(∀i,r<=i->i<k->O.klt (kk key p k) (kk key p i))->
  UL (·<n) (ans key) (kas_place p k f l r) λl=>l<=k/\(∀i,i<l->O.kle (kk key p i) (kk key p k))/\∀i,l<=i->i<k->O.klt (kk key p k) (kk key p i)
 |0,l,r,j,rk,hf,b,d=>⟨by omega,b,λi g=>d i (by omega)⟩
 |f+1,l,r,j,rk,hf,b,d=>by
  show UL _ _ (if l ≥ r then KasT.ret l else _) _;by_cases c:l ≥ r
  .rw[if_pos c];exact⟨by omega,b,λi g=>d i (by omega)⟩
  .rw[if_neg c];refine⟨hp.lt e _,hp.lt e _,?_⟩;show UL _ _ (if O.blt (kk key p k) (kk key p ((l+r) / 2))=true then _ else _) _;cases h:O.blt (kk key p k) (kk key p ((l+r) / 2))with
   |true=>exact kA hp e a (f:=f) (l:=l) (r:=(l+r) / 2) (by omega) (by omega) (by omega) b λi o m=>KeyOrd.klt_of_klt_of_kle h (a _ _ o m)
   |false=>exact kA hp e a (f:=f) (l:=(l+r) / 2+1) (r:=r) (by omega) rk (by omega) (λi g=>a2M (a i ((l+r) / 2) (by omega) (by omega)) h) d
def EG(s:0<n):∀{f k:Nat}{p:Th},Pm n p->k+f<=n->Up key p k->UL (·<n) (ans key) (kas_bin f p k) λo=>Pm n o/\Up key o (k+f)
 |0,k,p,hp,_,d=>⟨hp,d⟩
 |f+1,k,p,hp,v,d=>by
  have w:=hp.size;refine Yo (qI (λl ⟨a,b,c⟩=>?_) (kA hp s d (f:=k) (l:=0) (r:=k) (a0y _) (S7 _) (by omega) (λi u=>absurd u (a1k _)) λi m g=>absurd g (by omega)));refine qI (λo ⟨x,y⟩=>⟨x,by rw[show k+(f+1)=k+1+f by omega];exact y⟩) (EG s (f:=f) (k:=k+1) hp.bub (by omega) λi j h z=>?_);unfold kk;rw[di (by omega) a,di (by omega) a];by_cases m:i=l
  .rw[if_pos m];by_cases e:j=l
   .rw[if_pos e];exact O.irrefl _
   .rw[if_neg e,if_pos ⟨by omega,by omega⟩];exact a2N (c (j-1) (by omega) (by omega))
  .rw[if_neg m];by_cases e:j=l
   .rw[if_pos e,if_neg (by omega)];exact b i (by omega)
   .rw[if_neg e];by_cases g:l<i/\i<=k
    .rw[if_pos g,if_pos ⟨by omega,by omega⟩];exact d (i-1) (j-1) (by omega) (by omega)
    .rw[if_neg g];by_cases q:l<j/\j<=k
     .rw[if_pos q];exact d i (j-1) (by omega) (by omega)
     .rw[if_neg q];exact d i j h (by omega)
def xR(e:0<n):UL (·<n) (ans key) (kas_sort n) λp=>Pm n p/\Up key p n:=by
 refine Yo (qI (λr ⟨a,b,c,d⟩=>?_) (CU (key:=key) e (p:=List.toArray (List.range n)) ⟨List.Perm.refl _,by simp⟩));by_cases h:r.1<n
 .rw[if_pos h,show max r.1 1=r.1 by omega];refine qI (λp ⟨x,y⟩=>⟨x,by rw[show n=r.1+(n-r.1) by omega];exact y⟩) (EG e (f:=n-r.1) (k:=r.1) a (by omega) d)
 .rw[if_neg h];exact⟨a,by rw[show n=r.1 by omega];exact d⟩
end
end L2
namespace L2
open PySem PySem.Spec PyProof.Rows PySem.W
abbrev dj:=Int×Int×Str
def GH(x y:dj):Bool:=if x.1=y.1 then(if x.2.1=y.2.1 then decide (x.2.2.cps.toList<y.2.2.cps.toList)else decide (x.2.1<y.2.1))else decide (x.1<y.1)
def GI{a b:Str}(h:a.cps.toList=b.cps.toList):a=b:=by obtain⟨x⟩:=a;obtain⟨y⟩:=b;exact a0F Str.mk (Array.toList_inj.mp h)
def Mn:KeyOrd where
 α:=dj
 blt:=GH
 irrefl a:=by unfold GH;rw[if_pos rfl,if_pos rfl];exact strKind.irrefl _
 trans a b c e d:=by
  unfold GH at *;by_cases j:a.1=b.1
  .rw[if_pos j]at e;by_cases l:b.1=c.1
   .rw[if_pos l]at d;rw[if_pos (j.trans l)];by_cases f:a.2.1=b.2.1
    .rw[if_pos f]at e;by_cases i:b.2.1=c.2.1
     .rw[if_pos i]at d;rw[if_pos (f.trans i)];exact strKind.trans _ _ _ e d
     .rw[if_neg i]at d;rw[if_neg (by rw[f];exact i),f];exact d
    .rw[if_neg f]at e;by_cases i:b.2.1=c.2.1
     .rw[if_pos i]at d;rw[if_neg (by rw[<- i];exact f),<- i];exact e
     .rw[if_neg i]at d;have e:=a0G e;have d:=a0G d;rw[if_neg (by omega)];exact T5 (by omega)
   .rw[if_neg l]at d;rw[if_neg (by rw[j];exact l),j];exact d
  .rw[if_neg j]at e;have e:=a0G e;by_cases l:b.1=c.1
   .rw[if_neg (by omega)];exact T5 (by omega)
   .rw[if_neg l]at d;have d:=a0G d;rw[if_neg (by omega)];exact T5 (by omega)
 negTrans a b c h:=by
  unfold GH at *;by_cases j:a.1=b.1
  .rw[if_pos j];by_cases l:b.1=c.1
   .rw[if_pos (j.trans l)]at h;rw[if_pos l];by_cases f:a.2.1=b.2.1
    .rw[if_pos f];by_cases i:b.2.1=c.2.1
     .rw[if_pos (f.trans i)]at h;rw[if_pos i];exact strKind.negTrans _ _ _ h
     .rw[if_neg (by rw[f];exact i)]at h;rw[if_neg i];exact .inr (by rw[<- f];exact h)
    .rw[if_neg f];by_cases i:b.2.1=c.2.1
     .rw[if_neg (by rw[<- i];exact f)]at h;exact .inl (by rw[i];exact h)
     .rw[if_neg i];by_cases g:a.2.1<b.2.1
      .exact .inl (T5 g)
      .by_cases m:a.2.1=c.2.1
       .exact .inr (T5 (by omega))
       .rw[if_neg m]at h;have h:=a0G h;exact .inr (T5 (by omega))
   .rw[if_neg (by rw[j];exact l)]at h;rw[if_neg l];exact .inr (by rw[<- j];exact h)
  .rw[if_neg j];by_cases g:a.1<b.1
   .exact .inl (T5 g)
   .refine .inr ?_;by_cases l:b.1=c.1
    .rw[if_neg (by rw[<- l];exact j)]at h;have h:=a0G h;omega
    .rw[if_neg l];by_cases m:a.1=c.1
     .exact T5 (by omega)
     .rw[if_neg m]at h;have h:=a0G h;exact T5 (by omega)
 total a b e d:=by
  unfold GH at *;by_cases j:a.1=b.1
  .rw[if_pos j]at e;rw[if_pos j.symm]at d;by_cases f:a.2.1=b.2.1
   .rw[if_pos f]at e;rw[if_pos f.symm]at d;have:=GI (strKind.total _ _ e d);exact Prod.ext j (Prod.ext f this)
   .rw[if_neg f]at e;rw[if_neg (Ne.symm f)]at d;have e:=a1S e;have d:=a1S d;omega
  .rw[if_neg j]at e;rw[if_neg (Ne.symm j)]at d;have e:=a1S e;have d:=a1S d;omega
def NY(h:Heap)(v:Value)(k:dj):Prop:=∃a o n c b d,v=.ref a/\h.get? a=some o/\o.cls=.type "tuple"/\o.data=.seq #[.int k.1 c,.int k.2.1 b,.str k.2.2 d] n
section
variable {prog:SG}{w:SI}{A:SQ}{E:Sq}{s:Ss}
def lt3(i:NY s.heap x k1)(l:NY s.heap y k2)(h:Q (GH k1 k2) s):wpAny (model prog w) A (keyLt' (tuples' true) x y) Q E s:=by
 obtain⟨a,o,n,q,u,B,rfl,f,_,g⟩:=i;obtain⟨b,p,m,z,v,r,rfl,hp,_,j⟩:=l;refine kat_lt f g hp j ?_;unfold GH at h;refine kat_cons (a2z ?_);by_cases d:k1.1=k2.1
 .rw[if_pos d]at h;rw[show(k1.1==k2.1)=true from a0t.mpr d];refine kat_yes (kat_cons (a2z ?_));by_cases c:k1.2.1=k2.2.1
  .rw[if_pos c]at h;rw[show(k1.2.1==k2.2.1)=true from a0t.mpr c];refine kat_yes (kat_cons (wpAny_eqBool_str ?_));by_cases e:k1.2.2=k2.2.2
   .rw[T5 e];refine kat_yes (kat_nil ?_);rw[e,show decide (k2.2.2.cps.toList<k2.2.2.cps.toList)=false from strKind.irrefl _]at h;exact h
   .rw[a0a e];exact kat_no (kat_one _ _ (lt_str h))
  .rw[if_neg c]at h;rw[show(k1.2.1==k2.2.1)=false from a0E.mpr c];exact kat_no (kat_one _ _ (lt_int h))
 .rw[if_neg d]at h;rw[show(k1.1==k2.1)=false from a0E.mpr d];exact kat_no (oneLt_int h)
def ig(h:Heap):List Value->List dj->Prop
 |[],[]=>True
 |v::a,k::b=>NY h v k/\ig h a b
 |_,_=>False
def ig.get(d:dj):∀{vs:Sv}{ks:List dj}{i:Nat},ig h vs ks->i<ks.length->NY h (vs.getD i .none) (ks.getD i d):=by
 intro vs
 induction vs with
 |nil=>
  intro ks i t hi;cases ks with
  |nil=>exact absurd hi (a1k _)
  |cons k ks=>exact t.elim
 |cons v vs ih=>
  intro ks i t hi;cases ks with
  |nil=>exact t.elim
  |cons k ks=>
   cases i with
   |zero=>exact t.1
   |succ i=>exact ih (ks:=ks) (i:=i) t.2 (Nat.lt_of_succ_lt_succ hi)
def ig.kat{h:Heap}:∀{c:Sv}{b:List dj},ig h c b->∃fs:List Value,KatTups h c fs/\fs.length=b.length/\∀v∈fs,∃n t,v=.int n t
 |[],[],_=>⟨[],trivial,rfl,λv h=>by cases h⟩
 |_::_,_::_,⟨⟨a,o,n,r,p,q,e,i,m,g⟩,t⟩=>by obtain⟨fs,f,d,j⟩:=ig.kat t;exact⟨_::fs,⟨⟨a,o,_,n,e,i,m,g,rfl⟩,f⟩,by rw[S0,S0,d],λv l=>(a0f.mp l).elim (λe=>⟨_,_,e⟩) (j v)⟩
 |[],_::_,t=>t.elim
 |_::_,[],t=>t.elim
def Pa(t:ig s.heap vs ks)(e:0<ks.length)(h:Q (tuples' true) s):wpAny (model prog w) A (keyKind' vs.toArray) Q E s:=by obtain⟨fs,a,d,b⟩:=t.kat;refine kat_kind (T:=.type "int") a (by omega) (λv c=>?_) (by decide) (by rw[show((Value.type "int") != Value.type "tuple")=true by decide];exact h);obtain⟨n,t,rfl⟩:=b v c;exact .now
end
section
variable {X:Cx}{pins:Sm}{σ:St}{H:Hp}{s:Ss}{h':Heap}
def Inv.Pb(I:Inv X pins σ H s)(k:∀b o,b≠it->s.heap.get? b=some o->h'.get? b=some o)(B:H it=none)(h:it≠X.env.locals)
  (w:it∈X.ex\/X.s₀.heap.objs.size<=it) (A:∀x c,X.env.cells.lookup x=some c->c≠it) (C:∀p∈X.pn++pins,p.1≠it) (new:qG X.prog X.w (upd H it o) h' it o):Inv X pins σ (upd H it o) { s with heap:=h',toks:=t' }:=by
 have a:∀b u,H b=some u->b≠it:=λb u e z=>by rw[z,B]at e;cases e
 have g:∀b,b∉[it]->b≠it:=λb d z=>d (by simp[z]);refine I.step (g':=s.gens) (d':=s.drawn) (ch:=[it]) (λb f=>?_) (λb o _ _ d e _=>k b o (g b d) e) (λb o _ _ d e _=>⟨o.slots,k b o (g b d) e⟩) (λb _ d _ n=>by rw[zi (g b d)];exact n)
  (λb o d e=>⟨o,k b o (g b d) e⟩) (λb y e=>by rw[zi (a b _ e)];exact e) (λb _ _ e=>by rw[zi (a b _ e)];exact e) (λb E e=>⟨#[],by rw[zi (a b _ e),e];simp⟩) (λm l=>?_) (λb u e=>?_) I.bare
 .have e:b=it:=by simpa using f
  subst e;exact⟨w,h,A,C⟩
 .obtain⟨o,D,i,j,r⟩:=l;exact⟨o,D,i,k _ o (Ne.symm h) j,r⟩
 .by_cases f:b=it
  .subst f;rw[zg]at e;cases e;exact new
  .rw[zi f]at e;refine(I.hok b u e).rn (λc v d q=>k c v ?_ q) (λc q=>by rw[zi (a c _ q)];exact q) λc y q=>by rw[zi (a c _ q)];exact q
   rcases d with z|z
   .rw[z];exact a b u e
   .exact a c _ z
structure CV(X:Cx)(pins:Sm)(a:Addr):Prop where
 loc:a≠X.env.locals
 fs:a∉X.fs
 ex:a∈X.ex\/X.s₀.heap.objs.size<=a
 cel:∀x c,X.env.cells.lookup x=some c->c≠a
 pin:∀p∈X.pn++pins,p.1≠a
def Inv.P_{H':Hp}(I:Inv X pins σ H s)(a:s.heap.objs.size<=b):CV X pins b:=by have:=I.HF (H':=λ_=>none) a rfl;exact⟨this.2.1,this.2.2.1,this.2.2.2.1,this.2.2.2.2.1,this.2.2.2.2.2⟩
def Inv.NZ(I:Inv X pins σ H s)(w:CV X pins a)(b:H a=none)(c:s.heap.get? a=some o)(d:∀v,o.data≠.cell v):Inv X (pins++[(a,o)]) σ H s:=
 I.UW λp hp=>(a0B.mp hp).elim (λz=>I.pin p (a0c _ z)) λz=>by rw[a0j.mp z];exact⟨c,b,w.loc,w.fs,d⟩
def Inv.at1(I:Inv X (pins++[(a,o)]) σ H s):s.heap.get? a=some o/\H a=none:=by have:=I.pin (a,o) (a0c _ (a0c _ S4));exact⟨this.1,this.2.1⟩
end
def xS(sp:Sp):List V->List V->Hp->(List V->Hp->Prop)->Prop
 |[],a,H,Q=>Q a H
 |v::b,a,H,Q=>sp [v] H (λz c=>xS sp b (a++[z]) c Q) (λ_ _ _=>False)
def b_(K:SV)(H:Hp):List V->List dj->Prop
 |[],[]=>True
 |z::b,k::a=>(∃p,z=.ref p/\SqT K H p [.int k.1,.int k.2.1,.str k.2.2])/\b_ K H b a
 |_,_=>False
def b_.len{K:SV}{H:Hp}:∀{b:Sx}{a:List dj},b_ K H b a->b.length=a.length
 |[],[],_=>rfl
 |_::_,_::_,t=>by rw[S0,S0,b_.len t.2]
 |[],_::_,t=>t.elim
 |_::_,[],t=>t.elim
def b_.tN{X:Cx}{pins:Sm}{σ:St}{H:Hp}{s:Ss}(I:Inv X pins σ H s):∀{d:Sx}{b:List dj}{c:Sv},b_ X.K H d b->Vals d c->ig s.heap c b
 |[],[],_,_,.nil=>trivial
 |_::_,k::_,_,⟨⟨p,e,q⟩,t⟩,.cons r v=>by
  subst e;cases r;refine⟨?_,b_.tN I t v⟩;obtain⟨u,a,⟨o,f,h,n,j⟩,_⟩:=I.tuple q;cases a with
  |cons l a=>cases a with
   |cons i a=>cases a with
    |cons w a=>cases a;obtain⟨g,rfl⟩:=l;obtain⟨m,rfl⟩:=i;obtain⟨x,rfl⟩:=w;exact⟨p,o,n,g,m,x,rfl,f,h,j⟩
 |[],_::_,_,t,_=>t.elim
 |_::_,[],_,t,_=>t.elim
def Srt(a:List dj)(q:So):Prop:=q.Perm (List.range a.length)/\q.Pairwise λi j=>Mn.kle (a.getD i (0,0,"")) (a.getD j (0,0,""))
def xT(sp:Sp)(K:SV)(ys:Sx)(H:Hp)(Q:VK):Prop:=ys.length<64/\xS sp ys [] H λd c=>∃b:List dj,b.length=ys.length/\b_ K c d b/\∀(q:So) a,Srt b q->c a=none->Q (.ref a) (upd c a (.lst (q.map λi=>ys.getD i .non)))
def EH(hp:Pm kz.length p)(f:Up (O:=Mn) (λi=>kz.getD i (0,0,"")) p kz.length):Srt kz p.toList:=by
 refine⟨hp.perm,?_⟩;rw[a2x];intro i j d c b;have g:=hp.size;rw[a1q]at d c;have:=f i j (a1N b) (by omega);have e:∀k (a:k<p.size),at0 p k=p.toList[k]'(by rw[a1q];exact a):=λk a=>by rw[VH,getElem?_pos p k a];simp
 unfold kk at this;rw[e i d,e j c]at this;exact this
section
variable {X:Cx}{k:Nat}{f:Addr}{fd:SK}{ps:Sn}{sp:Sp}
def CW(F:qd X.prog X.w X.K X.mg X.base (CXe X.prog X.w) k f fd ps sp)(j:jJ k A)(l:uc X.prog X.w X.K X.mg X.base A X.stack s H)(d:Binds X.K fd ps [])
  (I:Inv X pins σ H s) (r:RelV v u) (h:sp [v] H Q (λ_ _ _=>False)):wpAny (TQ X) A (call (.ref f) [u]) (EP X pins σ Q) E s:=by
 have b:Vals [v] [u]:=.cons r .nil;have i:([u]++[]).length=ps.length:=by rw[a0h,<- b.length];exact F.len _ _ _ _ h
 have c:=d s [u] I.kIn i;rw[a0h]at c;refine a1c (a1f (F.run A X.stack s H ⟨[u],[]⟩ [u] [v] Q _ j l c b h) λr m a=>?_);cases r with
 |error e=>exact(aq a).elim
 |ok g=>
  cases g with
  |ret u=>exact I.after a
  |next=>exact False.elim a
  |brk=>exact False.elim a
  |cont=>exact False.elim a
def KC(X:Cx)(k:Nat)(c:Sm)(f:Addr)(sp:Sp):Prop:=∀{a:Sm}{b:St}{H:Hp}{s:Ss}{Q:VK}{E:Sq}{A:SQ}{u:Value}{v:V},(∀p∈c,p∈a)->jJ k A->uc X.prog X.w X.K X.mg X.base A X.stack s H->Inv X a b H s->RelV v u->sp [v] H Q (λ_ _ _=>False)->wpAny (TQ X) A (call (.ref f) [u]) (EP X a b Q) E s
def Pc(F:qd X.prog X.w X.K X.mg X.base (CXe X.prog X.w) k f fd ps sp)(a:Binds X.K fd ps []):KC X k [] f sp:=λ_ b c I r h=>CW F b c a I r h
end
section
variable {X:Cx}{k:Nat}{f:Addr}{sp:Sp}
def o_{pins:Sm}{σ:St}{A:SQ}{E:Sq}{kS:Addr}{Q0:List V->Hp->Prop}{body:Value->PUnit->Sem (ForInStep PUnit)}{lp:Sm}(F:KC X k lp f sp)(hlp:∀p∈lp,p∈pins)(hr:jJ k A)(hA:A.frames=X.A.frames)
  (w:CV X pins kS)
  (WA:∀x s (C:Shared->Prop),wpAny (TQ X) A (call (.ref f) [x]) (λz s'=>wpAny (TQ X) A (Builtin.List.listUpdate (.ref kS) (·.push z)) (λ_ s''=>C s'') (λ_ _=>False) s') (λ_ _=>False) s->wpAny (TQ X) A (body x ⟨⟩) (λr s'=>r=.yield ⟨⟩/\C s') E s):
  ∀{ys:Sx}{its:Sv}{acc:Sx}{us:Sv}{e:Nat}{H:Hp}{s:Ss},acc.length+ys.length<64->Vals ys its->Vals acc us->Inv X (pins++[(kS,seqObj "list" us.toArray e)]) σ H s->xS sp ys acc H Q0->
   wpAny (TQ X) A (forIn its PUnit.unit body) (λ_ s'=>∃zs us' e' H',zs.length=acc.length+ys.length/\Vals zs us'/\Inv X (pins++[(kS,seqObj "list" us'.toArray e')]) σ H' s'/\Q0 zs H') E s
 |[],_,acc,us,e,H,s,_,.nil,ra,I,h=>by rw[List.forIn_nil];exact S8 ⟨acc,us,e,H,rfl,ra,I,h⟩
 |v::ys,_,acc,us,e,H,s,hl,.cons (b:=u) (l₂:=its) r rs,ra,I,h=>by
  rw[S0]at hl;have hul:=ra.length;rw[List.forIn_cons];refine f8 (a0A (WA u s (λs'=>∃(zs:(V×Nat)×Value) (H':Hp),Inv X (pins++[(kS,seqObj "list" (us++[zs.2]).toArray zs.1.2)]) σ H' s'/\RelV zs.1.1 zs.2/\xS sp ys (acc++[zs.1.1]) H' Q0) ?_) (λq s' hq=>?_) λ_ _ x=>x)
  .have A0:uc X.prog X.w X.K X.mg X.base A X.stack s H:=⟨hA.trans I.tK.frames,I.tK.mod,I.tK.bs,I.tK.bsz,I.tK.lR,I.tK.frf,I.tK.hok,I.tK.bare⟩;refine a0A (F (λp hp=>a1m _ (hlp p hp)) hr A0 I r h) (λz s1 ⟨y,H1,I1,r1,q1⟩=>?_) λ_ _ x=>x;have a1:=I1.at1;have J1:Inv X pins σ H1 s1:=I1.vC;obtain⟨e2,he2⟩:∃e2,(s1.heap.update kS (Obj.mapSeq (·.push z))).get? kS=some (seqObj "list" (us++[z]).toArray e2):=⟨_,by
    have:=get?_update_seq a1.1 (·.push z);rw[show us.toArray.push z=(us++[z]).toArray by simp]at this;exact this⟩
   refine a2q a1.1 rfl ?_ (by rw[a0b,a0M];omega) (a0o (a19 (Array.size_push ..)) (by rw[a0b,a0M];omega));have J2:Inv X pins σ H1 { s1 with heap:=s1.heap.update kS (Obj.mapSeq (·.push z)),toks:=s1.toks }:=J1.turned (λb o hb ho=>(a0q s1.heap _ (Ne.symm hb)).trans ho) a1.2 w.loc w.ex w.cel w.pin;exact⟨((y,e2),z),H1,J2.NZ w a1.2 he2 (λv h=>by cases h),r1,q1⟩
  .obtain⟨rfl,zs,H',I',r',q'⟩:=hq;show wpAny (TQ X) A (forIn its PUnit.unit body) _ E s';refine a0A (o_ F hlp hr hA w WA (ys:=ys) (acc:=acc++[zs.1.1]) (us:=us++[zs.2]) (by rw[S9,a16];omega) rs (ra.append (.cons r' .nil)) I' q') (λ_ s2 ⟨zs',us',e',H2,hl',h2,h3,h4⟩=>⟨zs',us',e',H2,?_,h2,h3,h4⟩) λ_ _ x=>x;rw[hl',S9,a16,S0];omega
def Vals.getD(r:Vals ys its)(i:Nat):RelV (ys.getD i .non) (its.getD i .none):=by
 induction r generalizing i with
 |nil=>exact rfl
 |cons r b a=>
  cases i with
  |zero=>exact r
  |succ i=>exact a i
def e9{ys:Sx}{its:Sv}(r:Vals ys its):∀q:List Nat,Vals (q.map λi=>ys.getD i .non) (q.map λi=>its.getD i .none)
 |[]=>.nil
 |i::q=>.cons (r.getD i) (e9 r q)
end
section
variable {X:Cx}{f:Addr}
def ij{pins:Sm}{σ:St}{A:SQ}{E:Sq}{c D:Addr}{e d:Nat}{H:Hp}{s:Ss}{us outU:Sv}{a:Sx}{st:SortSt}{Q:VK}{P:PySem.Fin->Shared->Prop}
  (j:CV X pins D) (g:CV X (pins++[(D,seqObj "list" #[] d)]) c) (y:us.length<64) (i:outU.length<64) (ro:Vals a outU) (h:(arrOf st).map (·.2)=List.toArray outU) (hf:failedOf st=none)
  (I:Inv X (pins++[(D,seqObj "list" #[] d)]++[(c,seqObj "list" us.toArray e)]) σ H s) (w:Q (.ref D) (upd H D (.lst a))) (hP:∀q,EP X pins σ Q (.ref D) q->P (.done (.ret .none)) q):wpAny (TQ X) A (ksk_tail D false d (.ref c) st) P E s:=by
 have p:=I.at1;have v:Inv X (pins++[(D,seqObj "list" #[] d)]) σ H s:=I.vC;have x:c≠D:=λz=>g.pin (D,seqObj "list" #[] d) (a0c _ (a0c _ S4)) z.symm;have n:Inv X (pins++[(D,seqObj "list" #[] d)]) σ H { s with heap:=s.heap.update c (Obj.mapSeq λ_=>(#[]:Array Value)),toks:=s.toks }:=v.turned (λb o m i=>(a0q s.heap _ (Ne.symm m)).trans i) p.2 g.loc g.ex g.cel g.pin;have l:=n.at1;unfold ksk_tail
 try dsimp only
 rw[h];refine f8 (a2q p.1 rfl ?_ (by rw[a0b,a0M];omega) (a0y _));refine f8 (wpAny_letGo ?_);refine f8 (seqEpoch_at l.1 rfl ?_);refine f8 (a2q l.1 rfl ?_ (a0y _) (by simp only[Bool.false_eq_true,if_false,List.size_toArray];rw[a0M];omega));rw[hf];simp only[bne_self_eq_false,Bool.false_eq_true,if_false];refine S8 (hP _ ?_);have u:=get?_update_seq l.1 λ_=>List.toArray outU;have B:=ro.length;have r:Inv X pins σ (upd H D (.lst a)) { s with heap:=(s.heap.update c (Obj.mapSeq λ_=>(#[]:Array Value))).update D (Obj.mapSeq λ_=>List.toArray outU),toks:=s.toks }:=Inv.Pb (s:={ s with heap:=s.heap.update c (Obj.mapSeq λ_=>(#[]:Array Value)),toks:=s.toks }) n.vC (λb o m i=>(a0q _ _ (Ne.symm m)).trans i) l.2 j.loc j.ex j.cel j.pin (o:=.lst a) ⟨by rw[a0M];omega,outU,_,ro,u⟩;exact⟨.ref D,_,r,rfl,w⟩
def CY
  (F:CV X pins D) (z:CV X (pins++[(D,seqObj "list" #[] e1)]) kS) (Z:ys.length<64) (y:Vals ys its) (L:Vals zs us) (B:b_ X.K H zs kz) (w:kz.length=ys.length)
  (I:Inv X (pins++[(D,seqObj "list" #[] e1)]++[(kS,seqObj "list" us.toArray e)]) σ H s) (K:∀q:List Nat,Srt kz q->Q (.ref D) (upd H D (.lst (q.map λi=>ys.getD i .non)))) (hP:∀c,EP X pins σ Q (.ref D) c->P (.done (.ret .none)) c):wpAny (TQ X) A (ksk_end D false its.toArray e1 (.ref kS) us.toArray) P E s:=by
 have Y:=y.length;have U:=B.len;have M:=L.length;have h:us.length=its.length:=by omega
 unfold ksk_end
 try dsimp only
 simp only[Bool.false_eq_true,if_false];by_cases g:its.toArray.size<2
 .rw[if_pos g,if_pos g];rw[a0b]at g;refine f8 (S8 ?_);rw[StateT.run_pure];refine f8 (S8 ?_)
  try dsimp only
  have m:Srt kz (List.range its.length):=by refine⟨by rw[w,Y],?_⟩;rw[a2x];intro i j o v N;rw[a0D]at o v;omega
  refine ij F z (by omega) (outU:=(List.range its.length).map λi=>its.getD i .none) (by rw[v4,a0D];omega) (e9 y _) ?_ rfl I (K _ m) hP;apply Array.toList_inj.mp;show((us.toArray.zip its.toArray).map (·.2)).toList=_;rw[Array.toList_map,ksk_zip,List.map_snd_zip (by rw[List.toList_toArray,h];exact S7 _)];refine List.ext_getElem (by rw[v4,a0D]) λi u g=>?_;rw[a0K,a1Q];simp[u]
 .rw[if_neg g,if_neg g];rw[a0b]at g;have r:=B.tN I L;refine f8 (Pa r (by omega) ?_);have l:(kas_sort its.length).kasWp (kas_ask X.prog X.w A (tuples' true) us) (λp c=>c=s/\Srt kz p.toList) s:=by
   refine xP (P:=(·<kz.length)) (f:=ans (O:=Mn) λi=>kz.getD i (0,0,"")) (J:=λc=>c=s) (Q:=λp=>Srt kz p.toList) (λi j C c o v m R=>?_) (λp c u g=>⟨g,u⟩) rfl ?_
   .subst m;exact lt3 (r.get (0,0,"") o) (r.get (0,0,"") v) (R _ rfl)
   .have:=xR (O:=Mn) (key:=λi=>kz.getD i (0,0,"")) (n:=kz.length) (by omega);rw[show its.length=kz.length by omega];exact qI (λp ⟨a,b⟩=>EH a b) this
  refine f8 (a0A (kat_run (ks:=us) (vs:=its) (Q:=λd c=>c=s/\∃p:Array Nat,p.size=its.length/\arrOf d=p.map (kas_item (us.toArray.zip its.toArray))/\failedOf d=none/\Srt kz p.toList) h (by omega) (by omega) (λp d c W S T G=>⟨G.1,p,W,S,T,G.2⟩) l) ?_ λ_ _ x=>x)
  rintro⟨⟨⟩,d⟩ c ⟨rfl,p,hp,har,hf,srt⟩
  try dsimp only
  exact ij F z (by omega) (outU:=p.toList.map λi=>its.getD i .none) (by rw[v4,a1q];omega) (e9 y _) (kat_snds h har) hf I (K _ srt) hP
end
def dk(F:KC X k lp f sp)(hlp:∀p∈lp,p∈pins)(hr:jJ (k+2) X.A)
  (I:Inv X pins σ H s) (hl:SqL X.K H l ys) (h:xT sp X.K ys H Q):wpAny (TQ X) X.A (call (.builtin "sorted") [.ref l] [(Str.ofString "key",.ref f)]) (EP X pins σ Q) E s:=by
 obtain⟨hy,h⟩:=h;obtain⟨its,ry,pl,hz⟩:=I.list hl;have hlen:=ry.length;refine call_function_entry_kw kind_sorted plain_sorted entry_sorted (ksk_s1 _ _) ?_;unfold Builtin.«sorted»;refine f8 (m:=checkCount "sorted" 1 1 _) (S8 ?_);refine f8 (collect_list pl.isList ?_ (by rw[a0M];omega));refine f8 (wpAny_newList ?_ (by rw[a0M];omega));have hsz:((s.heap.push (seqObj "list" #[] 0)).update s.heap.objs.size (Obj.mapSeq (·++its.toArray))).objs.size=s.heap.objs.size+1:=by rw[Heap.size_update,size_push']
 have hoL:(((s.heap.push (seqObj "list" #[] 0)).update s.heap.objs.size (Obj.mapSeq (·++its.toArray))).push (seqObj "list" its.toArray 0)).get? (s.heap.objs.size+1)=some (seqObj "list" its.toArray 0):=by rw[<- hsz];exact a0i _ rfl
 have keep:∀b o,s.heap.get? b=some o->(((s.heap.push (seqObj "list" #[] 0)).update s.heap.objs.size (Obj.mapSeq (·++its.toArray))).push (seqObj "list" its.toArray 0)).get? b=some o:=λb o q=>by have hlt:b<s.heap.objs.size:=T1 q;rw[Heap.get?_push_ne _ _ _ (by rw[hsz];exact a0e (a1W hlt)),a2h _ _ _ _ (a0e hlt),Heap.get?_push_ne _ _ _ (a0e hlt)];exact q
 have hs1:(((s.heap.push (seqObj "list" #[] 0)).update s.heap.objs.size (Obj.mapSeq (·++its.toArray))).push (seqObj "list" its.toArray 0)).objs.size=s.heap.objs.size+2:=by rw[size_push',hsz]
 show wpAny _ _ _ _ _ { s with heap:=((s.heap.push (seqObj "list" #[] 0)).update s.heap.objs.size (Obj.mapSeq (·++its.toArray))).push (seqObj "list" its.toArray 0) };rw[hsz];have I1:Inv X pins σ H { s with heap:=((s.heap.push (seqObj "list" #[] 0)).update s.heap.objs.size (Obj.mapSeq (·++its.toArray))).push (seqObj "list" its.toArray 0),toks:=s.toks }:=I.kept keep;have w1:CV X pins (s.heap.objs.size+1):=I.P_ (H':=H) (a03 _);have n1:H (s.heap.objs.size+1)=none:=I.hok.fresh (a03 _);generalize((s.heap.push (seqObj "list" #[] 0)).update s.heap.objs.size (Obj.mapSeq (·++its.toArray))).push (seqObj "list" its.toArray 0)=h1 at hoL hs1 I1 keep;generalize hD:s.heap.objs.size+1=D at hoL w1 n1;refine f8 (a0H (wpAny_call_entry_kw slot_list_sort ⟨_,hoL,rfl⟩ entry_list_sort ?body (ksk_l1 _ _)))
 case body=>
  show wpAny (TQ X) X.A.in1.in1 (Builtin.«list.sort» ⟨[.ref D],[(Str.ofString "key",.ref f)]⟩) _ _ _;rw[ksk_t1];obtain⟨e1,ho1⟩:∃e1,(h1.update D (Obj.mapSeq λ_=>(#[]:Array Value))).get? D=some (seqObj "list" #[] e1):=⟨_,get?_update_seq hoL λ_=>#[]⟩;have I2:Inv X pins σ H { s with heap:=h1.update D (Obj.mapSeq λ_=>(#[]:Array Value)),toks:=s.toks }:=Inv.turned (s:={ s with heap:=h1,toks:=s.toks }) I1 (λb o hb ho=>(a0q h1 _ (Ne.symm hb)).trans ho) n1 w1.loc w1.ex w1.cel w1.pin;have hs2:(h1.update D (Obj.mapSeq λ_=>(#[]:Array Value))).objs.size=s.heap.objs.size+2:=by rw[Heap.size_update,hs1]
  unfold ksk_tree;refine f8 (listItems_at hoL rfl ?_);refine f8 (a2q hoL rfl ?_ (by rw[a0b,a0M];omega) (a0y _));generalize h1.update D (Obj.mapSeq λ_=>(#[]:Array Value))=h2 at ho1 I2 hs2;refine f8 (seqEpoch_at ho1 rfl ?_);refine f8 (wpAny_newTuple ?_ (by show its.length<=_;rw[a0M];omega));refine f8 (wpAny_newList ?_ (a0y _));refine a0H ?_;have hk3:(h2.push { cls:=.type "tuple",data:=.seq its.toArray.toList.toArray }).objs.size=s.heap.objs.size+3:=by rw[size_push',hs2]
  have keep3:∀b o,h2.get? b=some o->((h2.push { cls:=.type "tuple",data:=.seq its.toArray.toList.toArray }).push { cls:=.type "list",data:=.seq ([]:List Value).toArray }).get? b=some o:=λb o q=>S5 _ (S5 _ q);have I3:Inv X pins σ H { s with heap:=(h2.push { cls:=.type "tuple",data:=.seq its.toArray.toList.toArray }).push { cls:=.type "list",data:=.seq ([]:List Value).toArray },toks:=s.toks }:=Inv.kept (s:={ s with heap:=h2,toks:=s.toks }) I2 keep3;have hoK:((h2.push { cls:=.type "tuple",data:=.seq its.toArray.toList.toArray }).push { cls:=.type "list",data:=.seq ([]:List Value).toArray }).get? (h2.push { cls:=.type "tuple",data:=.seq its.toArray.toList.toArray }).objs.size=some (seqObj "list" ([]:List Value).toArray 0):=a0i _ rfl;have hoD:=keep3 D _ ho1;show wpAny (TQ X) X.A.in1.in1 (ksk_rest D (.ref f) false its.toArray e1 (.ref (h2.push { cls:=.type "tuple",data:=.seq its.toArray.toList.toArray }).objs.size)) _ _ { s with heap:=(h2.push { cls:=.type "tuple",data:=.seq its.toArray.toList.toArray }).push { cls:=.type "list",data:=.seq ([]:List Value).toArray },toks:=s.toks };have w2:CV X (pins++[(D,seqObj "list" #[] e1)]) (h2.push { cls:=.type "tuple",data:=.seq its.toArray.toList.toArray }).objs.size:=by have J:Inv X (pins++[(D,seqObj "list" #[] e1)]) σ H { s with heap:=h2,toks:=s.toks }:=Inv.NZ (s:={ s with heap:=h2,toks:=s.toks }) I2 w1 n1 ho1 (λv h=>by cases h);exact J.P_ (H':=H) (by show h2.objs.size<=_;rw[hk3,hs2];omega)
  have n2:H (h2.push { cls:=.type "tuple",data:=.seq its.toArray.toList.toArray }).objs.size=none:=I.hok.fresh (by rw[hk3];omega);generalize(h2.push { cls:=.type "tuple",data:=.seq its.toArray.toList.toArray }).push { cls:=.type "list",data:=.seq ([]:List Value).toArray }=h3 at I3 hoK hoD;generalize(h2.push { cls:=.type "tuple",data:=.seq its.toArray.toList.toArray }).objs.size=kS at hoK w2 n2;have I4:Inv X (pins++[(D,seqObj "list" #[] e1)]++[(kS,seqObj "list" ([]:List Value).toArray 0)]) σ H { s with heap:=h3,toks:=s.toks }:=
   Inv.NZ (s:={ s with heap:=h3,toks:=s.toks }) (Inv.NZ (s:={ s with heap:=h3,toks:=s.toks }) I3 w1 n1 hoD (λv h=>by cases h)) w2 n2 hoK (λv h=>by cases h)
  unfold ksk_rest;refine f8 (a3d ?_)
  first
   |rw[List.forIn_toArray]
   | (rw[<- a3v];simp only[List.toList_toArray])
   |rw[<- a3v]
  refine f8 (a0A (o_ (pins:=pins++[(D,seqObj "list" #[] e1)]) (σ:=σ) (A:=X.A.in1.in1) (E:=E) F (λp hp=>a1m _ (hlp p hp)) hr.in1.in1 rfl w2 (λx s' C hx=>?_) (ys:=ys) (its:=its) (acc:=[]) (us:=[]) (e:=0) (H:=H) (by rw[a2b];omega) ry .nil I4 h) (λ_ s' hd=>?_) λ_ _ x=>x)
  .refine f8 (a1L (a0A hx (λz s'' hz=>?_) λ_ _ hF=>hF.elim))
   try dsimp only
   exact f8 (a0A hz (λ_ s3 h3=>S8 ⟨rfl,h3⟩) λ_ _ hF=>hF.elim)
  .obtain⟨zs,us,e2,H',hzl,rz,I5,kz,hkl,hk3,hq⟩:=hd;have aK:=I5.at1;have aD:=I5.vC.at1
   try dsimp only
   refine f8 (listItems_at aK.1 rfl ?_);exact CY w1 w2 hy ry rz hk3 hkl I5 (λq srt=>hq q D srt aD.2) λs3 he=>⟨_,rfl,S8 ⟨_,rfl,he⟩⟩
def WR(g:SD):List PV->Option (List dj)
 |[]=>some []
 |x::d=>match g [x]with
  |.ok (.t [.i a,.i b,.s c])=>(WR g d).map ((a,b,c)::·)
  |_=>none
def aA{g:SD}:∀{b:SH}{a:List dj},WR g b=some a->a.length=b.length
 |[],_,h=>by cases h;rfl
 |x::b,a,h=>by
  unfold WR at h;split at h
  .obtain⟨c,e,rfl⟩:=u8.mp h;rw[S0,S0,aA e]
  .cases h
def xU{b:Type}{P:Tx}{f:Tv}{Q:b->Prop}:∀{t:KasT b},UL P f t Q->∃a,Q a
 |.ret a,h=>⟨a,h⟩
 |.ask _ _ _,h=>xU h.2.2
def EI(c:List dj):∃q,Srt c q:=by
 by_cases h:0<c.length
 .obtain⟨p,a,b⟩:=xU (xR (O:=Mn) (key:=λi=>c.getD i (0,0,"")) h);exact⟨p.toList,EH a b⟩
 .refine⟨[],?_,List.Pairwise.nil⟩;rw[show c.length=0 by omega];exact List.Perm.refl _
def mT(a:List dj):List Nat:=Classical.choose (EI a)
def VI(a:List dj):Srt a (mT a):=a0z (EI a)
def xV(n:kz.Nodup)(h:Srt kz q)(h':Srt kz q'):q=q':=by
 refine List.Perm.eq_of_pairwise (λa b i c f l=>?_) h.2 h'.2 (h.1.trans h'.1.symm);have j:=a0Y.mp (h.1.mem_iff.mp i);have d:=a0Y.mp (h'.1.mem_iff.mp c);have e:=KeyOrd.kle_antisymm f l;have g:kz.getD a (0,0,"")=kz[a]:=by simp[j]
 have m:kz.getD b (0,0,"")=kz[b]:=by simp[d]
 rw[g,m]at e;exact(List.getElem_inj n).mp e
open Classical in
def cb(g:SD)(xs:SH):Out PV:=if xs.length<64 then match WR g xs with
 |some a=>if a.Nodup then .ok (.l ((mT a).map λi=>xs.getD i .n))else .wall
 |none=>.wall else .wall
def pb(g:SD)(ms:MA):ME:=λb=>(ms b).bind λa=>match a with
 |[.l a]=>cb g a
 |_=>.wall
def SqT.same{K:SV}{H H':Hp}{p:Addr}{xs:Sx}(h:SqT K H p xs)(s:zA H H'):SqT K H' p xs:=by
 rcases h with h|h
 .rcases h with h|⟨o,h⟩
  .exact .inl (.inl (s _ _ h))
  .exact .inl (.inr ⟨o,s _ _ h⟩)
 .exact .inr h
def mU{W:RC}{M:Sr}{wk:Bool}{g:SD}{Q:List V->Hp->Prop}:∀{xs:SH}{vs acc:Sx}{H:Hp}{kz:List dj},yq W M H xs vs->WR g xs=some kz->(∀H' zs,zA H H'->b_ W.K H' zs kz->Q (acc++zs) H')->xS (lsp W false [wk] g) vs acc H Q
 |[],_,acc,H,kz,hr,hk,q=>by cases(show _=_ from hr);cases hk;have:=q H [] (zA.refl _) trivial;rw[a0h]at this;exact this
 |x::xs,_,acc,H,kz,hr,hk,q=>by
  obtain⟨v,r,rfl,h1,h2⟩:=hr;unfold WR at hk;split at hk
  .rename_i a b c hg;obtain⟨ks,e,rfl⟩:=u8.mp hk;refine⟨M,[x],⟨x,v,[],[],rfl,rfl,?_,rfl,rfl⟩,?_⟩
   .cases wk with
    |true=>rw[if_pos rfl];exact h1.weak
    |false=>rw[if_neg T7];exact qe.iff.mpr h1
   .rw[hg];intro z H2 s hz;unfold RtV at hz;rw[if_neg T7]at hz;obtain⟨p,ws,rfl,hq,hws⟩:=hz;obtain⟨v1,r1,rfl,e1,hws⟩:=hws;obtain⟨v2,r2,rfl,e2,hws⟩:=hws;obtain⟨v3,r3,rfl,e3,hws⟩:=hws;cases(show _=_ from hws);cases(show _=_ from e1);cases(show _=_ from e2);cases(show _=_ from e3);refine mU (acc:=acc++[.ref p]) (h2.same s) e λH' zs s' hz=>?_;have:=q H' (.ref p::zs) (s.trans s') ⟨⟨p,rfl,hq.same s'⟩,hz⟩;rw[a0w];exact this
  .cases hk
def yq.xW{W:RC}{M:Sr}{H:Hp}{xs:SH}{vs:Sx}(h:yq W M H xs vs):∀q:List Nat,yq W M H (q.map λi=>xs.getD i .n) (q.map λi=>vs.getD i .non)
 |[]=>rfl
 |i::q=>by
  refine⟨_,_,rfl,?_,h.xW q⟩;show Rep W M H (xs.getD i .n) (vs.getD i .non);simp only[List.getD_eq_getElem?_getD];cases a:xs[i]? with
  |some x=>obtain⟨v,e,r⟩:=h.get a;rw[e];exact r
  |none=>
   cases b:vs[i]? with
   |none=>exact rfl
   |some v=>obtain⟨x,e,_⟩:=h.HL b;rw[a]at e;cases e
def CZ(F:qd X.prog X.w X.K X.mg X.base (CXe X.prog X.w) k f fd ps sp)(K:jJ (k+2) X.A)(w:Binds X.K fd ps [])(E:Gl X "sorted")(C:X.mg "sorted"=none)(i:Gl X fn)(d:X.mg fn=some (.ref f))(L:PA X [e] t)(m:(fn==("__debug__":Str))=false:=by decide)
  (j:backTo pos (starEach [e] X.env)=(false,eval e X.env)::backTo pos (starEach [] X.env):=by rfl) (hpl:(backTo pos (starEach [e] X.env)).any (·.1)=false:=by rfl):
  PE X (.Call (.Name "sorted" p) [e] [⟨some "key",.Name fn p2,kpos⟩] pos) (λc H Q=>t c H λo b=>∃l n,o=[.ref l]/\SqL X.K b l n/\xT sp X.K n b Q):=by
 intro a s c H Q I h;refine a0S (UX I E C boot_sorted ?_ (by decide) (by decide));refine callWith_kw (thn (L pos a s c H _ I h) λP x ⟨o,b,J,D,l,n,A,O,G⟩=>?_) j hpl;subst A;obtain⟨u,rfl,z⟩:=vals1 D;cases z;refine thn (FD (nm:=some "key") (kpos:=kpos) (zy (v:=.ref f) i d rfl m) IA pos a x c b (λr q=>r=[.ref f]/\q=b) J ⟨rfl,rfl⟩) λR T ⟨r,q,y,M,N,B⟩=>?_;subst N;subst B;obtain⟨S,rfl,g⟩:=vals1 M;cases g;exact dk (Pc F w) (λ_ h=>nomatch h) K y O G
def C0(F:qd X.prog X.w X.K X.mg X.base (CXe X.prog X.w) k f fd ps (lsp C.W false [wk] g))(O:jJ (k+2) X.A)(D:Binds X.K fd ps [])(M:Gl X "sorted")(L:X.mg "sorted"=none)(j:Gl X fn)(h:X.mg fn=some (.ref f))(d:AM X C S ws [e] ms)(u:(fn==("__debug__":Str))=false:=by decide)
  (o:backTo pos (starEach [e] X.env)=(false,eval e X.env)::backTo pos (starEach [] X.env):=by rfl) (hpl:(backTo pos (starEach [e] X.env)).any (·.1)=false:=by rfl):
  FM X C S (.Call (.Name "sorted" p) [e] [⟨some "key",.Name fn p2,kpos⟩] pos) (pb g ms):=λA=>by
 obtain⟨Z,T,J⟩:=d A;refine⟨_,CZ F O D M L j h T u o hpl,λB P H E G R Q q=>J B P H E G R _ (Yx q λxs vs H1 Y n b=>?_)⟩;have n:=n.weak;split at b
 .rename_i W _;obtain⟨v,r,rfl,⟨l,z,rfl,_,U,i⟩,m⟩:=n;cases(show _=_ from m);unfold cb at b;split at b
  .rename_i I;split at b
   .rename_i y x;split at b
    .rename_i K;have c:z.length=W.length:=(yq.len i).symm▸rfl;rw[A];refine⟨l,z,rfl,SqL.of U,by omega,mU i x λH' zs s hz=>⟨y,by rw[aA x,c],by rw[a05];exact hz,λq' a w d=>?_⟩⟩;rw[xV K w (VI y)];have N:=j8 b s;exact N _ _ (zA.upd d) (Kf ((i.same s).xW _) d)
    .exact b.elim
   .exact b.elim
  .exact b.elim
 .exact b.elim
def aB(f:Str)(x:HV):List (Str×HV)->List (Str×HV)
 |[]=>[(f,x)]
 |a::r=>if a.1=f then(a.1,x)::r else a::aB f x r
def q_.Vx{R:HV->V->Prop}{f:Str}{x:HV}{v:V}(a:R x v):∀{fs:List (Str×HV)}{d:SW},q_ R fs d->q_ R (aB f x fs) (Vx f v d)
 |[],_,h=>by cases(show _=_ from h);exact⟨v,[],rfl,a,rfl⟩
 |g::r,_,⟨u,q,e,i,b⟩=>by
  subst e;unfold aB L2.Vx;by_cases c:g.1=f
  .rw[if_pos c,if_pos (by simpa using c)];exact⟨v,q,rfl,a,b⟩
  .rw[if_neg c,if_neg (by simpa using c)];exact⟨u,_,rfl,i,q_.Vx a b⟩
def e_(cs:So)(f:Str)(g d:HME):HMS:=λa G=>(d a G).fw λy e=>(g a e).fw λx b=>match x with
 |.g k=>match b[k]? with
  |some (.o c fs)=>if c∈cs/\fs.length<1000 then .nx a (b.set k (.o c (aB f y fs)))else .wall
  |_=>.wall
 |_=>.wall
def xX(I:HE X W E o m1)(hv:HE X W E e m2)(m:∀c∈cs,Cls X.K (W.cls c)/\vw X.K (W.cls c) fn)(B:swapsWith e (some (.Attribute o fn pos')) pos.line X.env=pure false:=by rfl):
  HS X W E (.Assign [.Attribute o fn pos'] e pos) (e_ cs fn m1 m2):=λs=>by
 obtain⟨to,J,L⟩:=I s;obtain⟨te,T,N⟩:=hv s;refine⟨_,D7 J T B,λZ f A H j n G R D q=>N Z f A H j n G R _ (HPs.bind q λy M K F O S P u Q=>?_)⟩;have w:=R.gro O S;refine L Z f M K j n F w _ (HPs.bind P λx A2 H2 G2 g p b v C=>?_);subst f;split at b
 .rename_i k;obtain⟨i,rfl⟩:=C;split at b
  .rename_i c fs U;split at b
   .rename_i a;obtain⟨d,l,hp,r⟩:=g.cell k _ U;have Y:=q_.len r;have h:=g.frw (o:=.ins (Z.W.cls c) d (Vx fn u l)) i hp id;refine⟨_,_,d,l,rfl,hp,(m c a.1).1,(m c a.1).2,by rw[Y];exact a.2,NV (c:=.o c (aB fn y fs)) (w.gro g p) i hp id ⟨d,_,zg,?_⟩ b⟩;exact q_.Vx ((Q.gro p).gro h) (r.imp λ_ _ z=>z.gro h)
   .exact b.elim
  .exact b.elim
 .exact b.elim
def Pd(kvs:Tq)(ks:Ti):PV->Out PV
 |.i n=>.ok (.i ((zP kvs ks).getD n))
 |_=>.wall
def sv(m:ME)(ms:MA)(d:ME):ME:=λa=>(m a).bind λx=>match x with
 |.dt b=>(ms a).bind λe=>match pk2 e with
  |some c=>(d a).bind (Pd b c)
  |none=>.wall
 |_=>.wall
def xY(D:X.A.units+1<cLine)(O:EM X C S w1 o m1)(W:AM X C S ws es ms)(Y:EM X C S w2 f m2)(m:M2 X o "get" jI (.Tuple es x1 p) f wW):EM X C S false (.Call (.Attribute o "get" jI) [.Tuple es x1 p,f] [] wW) (sv m1 ms m2):=λi=>by
 obtain⟨ta,Z,K⟩:=O i;obtain⟨tb,L,E⟩:=W i;obtain⟨tc,T,N⟩:=Y i;refine⟨_,BY D Z (UZ L) T m,λB P H c g R Q q=>K B P H c g R _ (zN q λx v G j M s=>?_)⟩;cases x with
 |dt d=>
  obtain⟨a,rfl,_,l⟩:=M.weak;refine⟨a,rfl,.inr ⟨_,l⟩,E B P G c g (R.keep j) _ (qw s λxs vs H2 A I h=>?_)⟩;split at h
  .rename_i J F;obtain⟨rfl,hl⟩:=I.NX F;refine⟨hl,λz hz=>N B P _ c g (((R.keep j).keep A).keep (zA.upd hz)) _ (zN (Yl h (zA.upd hz)) λy u w r U b=>?_)⟩;unfold Pd at b;split at b
   .rename_i n;cases(show u=.int n from U.weak);refine⟨_,.inr ⟨_,_,z,WO r (WO (zA.upd hz) (WO A l)),rfl,r _ _ zg,rfl⟩,?_⟩;rw[WQ];cases e:zP d J with
    |none=>rw[e]at b;exact b _ w (zA.refl _) (RV.of rfl)
    |some k=>rw[e]at b;exact b _ w (zA.refl _) (RV.of rfl)
   .exact b.elim
  .exact h.elim
 |_=>exact s.elim
end L2
namespace L2
open PySem PySem.Spec PyProof.Rows PySem.W
section
variable {X:Cx}{pins:Sm}{σ:St}{H:Hp}{s:Ss}{h':Heap}{ch:Tg}{T:Addr}{o:HO}{t':Nat}
def Inv.Pe(I:Inv X pins σ H s)(hf:∀b∈ch,rB X pins H b)(k:∀b u,b∉ch->s.heap.get? b=some u->h'.get? b=some u)(hp:s.heap.objs.size<=T)(new:qG X.prog X.w (upd H T o) h' T o):Inv X pins σ (upd H T o) { s with heap:=h',toks:=t' }:=by
 have f:H T=none:=I.hok.fresh hp;have g:∀b u,s.heap.get? b=some u->b≠T:=λb u e=>a0e (T8 (T1 e) hp);refine I.step (g':=s.gens) (d':=s.drawn) (ch:=ch) (λb d=>⟨(hf b d).2.2.2.1,(hf b d).2.1,(hf b d).2.2.2.2.1,(hf b d).2.2.2.2.2⟩) (λb o _ _ a e _=>k b o a e) (λb o _ _ a e _=>⟨o.slots,k b o a e⟩) (λb o _ e n=>by rw[zi (g b o e)];exact n)
  (λb o a e=>⟨o,k b o a e⟩) (λb l e=>by rw[zi (zZ e f)];exact e) (λb o u e=>by rw[zi (zZ e f)];exact e) (λb w e=>⟨#[],by rw[zi (zZ e f),e];simp⟩) (λm j=>?_) (λb u e=>?_) I.bare
 .obtain⟨o,p,h,i,r⟩:=j;exact⟨o,p,h,k _ o (λz=>(hf _ z).2.1 rfl) i,r⟩
 .by_cases d:b=T
  .subst d;rw[zg]at e;cases e;exact new
  .rw[zi d]at e;refine(I.hok b u e).rn (λc v a q=>k c v (λz=>?_) q) (λc q=>by rw[zi (zZ q f)];exact q) λc l q=>by rw[zi (zZ q f)];exact q
   rcases a with a|a
   .subst a;rw[(hf _ z).1]at e;cases e
   .rw[(hf _ z).1]at a;cases a
def Inv.Pf(I:Inv X pins σ H s)(hf:∀b∈ch,rB X pins H b)(k:∀b u,b∉ch->s.heap.get? b=some u->h'.get? b=some u):Inv X pins σ H { s with heap:=h',toks:=t' }:=by
 refine I.step (g':=s.gens) (d':=s.drawn) (ch:=ch) (λb d=>⟨(hf b d).2.2.2.1,(hf b d).2.1,(hf b d).2.2.2.2.1,(hf b d).2.2.2.2.2⟩) (λb o _ _ a e _=>k b o a e) (λb o _ _ a e _=>⟨o.slots,k b o a e⟩) (λb o _ e n=>n)
  (λb o a e=>⟨o,k b o a e⟩) (λb i e=>e) (λb o u e=>e) (λb l e=>⟨#[],by rw[e];simp⟩) (λm h=>?_) (λb u e=>?_) I.bare
 .obtain⟨o,j,f,g,r⟩:=h;exact⟨o,j,f,k _ o (λz=>(hf _ z).2.1 rfl) g,r⟩
 .refine(I.hok b u e).rn (λc v a q=>k c v (λz=>?_) q) (λc q=>q) λc i q=>q;rcases a with a|a
  .subst a;rw[(hf _ z).1]at e;cases e
  .rw[(hf _ z).1]at a;cases a
end
def Itw(n:Nat)(ok:Hp->Prop)(row:Nat->List V):It:=
 ⟨λi H=>i<n/\ok H,λi H x a=>∃T,x=.ref T/\H T=none/\a=upd H T (.tup (row i)),λi H=>i=n/\ok H⟩
def N4(xs ys:Sx)(i:Nat):List V:=[xs[i]?.getD .non,ys[i]?.getD .non]
def GJ(a:row.length<=sizeLine)(r:Vals row vals.toList)(b:h.IsTuple T vals):qG P w (upd H T (.tup row)) h T (.tup row):=⟨a,vals.toList,r,b⟩
section
variable {P:SG}{w:SI}{K:SV}{elts:Sw}{kk:Nat}{tp:Pos}
def C1(z TI TO g l a b:Addr)(xs ys:Sx)(D:ZipApart z TI TO g l a b):Turn P w K (.Tuple elts kk tp) (Itw (min xs.length ys.length) (λH=>SqL K H a xs/\SqL K H b ys) (N4 xs ys)) [z,TI,TO,g,l] z (λi h=>i<=min xs.length ys.length/\IsZip h z TI TO .none/\IsPair h TI (.ref g) (.ref l)/\(∃a b,IsPair h TO a b)/\h.IsListIter g a i/\h.IsListIter l b i)where
 mem:=by simp
 obj:=λi h f c d=>by
  obtain⟨_,O,Q,⟨_,_,N⟩,⟨o4,F,_,d4⟩,⟨o5,L,_,d5⟩⟩:=f;simp only[List.mem_cons,List.not_mem_nil,or_false]at d;rcases d with r|r|r|r|r<;>subst r
  .exact⟨_,O,λv z=>by cases z⟩
  .exact⟨_,Q,λv z=>by cases z⟩
  .exact⟨_,N,λv z=>by cases z⟩
  .exact⟨o4,F,λv z=>by rw[d4]at z;cases z⟩
  .exact⟨o5,L,λv z=>by rw[d5]at z;cases z⟩
 keep:=λi h S ⟨hi,O,Q,⟨x,y,N⟩,F,L⟩ k=>⟨hi,k z (by simp) _ O,k TI (by simp) _ Q,⟨x,y,k TO (by simp) _ N⟩,F.at λo e=>k g (by simp) o e,L.at λo e=>k l (by simp) o e⟩
 item:=by
  intro X hP Z hK d i G s σ H E I hf f hg;subst hP Z hK;obtain⟨hi,B,C⟩:=hg;obtain⟨A,R,p,_⟩:=I.list B;obtain⟨n,m,p',_⟩:=I.list C;have hn:=R.length;have hm:=m.length;have W:=WalksT.zip2 (prog:=X.prog) (w:=X.w) (I.ok.hd d) z TI TO g l a b D A.toArray n.toArray;refine W.item i s _ _ (by rw[a0b,a0b];omega) ⟨f.2.1,f.2.2.1,f.2.2.2.1,f.2.2.2.2.1,f.2.2.2.2.2,p.isList,p'.isList⟩ λT M S tk hv U Y J kp=>?_;obtain⟨x,y,hx,hy,rfl⟩:=hv;refine⟨_,rfl,W.go elts kk tp i T { s with heap:=S,toks:=tk } _ _ J λh2' j k2=>?_⟩;have nT:T∉[z,TO,g,l]:=W.apart i T S J;have nT':∀c∈[z,TI,TO,g,l],c≠T:=λc d q=>by
   subst q;obtain⟨o,ho⟩:∃o,s.heap.get? c=some o:=by
    obtain⟨_,O,Q,⟨_,_,N⟩,⟨o4,F,_,d4⟩,⟨o5,L,_,d5⟩⟩:=f;simp only[List.mem_cons,List.not_mem_nil,or_false]at d;rcases d with r|r|r|r|r<;>subst r
    .exact⟨_,O⟩
    .exact⟨_,Q⟩
    .exact⟨_,N⟩
    .exact⟨_,F⟩
    .exact⟨_,L⟩
   exact absurd (T1 ho) (Nat.not_lt.mpr U)
  have l1:i<xs.length:=by omega
  have l2:i<ys.length:=by omega
  obtain⟨u,hu,ru⟩:=R.get (T4 l1);obtain⟨v,hv,rv'⟩:=m.get (T4 l2);rw[a26,hu]at hx;cases hx;rw[a26,hv]at hy;cases hy;refine⟨.ref T,upd H T (.tup (N4 xs ys i)),I.Pe (ch:=[z,TO,g,l]) (λc d=>hf c (W.sub c d |> λ_=>by simp only[List.mem_cons,List.not_mem_nil,or_false]at d ⊢;rcases d with r|r|r|r<;>simp[r])) (λb u hb q=>k2 b u hb (kp b u hb q)) U (GJ (show 2<=sizeLine by decide) (vals:=#[x,y]) (.cons ?_ (.cons ?_ .nil)) (Y.at λo q=>k2 T o nT q)),rfl,⟨T,rfl,I.hok.fresh U,rfl⟩,⟨by omega,j.1,j.2.1,j.2.2.1,j.2.2.2.1,j.2.2.2.2.1⟩,λc d=>by rw[zi (nT' c d)];exact(hf c d).1⟩
  .rw[T4 l1];exact ru
  .rw[T4 l2];exact rv'
 done:=by
  intro X hP Z hK d i G s σ H E I hf f hg;subst hP Z hK;obtain⟨rfl,B,C⟩:=hg;obtain⟨A,R,p,_⟩:=I.list B;obtain⟨n,m,p',_⟩:=I.list C;have hn:=R.length;have hm:=m.length;have W:=WalksT.zip2 (prog:=X.prog) (w:=X.w) (I.ok.hd d) z TI TO g l a b D A.toArray n.toArray;have hs:min A.toArray.size n.toArray.size=min xs.length ys.length:=by rw[a0b,a0b];omega
  refine W.done s _ _ (by rw[hs];exact⟨f.2.1,f.2.2.1,f.2.2.2.1,f.2.2.2.2.1,f.2.2.2.2.2,p.isList,p'.isList⟩) λS tk kp=>⟨rfl,I.Pf (ch:=[z,TO,g,l]) (λc d=>hf c (by simp only[List.mem_cons,List.not_mem_nil,or_false]at d ⊢;rcases d with r|r|r|r<;>simp[r])) kp⟩
 self:=λ_ _ _ _ _ f h=>wpAny_pyIter_zip f.2.1 h
end
def R4(K:SV)(f:TA):TI:=λg H R=>f g H λh e=>∃a b c d,h=[.ref a,.ref b]/\SqL K e a c/\SqL K e b d/\R (Itw (min c.length d.length) (λH=>SqL K H a c/\SqL K H b d) (N4 c d)) e
section
variable {X:Cx}{elts:Sw}{kk:Nat}{tp p pos:Pos}{e a b:Sy}{m:ME}{ms:MA}
def Mo(T:Gl X "zip")(O:X.mg "zip"=none)(ha:PA X [a,b] ta)(G:starEach [a,b] X.env=[(false,eval a X.env),(false,eval b X.env)]:=by rfl)(g:starEach [b] X.env=[(false,eval b X.env)]:=by rfl):PI X (.Tuple elts kk tp) (.Call (.Name "zip" p) [a,b] [] pos) (R4 X.K ta):=by
 intro f s J H R I h;refine Call_ (UX I T O PyProof.Rows.boot_zip (a1G (thn (ha pos f s J H _ I h) λus d ⟨vs,D,l,P,W⟩=>?_) (by rw[G,g]) (by rw[g];rfl)));obtain⟨F,A,Y,ys,rfl,w,y,q⟩:=W;cases P with
 |cons r u=>
  cases u with
  |cons N u=>
   cases u;cases r;cases N;obtain⟨its,rv,B,_⟩:=l.list w;obtain⟨Q,Z,i,_⟩:=l.list y;have K:F<d.heap.objs.size:=by obtain⟨o,v,_⟩:=B.isList;exact T1 v
   have U:A<d.heap.objs.size:=by obtain⟨o,v,_⟩:=i.isList;exact T1 v
   refine call_zip_2 B.isList i.isList λh' hz x z j n M L=>?_;refine wpAny_pyIter_zip hz ?_;refine⟨d.heap.objs.size+4,[d.heap.objs.size+4,d.heap.objs.size+2,d.heap.objs.size+3,d.heap.objs.size,d.heap.objs.size+1],_,_,D,rfl,l.kept (t':=d.toks) L,C1 _ _ _ _ _ F A Y ys (zipApart_new K U),⟨a0y _,hz,x,⟨_,_,z⟩,j,n⟩,λc E=>?_,q⟩;have ok:∀k,rB X f D (d.heap.objs.size+k):=λk=>l.HF (Nat.le_add_right _ _) (l.hok.fresh (Nat.le_add_right _ _));simp only[List.mem_cons,List.not_mem_nil,or_false]at E;rcases E with r|r|r|r|r<;>subst r
   .exact ok 4
   .exact ok 2
   .exact ok 3
   .exact ok 0
   .exact ok 1
def Mp(xs ys:SH):List PV:=List.zipWith (λx y=>.t [x,y]) xs ys
def Ra:List PV->Out (List PV)
 |[.l c,.l d]=>.ok (Mp c d)
 |_=>.wall
def N5(ms:MA):MI:=λc=>(ms c).bind Ra
def ik(h:H T=none):zA H (upd H T o):=λa u e=>by rw[zi (zZ e h)];exact e
def R7(w:xs.length=n)(g:∀a,M a->N a)(h:∀c,Fr N H2 c->ok c)(r:∀i x,xs[i]?=some x->∃d,x=.t d/\yq W M H2 d (row i)):Gi W M N H2 (Itw n ok row) xs:=λc f=>by refine⟨λi x l=>?_,w,h c f⟩;obtain⟨d,rfl,s⟩:=r i x l;refine⟨⟨by have:=(T9.mp l).1;omega,h c f⟩,λv u q=>?_⟩;obtain⟨T,rfl,j,rfl⟩:=q;refine⟨ik j,λy sM=>⟨T,row i,rfl,.inl (.inl (zg ..)),?_⟩⟩;exact yq.gen (λa o h m=>ik j _ _ (f a o h (m.imp (g a) id))) (λa m n=>sM a m n) s
end
section
variable {X:Cx}{C:LC}{S:So}{elts:Sw}{kk:Nat}{tp p pos:Pos}{a b:Sy}{m1 m2:ME}
def GK(hg:Gl X "zip")(hm:X.mg "zip"=none)(h1:EN X C S a m1)(h2:EN X C S b m2)(G:starEach [a,b] X.env=[(false,eval a X.env),(false,eval b X.env)]:=by rfl)(h:starEach [b] X.env=[(false,eval b X.env)]:=by rfl):IM X C S false (.Tuple elts kk tp) (.Call (.Name "zip" p) [a,b] [] pos) (N5 (zb m1 (zb m2 zk))):=λL=>by
 obtain⟨ta,a1,W⟩:=h1 L;obtain⟨tb,Y,N⟩:=h2 L;refine⟨_,Mo hg hm (Zv a1 (Zv Y Xg (by rw[h];rfl)) (by rw[G,h])) G h,λB P H J o R Q q=>W B P H J o R _ ?_⟩;unfold N5 zb at q;revert q;cases m1 o with
 |exc c fs=>exact id
 |wall=>exact id
 |ok E=>
  intro q v1 T F Z;refine N B P T J o (R.keep F) _ ?_;revert q;cases m2 o with
  |exc c fs=>exact id
  |wall=>exact id
  |ok I=>
   intro K v2 H2 D U;have q:u7 C B S P false H Q (Ra [E,I]):=K;clear K;cases E with
   |l xs=>
    cases I with
    |l ys=>
     obtain⟨p1,y,rfl,M,e,d⟩:=Z;obtain⟨p2,A,rfl,n2,j,n⟩:=U;have e:=D _ _ e;have d:=d.same D;have l1:=d.len;have O:=n.len;refine⟨p1,p2,y,A,rfl,SqL.of e,SqL.of j,q _ H2 (F.trans D) (R7 (by unfold Mp;rw[List.length_zipWith,l1,O]) (λa m=>Mof.nac m) (λH' f=>⟨SqL.of (f _ _ e (.inl M)),SqL.of (f _ _ j (.inl n2))⟩) λi x g=>?_)⟩;unfold Mp at g;rw[List.getElem?_zipWith]at g;cases r:xs[i]? with
     |none=>rw[r]at g;cases g
     |some x1=>
      cases v:ys[i]? with
      |none=>rw[r,v]at g;cases g
      |some x2=>rw[r,v]at g;cases g;obtain⟨u1,u,z⟩:=d.get r;obtain⟨u2,w,s⟩:=n.get v;exact⟨_,rfl,u1,_,by unfold N4;rw[u,w];rfl,z,u2,[],rfl,s,rfl⟩
    |_=>exact q.elim
   |_=>exact q.elim
end
def HEX(X:Cx)(W:RC)(e:Sy)(m:HME):Prop:=X.K=W.K->∃c:TEx,PEx X e c/\∀(Z:HC),Z.W=W->∀A H b a G,HR Z A H b a G->∀Q d,HPx Z d A G.length H (KV' Z Q) (m a G)->c b H Q d
def HXS(X:Cx)(W:RC)(st:SY)(m:HMS):Prop:=X.K=W.K->∃t:TSx,OH X st t/\∀(Z:HC),Z.W=W->∀A H b a G,HR Z A H b a G->∀D c,HPs Z c A G.length H D (m a G)->t D c b H
section
variable {X:Cx}{W:RC}{E:XK}{e:Sy}{es:Sw}{pos pos':Pos}{m:HME}{x:Str}{n i j:Nat}{g:List HV->AH->HX HV}{m1 m2 m3:HMS}
def Mq(z:X.N.Nodup)(o:X.N[i]?=some x)(w:Loc X.env.scope x)(h:HEX X W e m)(c:swapsWith e (some (.Name x pos')) pos.line X.env=pure false:=by rfl)(hf:X.fn x=true\/X.env.scope.names.lookup x=some .local:=by first|exact .inl rfl|exact .inr rfl|assumption):
  HXS X W [.Assign [.Name x pos'] e pos] (vz i m):=λL=>by
 obtain⟨N,K,u⟩:=h L;refine⟨_,B8 (FT z o w K c hf),λZ F A H l a G R D b q=>u Z F A H l a G R _ b ?_⟩;exact HPs.bind (show HPs Z b A G.length H D ((m a G).fw λv I=>.nx (a.set i (some v)) I)from q) λx s r M B J C v d=>C s r _ ((R.gro B J).set d) Gro.refl
def C2(cs l:So)(m1:HMS)(j:Nat)(m2 m3:HMS):HMS:=λb G=>match m1 b G with
 |.nx d a=>.nx d a
 |.rt x a=>.rt x a
 |.exc c fs a=>if c∈cs then(match m2 (b.set j (some (.v (.x c fs)))) a with
  |.rt x h=>.rt x h
  |_=>.wall)else if c∈l then(match m3 (b.set j (some (.v (.x c fs)))) a with
  |.rt x h=>.rt x h
  |_=>.wall)else .wall
 |_=>.wall
def Mr(cs:So)(m1:HMS)(j:Nat)(m2:HMS):HMS:=C2 cs [] m1 j m2 λ_ _=>.wall
def Ms{d a:SY}{b:Tf}{s n:Str}{np hp:Pos}{F:Addr}{cs:So}(C:Own X)(O:HXS X W d m1)(hg:Gl X s)(hm:X.mg s=some (.ref F))
  (hN:X.N.Nodup) (U:X.N[j]?=some n) (z:Loc X.env.scope n) (P:∀e,HSs (X.held (.ref e)) W E (b::a) m2) (u:∀c∈cs,Catch X.K (W.cls c) F true) (hl:X.env.kindOf n=some .local:=by rfl)
  (B:(s==("__debug__":Str))=false:=by decide) (hf:X.fn n=true\/X.env.scope.names.lookup n=some .local:=by first|exact .inl rfl|exact .inr rfl|assumption):
  HS X W E (.Try d [.ExceptHandler (some (.Name s np)) (some n) (b::a) hp] [] [] pos) (Mr cs m1 j m2):=λN=>by
 obtain⟨tb,a1,Y⟩:=O N;have l:=λe=>P e N;refine⟨_,I_ C a1 hg hm hN U z hl (ts:=λe=>Classical.choose (l e)) (λe=>(a0z (l e)).1) B hf,λZ L A H S w G R D q=>Y Z L A H S w G R D _ ?_⟩;unfold Mr C2 at q;revert q;cases m1 w G with
 |wall=>exact id
 |nx r o=>exact id
 |rt x o=>exact id
 |bk r o=>exact λq=>q.elim
 |ct r o=>exact λq=>q.elim
 |exc c fs o=>
  intro q A' M e J es h g I h2 h3;have q:HPs Z E A G.length H D (if c∈cs then(match m2 (w.set j (some (.v (.x c fs)))) o with
   |.rt x K=>.rt x K
   |_=>.wall)else if c∈[]then HFw.wall else .wall):=q
  have R':=(R.gro h g).set (i:=j) (x:=.v (.x c fs)) (v:=.ref e) (show Rep Z.W _ M (.x c fs) _ from⟨e,J,es,rfl,I,h2,h3⟩);subst L;split at q
  .rename_i T;refine⟨e,_,J,rfl,rfl,I,u c T,(a0z (l e)).2 Z rfl A' M _ _ o R' _ ?_⟩;split at q
   .rename_i x K z;rw[z];exact λA2 H2 v hh gg Q=>q A2 H2 v hh (g.trans gg) Q
   .exact q.elim
  .split at q<;>exact q.elim
end
section
variable {X:Cx}{W:RC}{E:XK}{e:Sy}{es:Sw}{pos p:Pos}{ms:MA}{x:Str}{k:Nat}{f:Addr}{fd:SK}{ps:Sn}{g:SD}{ws:Su}{S:So}{fr:Bool}
def R8(bs:Su)(F:qd X.prog X.w X.K X.mg X.base (CXe X.prog X.w) k f fd ps (lsp W true ws g))(I:jJ k X.A)(z:Gl X x)(w:X.mg x=some (.ref f))(s:keepIn X.K (.ref f)=true)(n:Binds X.K fd ps [])(J:AM X.nox ⟨W,E0,fr⟩ S ws (e::es) ms)(u:S.all (·==0)=true:=by rfl)
  (i:(x==("__debug__":Str))=false:=by decide) (he:starEach (e::es) X.env=(false,eval e X.env)::starEach es X.env:=by rfl) (hpl:(backTo pos (starEach es X.env)).any (·.1)=false:=by rfl):HEX X W (.Call (.Name x p) (e::es) [] pos) (hF bs (hX g ms)):=λL=>by
 obtain⟨r,K,v⟩:=J L;refine⟨_,B7 F I z w s n K i he hpl,λZ D A H a d G R Q b q=>P7 (E:=b) (fr:=fr) (te:=λa H Q=>r a H λl m=>lsp W true ws g l m Q b) bs ?_ u Z D A H a d G R Q q⟩;intro B P H a d R Q q;refine v B P H a d R _ ?_;unfold hX at q;revert q;cases ms d with
 |exc c fs=>exact λq=>q.elim
 |wall=>exact id
 |ok h=>intro q l m j y;refine⟨_,h,y.args,?_⟩;have q:ya ⟨W,b,fr⟩ B H (RFr W (Mof B S P) H) Q (g h):=q;exact mB (C:=⟨W,b,fr⟩) (R.keep j) (j8 (C:=⟨W,b,fr⟩) (o:=g h) q j)
end
section
variable {Z:HC}{A:SA}{H:Hp}{G:AH}
def JY(h:HH Z A H G):∀(n:Nat)(x:HV)(v:V)(y:PV),ZD Z.W (HM Z A G.length) A G.length H x v->vG G n x=some y->Rep Z.W (λa=>Z.M0 a\/Z.H0 a=none) H y v
 |0,_,_,_,_,e=>by cases e
 |n+1,.v x,v,y,r,e=>by cases e;exact Rep.sub r λ_ m _=>m.1
 |n+1,.t i,v,y,r,e=>by unfold vG at e;obtain⟨l,d,rfl⟩:=u8.mp e;unfold ZD at r;obtain⟨p,b,rfl,s,q⟩:=r;exact⟨p,b,rfl,s,YC (JY h n) q d⟩
 |n+1,.g k,v,y,r,e=>by
  obtain⟨u,rfl⟩:=r;have j:=h.own k u;unfold vG at e;split at e
  .rename_i i f;obtain⟨l,d,rfl⟩:=u8.mp e;obtain⟨b,g,q⟩:=h.cell k _ f;exact⟨A k,b,rfl,.inr j,g,YC (JY h n) q d⟩
  .rename_i i f;obtain⟨l,d,rfl⟩:=u8.mp e;obtain⟨b,g,q⟩:=h.cell k _ f;exact⟨A k,b,rfl,.inr j,.inl g,JW (JY h n) q d⟩
  .rename_i i f;obtain⟨l,d,rfl⟩:=u8.mp e;obtain⟨o,b,g,q⟩:=h.cell k _ f;exact⟨A k,b,rfl,.inr j,.inr ⟨o,g⟩,JW (JY h n) q d⟩
  .rename_i c i f;obtain⟨l,d,rfl⟩:=u8.mp e;obtain⟨w,b,g,q⟩:=h.cell k _ f;exact⟨A k,w,b,rfl,.inr j,g,eU (JY h n) q d⟩
  .cases e
end
def mkV(c:Nat)(g:List HV->AH->HX HV)(xs:SH):Out PV:=match g (.g 0::xs.map .v) [.o c []]with
 |.ok (.v .n) G=>(match vG G 8 (.g 0)with
  |some z=>.ok z
  |none=>.wall)
 |.exc c fs _=>.exc c fs
 |_=>.wall
def C3(M:Mk X.K (C.W.cls c) f)(F:qd X.prog X.w X.K X.mg X.base (CXe X.prog X.w) k f fd ps (hsp C.W n g))(hr:jJ (k+1) X.A)(hg:Gl X x)(hm:X.mg x=some (.ref (C.W.cls c)))(D:Binds X.K fd ps [])(G:Passes (CXe X.prog X.w) X C.E)(ha:AM X C S l (e::A) ms)(E:l.all (!·)=true)(hn:l.length+1=n)
  (N:(x==("__debug__":Str))=false:=by decide) (he:starEach (e::A) X.env=(false,eval e X.env)::starEach A X.env:=by rfl) (hpl:(backTo pos (starEach A X.env)).any (·.1)=false:=by rfl):EM X C S false (.Call (.Name x p) (e::A) [] pos) (zh (mkV c g) ms):=λhK=>by
 obtain⟨ta,a1,a2⟩:=ha hK;refine⟨_,ue M F hr hg hm D .nil G a1 N he hpl,λB P H σ ρ R Q q=>a2 B P H σ ρ R _ (qw q λr u h s1 Z i=>?_)⟩;intro x s G hd hne;rw[a0h];have R1:=R.keep s1;have Y:zA h (upd (upd h s (.own x)) x (.ins (C.W.cls c) s [])):=λb o D=>by rw[zi (zZ D G),zi (zZ D hd)];exact D
 have sM:∀a,(Mof B S P a\/h a=none)->Mof B S P a:=λa m=>m.elim id λn=>R1.new a n;have hM:∀a,Mof B S P a->h a≠none->HM ⟨C.W,h,Mof B S P⟩ (λ_=>x) 1 a:=λa m n=>⟨.inl m,λ_ _ z=>n (z▸G)⟩;have hh:HH ⟨C.W,h,Mof B S P⟩ (λ_=>x) (upd (upd h s (.own x)) x (.ins (C.W.cls c) s [])) [.o c []]:=by
  refine⟨Y,λk d e=>?_,λj k hj W _=>?_,λk _=>G⟩
  .cases k with
   |zero=>cases e;exact⟨s,[],zg,rfl⟩
   |succ k=>simp at e
  .have hj:j<1:=hj;have W:k<1:=W;omega
 have ar:∀{l:Su}{r:SH}{u:Sx},l.all (!·)=true->jE C.W (Mof B S P) h l r u->qZ C.W (HM ⟨C.W,h,Mof B S P⟩ (λ_=>x) 1) (λ_=>x) 1 (upd (upd h s (.own x)) x (.ins (C.W.cls c) s [])) (r.map .v) u:=λ{l}=>by
  induction l with
  |nil=>intro r u _ ⟨T,J⟩;subst T;exact J
  |cons w l ih=>
   intro r u E ⟨x',v,xr,vr,T,J,h1,O⟩;subst T;rw[a2o,a1a]at E;cases w with
   |true=>cases E.1
   |false=>exact⟨v,vr,J,Rep.gen (M:=Mof B S P) (Y.fr) (λa m n=>hM a m n) (qe.iff.mp h1),ih E.2 O⟩
 have hl:r.length+1=n:=by rw[Z.args.len.2,hn]
 refine⟨⟨C.W,h,Mof B S P⟩,λ_=>x,[.o c []],.g 0::r.map .v,rfl,by rw[S0,v4,hl],hh,⟨.ref x,u,rfl,⟨Nat.one_pos,rfl⟩,ar E Z.args⟩,?_⟩;unfold mkV at i;revert i;cases g (.g 0::r.map .v) [.o c []]with
 |wall=>exact id
 |exc c' fs G2=>intro i A2 L e K A O g2 he I rf;exact i e K A L (R1.same.trans O.same) he I (rf.sub λa m _=>(sM a m.1).1.1)
 |ok y G2=>
  intro i;cases y with
  |v z=>
   cases z with
   |n=>
    intro A2 L h3 U v rv;dsimp only at i;split at i
    .rename_i z hz;refine⟨rv,i (.ref x) L h3.same (RV.of ?_)⟩;have:=JY h3 8 (.g 0) (.ref x) z ⟨T8 Nat.one_pos U.le,by rw[U.agr 0 Nat.one_pos]⟩ hz;exact this.sub λa m _=>sM a m
    .exact i.elim
   |_=>exact i.elim
  |_=>exact i.elim
section
variable {CX:CXT}{P:SG}{w:SI}{K:Sz}{mg:Sl}{base:Heap}{k:Nat}{f:Addr}{name qual x:Str}{params:Arguments}{body:Sy}{scope:Scope}{pm ctv:Value}{c':Addr}{oc:Obj}{ws:Td}{tq:Tok}{N:Sn}{sp:Sp}
def GL(S:zr N [x] scope)(hd:oc.data=.fields ws)(hq:ws[1]?=some (.str qual tq))(hbind:∀(s:Ss)(u:Value),BindsTo s (kla_fn name qual params body scope [] pm (.ref c') ctv) ⟨[u],[]⟩ [(x,u)])
  (WA:∀(A:SQ)(outer:List Env)(s:Ss)(H:Hp)(vs:Sx)(Q:VK)(E:XK),jJ k (A.deeper (envOfC qual scope s.heap.objs.size f (.ref c')))->sp vs H Q E->∃te,PE (dY CX P w K mg base N qual scope f (.ref c') A outer s H E) body te/\te (start N vs) H Q) (hr:jJ (k+1) A) (e0:uc P w K mg base A outer s H) (hof:s.heap.get? f=some (kla_obj name qual params body scope [] pm c' ctv)) (hoc:s.heap.get? c'=some oc) (r:RelV v u) (hsp:sp [v] H Q E):
  codeAny (model P w) A (.call (.ref f) ⟨[u],[]⟩) (CR CX outer P w H s Q E) s:=by
 have lim:s.heap.NoLimit:=e0.mod.nolimit.keeps λb o e=>(e0.bs b o e).1;have hkind:∀y∈[(x,u)],scope.names.lookup y.1=some .local\/(scope.names.lookup y.1=some .cell/\((cellsFrom (s.heap.objs.size+1) scope.names []).lookup y.1).isSome=true):=λy hy=>by
  rw[a0j.mp hy];rcases S.par x S4 with q|q
  .exact .inl q
  .exact .inr ⟨q,a10 _ _ _ (.inl q)⟩
 refine kla_callFunE hr.depth hof rfl S.co S.gen rfl ⟨c',oc,ws,tq,rfl,hoc,hd,hq⟩ (hbind s u _ _ _ _ ?_);refine a2n S.kind hkind λenv he s1 y=>?_;subst he;refine⟨lim.keeps y.toInCall.keep,kla_codeExpr ?_⟩;obtain⟨te,ht,q⟩:=WA A outer s H [v] Q E (hr.deeper _) hsp;have I:Inv (dY CX P w K mg base N qual scope f (.ref c') A outer s H E) [] (start N [v]) H s1:=gE S hr.hd e0 rfl (.cons r .nil) y;refine a0A (ht [] s1 (start N [v]) H _ I q) (λz s' hs=>?_) λe s' hs=>hs;obtain⟨z',H',J,rz,q'⟩:=hs;exact⟨z',H',J.os,J.bare,J.base,J.hok,rz,q'⟩
def Mu(S:zr N [x] scope)(hd:oc.data=.fields ws)(hq:ws[1]?=some (.str qual tq))(hbind:∀(s:Ss)(u:Value),BindsTo s (kla_fn name qual params body scope [] pm (.ref c') ctv) ⟨[u],[]⟩ [(x,u)])
  (WA:∀(A:SQ)(outer:List Env)(s:Ss)(H:Hp)(vs:Sx)(Q:VK)(E:XK),jJ k (A.deeper (envOfC qual scope s.heap.objs.size f (.ref c')))->sp vs H Q E->∃te,PE (dY (CXe X.prog X.w) X.prog X.w X.K X.mg X.base N qual scope f (.ref c') A outer s H E) body te/\te (start N vs) H Q):
  KC X (k+1) [(f,kla_obj name qual params body scope [] pm c' ctv),(c',oc)] f sp:=λhlp hr hA I r h=>by
 have p1:=I.pin _ (a0c _ (hlp _ S4));have p2:=I.pin _ (a0c _ (hlp _ (S6 _ S4)));refine a1c (a1f (GL (outer:=X.stack) S hd hq hbind WA hr hA p1.1 p2.1 r h) λr s' hq=>?_);cases r with
 |error e=>exact(aq hq).elim
 |ok fl=>
  cases fl with
  |ret u=>exact I.after hq
  |next=>exact False.elim hq
  |brk=>exact False.elim hq
  |cont=>exact False.elim hq
end
def Inv.grow(I:Inv X pins σ H s)(hP:H P=some (.tbl ps))(k:∀b u,b≠P->s.heap.get? b=some u->h'.get? b=some u)(h:h'.get? P=some { cls:=.none,data:=.fields (ps++more) }):Inv X pins σ (upd H P (.tbl (ps++more))) { s with heap:=h',toks:=t' }:=by
 have g:∀b,H b=none->b≠P:=λb n q=>by rw[q,hP]at n;cases n
 have a:∀b u,H b=some u->(∀f,u≠.tbl f)->b≠P:=λb u e n q=>by rw[q,hP]at e;cases e;exact n _ rfl
 refine I.un ⟨λb o e n _ _=>k b o (g b n) e,λb o e n _ _=>⟨o.slots,k b o (g b n) e⟩,λb o e n _=>by rw[zi (g b n)];exact n,λb o e _=>?_,λb j e=>by rw[zi (a b _ e λf z=>by cases z)];exact e,λb o u e=>by rw[zi (a b _ e λf z=>by cases z)];exact e,λb f e=>?_⟩ λb u e=>?_
 .by_cases c:b=P
  .rw[c];exact⟨_,h⟩
  .exact⟨o,k b o c e⟩
 .by_cases c:b=P
  .rw[c,hP]at e;cases e;exact⟨more,by rw[c];exact zg⟩
  .exact⟨#[],by rw[zi c,e];simp⟩
 .by_cases c:b=P
  .rw[c,zg]at e;cases e;rw[c];exact h
  .rw[zi c]at e;refine(I.hok b u e).rn (λd v i q=>k d v ?_ q) (λd q=>by rw[zi (a d _ q λf z=>by cases z)];exact q) λd j q=>by rw[zi (a d _ q λf z=>by cases z)];exact q
   rcases i with z|z
   .rw[z];exact c
   .exact a d _ z λf y=>by cases y
def GN{K:SV}{H:Hp}{P l:Addr}{d:Td}{o:HO}{ys:Sx}(h:SqL K H l ys)(hP:H P=some (.tbl d)):SqL K (upd H P o) l ys:=by
 have b:∀u,H l=some u->(∀a,u≠.tbl a)->l≠P:=λu e n q=>by rw[q,hP]at e;cases e;exact n _ rfl
 rcases h with h|h
 .rcases h with h|⟨c,h⟩
  .exact .inl (.inl (by rw[zi (b _ h λa z=>by cases z)];exact h))
  .exact .inl (.inr ⟨c,by rw[zi (b _ h λa z=>by cases z)];exact h⟩)
 .exact .inr h
def C4(Z:X.env.code=.ref c)(hC:CodeHd X.base c P)(hB:X.base.BuiltinsAt X.mg P)(hgP:mainGlobals≠P)(hcl:closureFor scope X.env=pure [])(Y:defaultsOf params X.env=([],[]))(S:zr N [x] scope)
  (w:∀(pm:Value)(d:Addr)(i:Value)(s:Ss)(u:Value),BindsTo s (kla_fn "<lambda>" (X.env.qual++"<lambda>") params body scope [] pm (.ref d) i) ⟨[u],[]⟩ [(x,u)])
  (WA:∀(f d:Addr)(A:SQ)(g:List Env)(s:Ss)(H:Hp)(B:Sx)(Q:VK) (E:XK),jJ k (A.deeper (envOfC (X.env.qual++"<lambda>") scope s.heap.objs.size f (.ref d)))->sp B H Q E->∃te,PE (dY (CXe X.prog X.w) X.prog X.w X.K X.mg X.base N (X.env.qual++"<lambda>") scope f (.ref d) A g s H E) body te/\te (start N B) H Q)
  (hr:jJ (k+1+2) X.A) (hg:Gl X "sorted") (hm:X.mg "sorted"=none) (C:PA X [e] t)
  (he1:backTo pos (starEach [e] X.env)=(false,eval e X.env)::backTo pos (starEach [] X.env):=by rfl) (hpl:(backTo pos (starEach [e] X.env)).any (·.1)=false:=by rfl):
  PE X (.Call (.Name "sorted" p) [e] [⟨some "key",.Lambda params body scope lpos,kpos⟩] pos) (λO H Q=>t O H λB K=>∃l ys D,B=[.ref l]/\SqL X.K K l ys/\K P=some (.tbl D)/\TriplesOk D.toList/\codeAmong lpos D.toList=none/\∀d,xT sp X.K ys (upd K P (.tbl (D++#[rawInt lpos.line,rawInt lpos.col,.ref d]))) Q):=by
 intro r s O H Q I h;refine a0S (UX I hg hm boot_sorted ?_ (by decide) (by decide));refine callWith_kw (thn (C pos r s O H _ I h) λus G ⟨B,K,m,r1,l,ys,D,hv,hl,hP,ht,hnf,j⟩=>?_) he1 hpl;subst hv;obtain⟨u,rfl,ru⟩:=vals1 r1;cases ru;show wpAny _ _ (evalAll ((do let v<-eval (.Lambda params body scope lpos) X.env;standAt pos;pure v)::(backToKw pos (keywordEach [] X.env)).map (·.2))) _ _ G;have T:=m.bk;refine a3p (f8 (kla_eval Y (kla_makeFunction (mg:=X.mg) hcl m.ok.glob (m.mod.glob.keeps T) Z (hC.keeps T) (m.hok P _ hP) ht hnf hgP ?_ λd i F tk hx L hlt J hT=>?_)))
 .obtain⟨bm,o,b1,b2,b3,b4,b5,b6⟩:=hB;exact⟨bm,o,b1,b2,b3,b4,T _ _ b5,b6⟩
 refine f8 (a1v (S8 (S8 ?_)));obtain⟨c2,oc,ws,tq,e2,hoc,hd,U⟩:=J;cases e2;have hTn:∀b u,b≠P->G.heap.get? b=some u->(F.push (kla_obj "<lambda>" (X.env.qual++"<lambda>") params body scope [] ((X.mg "__name__").getD .none) d i)).get? b=some u:=λb u n q=>S5 _ (hx b u n q);have I2:=m.grow (h':=F.push (kla_obj "<lambda>" (X.env.qual++"<lambda>") params body scope [] ((X.mg "__name__").getD .none) d i)) (t':=tk) hP hTn (S5 _ hT);have M:P<G.heap.objs.size:=T1 (show G.heap.get? P=some _ from m.hok P _ hP);have new:∀a,G.heap.objs.size<=a->(upd K P (.tbl (D++#[rawInt lpos.line,rawInt lpos.col,.ref d]))) a=none/\a≠X.env.locals/\a∉X.fs:=λa C=>⟨by rw[zi (a1e (T8 M C))];exact m.hok.fresh C,a1e (T8 m.lt C),m.PJ C⟩;have I3:Inv X (r++[(F.objs.size,kla_obj "<lambda>" (X.env.qual++"<lambda>") params body scope [] ((X.mg "__name__").getD .none) d i),(d,oc)]) O _ _:=I2.UW λq j=>by
  rcases a0B.mp j with j|j
  .exact I2.pin q (a0c _ j)
  .rcases a0f.mp j with rfl|j
   .obtain⟨R,W,n3⟩:=new F.objs.size (a1N (a1g L hlt));exact⟨a0i _ rfl,R,W,n3,λv z=>by cases z⟩
   .rw[a0j.mp j];obtain⟨R,W,n3⟩:=new d L;exact⟨S5 _ hoc,R,W,n3,λv z=>by rw[hd]at z;cases z⟩
 refine a0A (dk (Mu S hd U (w _ d i) λA g s H B Q E=>WA F.objs.size d A g s H B Q E) (λq j=>a0c _ j) hr I3 (GN hl hP) (j d)) (λz s3 ⟨y,H3,I4,ry,q4⟩=>⟨y,H3,I4.vC,ry,q4⟩) λ_ _ z=>z
def GO(P:Addr)(H:Hp):Prop:=H P=some (.tbl #[])/\∀b,b=P\/H b=none\/∃o a,H b=some (.frz o (.lst a))
structure EJ(base:Heap)(mg:Sl)(c P:Addr):Prop where
 hd:CodeHd base c P
 bl:base.BuiltinsAt mg P
 ne:mainGlobals≠P
def xZ{P:SG}{w:SI}{K:SV}{mg mb:Sl}{CX:CXT}{k:Nat}{fa a c g:Addr}{fd:SK}{x:Str}{sp:Sp}{f:Ss}{vs:Sv}{ns:SS}
  (KX:K.In f.heap) (B:f.heap.Ns mainGlobals mg) (p:f.heap.Ns builtinsNs mb) (hbb:∀x:Str,x≠"__name__"->mb x=bootBuiltins x) (hlim:f.heap.NoLimit) (hg:f.gens = #[])
  (O:f.heap.get? a=some { cls:=.type "list",data:=.seq vs.toArray }) (hi:IntsAre vs ns) (hl:ns.length<=sizeLine) (hr:jJ k callerA)
  (hC:CodeHd f.heap c g) (A:f.heap.get? g=some (tabObj #[])) (hnt:noTabs K=true) (hbm:∃S ob,mg "__builtins__"=some (.ref S)/\S≠builtinsNs/\f.heap.get? S=some ob/\ob.cls=.type "module"/\ob.dict=some builtinsNs/\ob.data=.plain)
  (F:∀l:Heap,K.In l->l.Ns mainGlobals mg->EJ l mg c g->qd P w K mg l CX k fa fd [x] sp) (N:∀(s:Ss)(u:Value),BindsTo s fd ⟨[u],[]⟩ [(x,u)])
  (hsp:∀H:Hp,GO g H->SqL K H a (ns.map V.int)->sp [.ref a] H (λv _=>v=.bl true) λ_ _ _=>False)
  (hCX:∀H e y,CX [] H f (λ_ _ _=>False) e y->False):
  codeAny (model P w) callerA (.call (.ref fa) ⟨[.ref a],[]⟩) (λr y=>r=.ok (.ret (.bool true))/\OldK f.heap y.heap/\y.os=f.os/\AllBare y.gens) f:=by
 have rv:=gM hi;have Hb:=hi.length;have aP:a≠g:=λq=>by rw[q,A]at O;cases O
 have gP:mainGlobals≠g:=λq=>by obtain⟨o,L,D,e,hd,_⟩:=B;rw[q,A]at e;cases e;cases hd
 have G:∀H:Hp,GO g H->SqL K H a (ns.map V.int)->HOk P w H f.heap->(∀b,H b≠none->b=a\/b=g)->(H a≠none->K.lookup a=none)->
   codeAny (model P w) callerA (.call (.ref fa) ⟨[.ref a],[]⟩) (λr y=>r=.ok (.ret (.bool true))/\OldK f.heap y.heap/\y.os=f.os/\AllBare y.gens) f:=by
  intro H hO hS X hA hK;have j:∀{b:Addr}{o:Obj},f.heap.get? b=some o->H b=none->(Bt f.heap H).get? b=some o:=λe n=>BC e n;have W:∀{b:Addr}{o:Obj},f.heap.get? b=some o->o.cls≠.type "list"->o.cls≠.none->H b=none:=λ{b o} e d1 d2=>by
   cases q:H b with
   |none=>rfl
   |some u=>
    rcases hA b (by rw[q];simp)with e'|e'
    .subst e';rw[O]at e;cases e;exact absurd rfl d1
    .subst e';rw[A]at e;cases e;exact absurd rfl d2
  have noA:∀{b:Addr}{o:Obj}{L:Array DictEntry}{D:Nat},f.heap.get? b=some o->o.data=.dict L D->H b=none:=λ{b o L D} e d=>by
   cases q:H b with
   |none=>rfl
   |some u=>
    rcases hA b (by rw[q];simp)with e'|e'
    .subst e';rw[O]at e;cases e;have d':Data.seq vs.toArray _=Data.dict L D:=d;cases d'
    .subst e';rw[A]at e;cases e;have d':Data.fields #[]=Data.dict L D:=d;cases d'
  have C:∀{b:Addr}{m:Sl},f.heap.Ns b m->(Bt f.heap H).Ns b m:=λ{b m} ⟨o,L,D,e,d,r⟩=>⟨o,L,D,j e (noA e d),d,r⟩;have hKb:K.In (Bt f.heap H):=λb o e=>j (KX b o e) (by
   cases q:H b with
   |none=>rfl
   |some u=>
    rcases hA b (by rw[q];simp)with e'|e'
    .subst e';rw[hK (by rw[q];simp)]at e;cases e
    .subst e';have h1:=KX _ _ e;rw[A]at h1;cases h1;have h2:=a1o.mp hnt _ (mem_of_lookupK e);exact absurd (show false=true from h2) T7)
  have hM:Mod K mg (Bt f.heap H):=⟨hKb,C B,⟨mb,C p,hbb⟩,let⟨mc,h1,h2⟩:=hlim;⟨mc,C h1,h2⟩⟩;have tb:EJ (Bt f.heap H) mg c g:=by
   refine⟨?_,?_,gP⟩
   .obtain⟨o,vs,Z,tf,Q,tg,inF,U,tt,e,Y,r⟩:=hC;exact⟨o,vs,Z,tf,Q,tg,inF,U,tt,j e (W e (by rw[Y];decide) (by rw[Y];exact λz=>by cases z)),Y,r⟩
   .obtain⟨S,ob,b1,b2,R,b4,b5,b6⟩:=hbm;refine⟨S,ob,b1,b2,λq=>?_,λq=>?_,j R (W R (by rw[b4];decide) (by rw[b4];exact λz=>by cases z)),b4,b5,b6⟩
    .obtain⟨o,L,D,e,hd,_⟩:=B;rw[q,e]at R;cases R;rw[hd]at b6;cases b6
    .rw[q,A]at R;cases R;cases b4
  have e0:uc P w K mg (Bt f.heap H) callerA [] f H:=⟨rfl,hM,λb o e=>Ft e,a19 (tS _ _),trivial,λb p=>absurd (show b∈([]:List Addr)from p) (by simp),X,.of_eq hg⟩;refine a1f ((F _ hKb (C B) tb).run callerA [] f H ⟨[.ref a],[]⟩ [.ref a] [.ref a] _ _ hr e0 (N f (.ref a)) (.cons rfl .nil) (hsp H hO hS)) λr y h=>?_;cases r with
  |error e=>exact(hCX H e y h).elim
  |ok fl=>
   cases fl with
   |next=>exact False.elim h
   |brk=>exact False.elim h
   |cont=>exact False.elim h
   |ret u=>
    obtain⟨v,H',os,T,un,I,r',q⟩:=h;have q':v=.bl true:=q;subst q';obtain rfl:u=Value.bool true:=r';have keep:∀b o,b≠g->f.heap.get? b=some o->y.heap.get? b=some o:=λb o hne e=>by
     cases q:H b with
     |none=>exact un.keep b o e q (by intro z;exact absurd (show b∈([]:List Addr)from z) (by simp)) (by simp)
     |some u=>
      rcases hO.2 b with z|z|⟨ob,xs,z⟩
      .exact absurd z hne
      .rw[q]at z;cases z
      .have z2:=un.BA b ob _ z;obtain⟨e1,_⟩:=X b _ z;obtain⟨Y,_⟩:=I b _ z2;rw[e]at e1;cases e1;exact Y
    obtain⟨E,hm⟩:=un.BB g _ hO.1;have hP':y.heap.get? g=some { cls:=.none,data:=.fields (#[]++E) }:=I g _ hm;refine⟨rfl,⟨λb o e=>?_,λb o e=>?_⟩,os,T⟩
    .by_cases i:b=g
     .subst i;rw[A]at e;cases e;exact .inr (.inl ⟨(hC.tab A).isCodeTable,rfl,#[],E,rfl,hP'⟩)
     .exact .inl (keep b o i e)
    .by_cases i:b=g
     .subst i;exact⟨_,hP'⟩
     .exact⟨o,keep b o i e⟩
 have hTo:qG P w (λb=>if b=g then some (.tbl #[])else none) f.heap g (.tbl #[]):=A;cases hk:K.lookup a with
 |some o=>
  have e:=KX a o hk;rw[O]at e;cases e;refine G (λb=>if b=g then some (.tbl #[])else none) ⟨if_pos rfl,λb=>?_⟩ (.inr ⟨_,vs.toArray,_,hk,rfl,rfl,rfl,by rw[a0b,Hb];exact hl,by simpa using rv⟩) (λb u z=>?_) (λb z=>?_) λz=>absurd (if_neg aP) z
  .by_cases i:b=g
   .exact .inl i
   .exact .inr (.inl (if_neg i))
  .by_cases i:b=g
   .have J:=(if_pos i).symm.trans z;cases J;subst i;exact A
   .have J:=(if_neg i).symm.trans z;cases J
  .by_cases i:b=g
   .exact .inr i
   .exact absurd (if_neg i) z
 |none=>
  refine G (λb=>if b=a then some (.frz { cls:=.type "list",data:=.seq vs.toArray } (.lst (ns.map V.int)))else if b=g then some (.tbl #[])else none) ⟨(if_neg (Ne.symm aP)).trans (if_pos rfl),λb=>?_⟩ (.inl (.inr ⟨{ cls:=.type "list",data:=.seq vs.toArray },if_pos rfl⟩)) (λb u z=>?_) (λb z=>?_) λ_=>hk
  .by_cases p:b=a
   .exact .inr (.inr ⟨_,_,if_pos p⟩)
   .by_cases i:b=g
    .exact .inl i
    .exact .inr (.inl ((if_neg p).trans (if_neg i)))
  .by_cases p:b=a
   .have J:=(if_pos p).symm.trans z;cases J;subst p;exact⟨O,by rw[v4];exact hl,vs,_,rv,O⟩
   .have J:=(if_neg p).symm.trans z;by_cases i:b=g
    .have M:=(if_pos i).symm.trans J;cases M;subst i;exact A
    .have M:=(if_neg i).symm.trans J;cases M
  .by_cases p:b=a
   .exact .inl p
   .by_cases i:b=g
    .exact .inr i
    .exact absurd ((if_neg p).trans (if_neg i)) z
def C5{l:OpenLaw}{n k:Nat}{q:SG}{j:Sn}{XP:(Str->Option Value)->Heap->Prop}{O:World->Heap->Prop}{d d':DefRec}{K:Params->Frag}{CX:World->CXT}{sp:World->Addr->Sp}{x y:Str}
  (hn:l.most=some n) (C:n<=sizeLine) (A:d.params.defaults=[]) (Z:jJ k callerA)
  (U:∀(w:SI)(h:Heap),O w h->(K w.params).In h) (hy:(recsOf q).find? (λe=>e.name==y)=some d')
  (F:∀(w:SI)(m:Sl)(fa:Addr)(h:Heap),(K w.params).In h->h.Ns mainGlobals m->m d.name=some (.ref fa)->
   ∃(I:SK)(c P:Addr),tabIn (K w.params) y=some (c,P)/\noTabs (K w.params)=true/\(∀(s:Ss)(u:Value),BindsTo s I ⟨[u],[]⟩ [(x,u)])/\
    ∀b:Heap,(K w.params).In b->b.Ns mainGlobals m->EJ b m c P->qd l.prog w (K w.params) m b (CX w) k fa I [x] (sp w P))
  (hsp:∀(w:SI)(P:Addr)(H:Hp)(a:Addr)(z:SS),z.length<=n->GO P H->SqL (K w.params) H a (z.map V.int)->sp w P [.ref a] H (λv _=>v=.bl true) λ_ _ _=>False)
  (L:∀(w:SI)(H:Hp)(s:Ss)(e:Value)(D:Ss),CX w [] H s (λ_ _ _=>False) e D->False):
  WalkO q j XP O l.row.toRowW d [] (λf M=>PySem.call f M):=by
 refine Att.l6 hn A λw N p m mb fa o pm cd X a M z G Y ho hd hcd E r i g W=>?_;have B:=U w _ Y;obtain⟨I,c,P,ht,J,Q,hF⟩:=F w m fa _ B G.T.g E;obtain⟨T,S⟩:=tab_of G.T B hy ht;exact xZ B G.T.g G.T.b G.T.builtins G.T.nolimit W r i (a0o g C) Z T S J G.T.bmain hF Q (λH hO R=>hsp w P H a z g hO R) λH e D=>L w H p e D
def Mv{K:SV}{x:Str}{f c P:Addr}{e:SK}{l d:Value}{od a:Te}{sl b:SX}{vs:Td}(h:nsIn K mainGlobals x=some (some (.ref f)))(i:K.lookup f=some ⟨l,od,.func e,sl⟩)(j:e.code=.ref c)(m:K.lookup c=some ⟨d,a,.fields vs,b⟩)(g:vs[11]?=some (.ref P)):tabIn K x=some (c,P):=by unfold tabIn;rw[h];dsimp only;rw[i];dsimp only;rw[j];dsimp only;rw[m];dsimp only;rw[g]
def x3(n:Nat)(m:ME)(xs:SH):Out PV:=match m (xs.map some++List.replicate (n-xs.length) none)with
 |.ok y=>.ok y
 |_=>.wall
def C6(l:X.K=W.K)(e:N.length=n)(j:ws.length<=n)(h:EM X ⟨W,E,false⟩ (Vd ws n) false body m)(q:lsp W false ws (x3 n m) vs H Q E):∃b,PE X body b/\b (start N vs) H Q:=by
 subst e;obtain⟨M,d,i,q⟩:=q;obtain⟨b,g,f⟩:=h l;refine⟨b,g,f (xj H M) _ H _ _ (g8 i j) _ ?_⟩;unfold x3 at q;revert q;cases m (d.map some++List.replicate (N.length-d.length) none)with
 |exc c fs=>exact λq=>q.elim
 |wall=>exact id
 |ok y=>intro q v o s r;refine q v o s ?_;unfold RtV;rw[if_neg T7];exact r.rep.sub λa m _=>m.1.1
section
variable {P:SG}{w:SI}{K:SV}{mg:Sl}{base:Heap}
def GP{x b:Str}{st:Tf}{f c:Addr}{u:SK}{N o:Sn}{k n l:Nat}{W:RC}{ms:HMS}(F:Fun K x b st f u)(d:u.code=.ref c)(S:zr N o (zj st))(hW:K=W.K)(D:o.length=l)(O:N.length=n)
  (h:∀(A:SQ)(a:List Env)(s:Ss)(H:Hp)(E:XK),jJ k (A.deeper (envOfC b (zj st) s.heap.objs.size f (.ref c)))->HSs (thr (dY (CXe P w) P w K mg base N b (zj st) f (.ref c) A a s H E) E) W E (Zw st) ms):
  qd P w K mg base (CXe P w) (k+1) f u o (hsp W l (Bz n ms)):=by
 subst O D;obtain⟨oc,od,kV,X,pm,an,B,ct,T,rfl,lk,z⟩:=F.ex;have e:B=.ref c:=d;subst e;refine IB lk z S xE λA a s H vs Q E Y ⟨Z,A',G,C,U,D,M,r,q⟩=>?_;obtain⟨ts,I,R⟩:=h A a s H E Y hW;refine⟨ts,I.IW λv s h=>Eg h,R Z U A' H _ _ G (oZ M r) _ ?_⟩;unfold Bz at q;revert q;cases ms (C.map some++List.replicate (N.length-C.length) none) G with
 |exc c fs i=>exact id
 |wall=>exact id
 |nx g i=>exact λq m p J R2 j=>q m p R2.toHH j .non rfl
 |rt y i=>exact λq m p v h2 j L=>q m p h2 j v L
 |bk g i=>exact λq=>q.elim
 |ct g i=>exact λq=>q.elim
end
def C7(f:H (W.cls 1000)=some (.tbl #[]))(m:SqL W.K H p (ns.map V.int))(h:∃G,g [.v (.sc ns)] [.y true]=.ok (.v (.b true)) G)(k:∀w,Q (.bl true) w):hsp W 1 g [.ref p] H Q E:=by
 obtain⟨G,h⟩:=h;have l:∀{u:HO},H p=some u->(∀r,u≠.tbl r)->W.cls 1000≠p:=λe n z=>by rw[<- z,f]at e;cases e;exact n _ rfl
 refine⟨⟨W,λb=>if b=W.cls 1000 then none else H b,λ_=>True⟩,λ_=>W.cls 1000,[.y true],[.v (.sc ns)],rfl,rfl,⟨λa o e=>?_,λk c e=>?_,λj k i d _=>?_,λk _=>if_pos rfl⟩,⟨.ref p,[],rfl,⟨p,rfl,?_⟩,rfl⟩,?_⟩
 .by_cases z:a=W.cls 1000
  .have x:=(if_pos z).symm.trans e;cases x
  .exact(if_neg z).symm.trans e
 .cases k with
  |zero=>cases e;exact⟨rfl,#[],f,λ_=>rfl⟩
  |succ k=>simp at e
 .have i:j<1:=i;have d:k<1:=d;omega
 .rcases m with z|z
  .refine .inl ⟨⟨.inl trivial,λ_ _=>?_⟩,z⟩;rcases z with z|⟨o,z⟩
   .exact l z λ_=>by nofun
   .exact l z λ_=>by nofun
  .exact .inr z
 .rw[h];intro A s B y v q;cases(show v=_ from q);exact k s
def x4{W:RC}{M:Sr}{A:SA}{n:Nat}{H:Hp}:∀{a:SH}{b:Sx},yq W M H a b->qZ W M A n H (a.map .v) b
 |[],_,h=>h
 |_::_,_,⟨v,r,e,c,d⟩=>⟨v,r,e,c,x4 d⟩
def pd(g:SD)(ms:HMA):HME:=λd G=>(ms d G).bind λb a=>match b with
 |[.v (.l b)]=>(match a[(0:Nat)]? with
  |some (.y true)=>(match cb g b with
   |.ok (.l c)=>.ok (.g a.length) (a.set 0 (.y false)++[.l (c.map .v)])
   |_=>.wall)
  |_=>.wall)
 |_=>.wall
def C8(hcd:X.env.code=.ref c)(T:EJ X.base X.mg c P)(hP:W.cls 1000=P)(L:closureFor scope X.env=pure [])(U:defaultsOf params X.env=([],[]))(S:zr N [x] scope)
  (y:∀(pm:Value)(j:Addr)(M:Value)(s:Ss)(u:Value),BindsTo s (kla_fn "<lambda>" (X.env.qual++"<lambda>") params body scope [] pm (.ref j) M) ⟨[u],[]⟩ [(x,u)])
  (WA:∀(f j:Addr)(A:SQ)(w:List Env)(s:Ss)(H:Hp)(O:Sx)(Q:VK) (E:XK),jJ k (A.deeper (envOfC (X.env.qual++"<lambda>") scope s.heap.objs.size f (.ref j)))->lsp W false [wk] g O H Q E->∃te,PE (dY (CXe X.prog X.w) X.prog X.w X.K X.mg X.base N (X.env.qual++"<lambda>") scope f (.ref j) A w s H E) body te/\te (start N O) H Q)
  (hr:jJ (k+1+2) X.A) (hg:Gl X "sorted") (hm:X.mg "sorted"=none) (B:HA X W E [e] ms)
  (he1:backTo pos (starEach [e] X.env)=(false,eval e X.env)::backTo pos (starEach [] X.env):=by rfl) (hpl:(backTo pos (starEach [e] X.env)).any (·.1)=false:=by rfl):
  HE X W E (.Call (.Name "sorted" p) [e] [⟨some "key",.Lambda params body scope lpos,kpos⟩] pos) (pd g ms):=λhK=>by
 obtain⟨ta,a1,a2⟩:=B hK;refine⟨_,C4 (k:=k) (sp:=lsp W false [wk] g) hcd T.hd T.bl T.ne L U S y WA hr hg hm a1 he1 hpl,λZ hZ A H σ ρ G R Q q=>a2 Z hZ A H σ ρ G R _ (HPx.bind q λxs Y H1 d h1 g1 b O rs=>?_)⟩;subst hZ;split at b
 .rename_i m;split at b
  rotate_left
  .exact b.elim
  rename_i hy;obtain⟨v,r,rfl,hv,hr'⟩:=rs;cases(show _=_ from hr');obtain⟨l,us,rfl,_,hl,rr⟩:=(show Rep Z.W _ H1 (.l m) v from hv);obtain⟨K,ps,e2,e3⟩:=h1.cell 0 _ hy;have e3:=e3 rfl;subst e3;have C:0<d.length:=(T9.mp hy).1;rw[hP]at K;refine⟨l,us,#[],rfl,SqL.of hl,by rw[<- K];exact e2,trivial,rfl,λj=>?_⟩;rw[<- K];have g2:=h1.frw (o:=.tbl (#[]++#[rawInt lpos.line,rawInt lpos.col,.ref j])) C e2 id;have h2:=h1.write (c:=.y false) (o:=.tbl (#[]++#[rawInt lpos.line,rawInt lpos.col,.ref j])) C e2 id ⟨K.trans hP.symm,_,zg,λz=>by cases z⟩;have J:(d.set 0 (.y false)).length=d.length:=a0v ..;have F:=yq.gen g2.fr g2.sM rr;have b:HPx Z E Y d.length H1 (KV' Z Q) (match cb g m with | .ok (.l zs)=>.ok (.g d.length) (d.set 0 (.y false)++[.l (zs.map .v)])|_=>.wall):=b;unfold cb at b;by_cases I:m.length<64
  .rw[if_pos I]at b;cases h:WR g m with
   |none=>rw[h]at b;exact b.elim
   |some n=>
    rw[h]at b;dsimp only at b;by_cases nd:n.Nodup
    .rw[if_pos nd]at b;have D:us.length=m.length:=(yq.len rr).symm▸rfl;rw[hK];refine⟨by omega,mU F h λH' zs s hz=>⟨n,by rw[aA h,D],by rw[a05];exact hz,λq' a srt B=>?_⟩⟩;rw[xV nd srt (VI n)];refine mN (c:=.l (((mT n).map λi=>m.getD i .n).map .v)) (h2.keep s) (zA.upd B) B ⟨_,zg,?_⟩ (by
      rw[J];exact HPx.gro (o:=HX.ok (HV.g d.length) (d.set 0 (.y false)++[.l (((mT n).map λi=>m.getD i .n).map .v)])) b (g2.trans (Gro.same s)))
     have r0:=(F.same s).xW (mT n);have g3:Gro Z Y d.length H' (exA Y d.length a) (d.length+1) (upd H' a (.lst ((mT n).map λi=>us.getD i .non))):=Gro.ext (zA.upd B) B;rw[J];exact x4 (yq.gen g3.fr g3.sM r0)
    .rw[if_neg nd]at b;exact b.elim
  .rw[if_neg I]at b;exact b.elim
 .exact b.elim
section
variable {X:Cx}{pins:Sm}{σ:St}{H:Hp}{s:Ss}
def x5(I:Inv X pins σ H s)(h:SqT X.K H b (ks.map kV)):(tupleKind (yJ X.prog X.w)).is s.heap ks b:=by obtain⟨a,r,⟨o,c,d,n,e⟩,_⟩:=I.tuple h;exact⟨o,a.toArray,n,c,d,e,by simpa using U2 r⟩
def R9(K:SV):R2:=λx y H Q=>∃a b c d v,x=.ref a/\y=.ref b/\Rd H a (.dT c)/\SqT K H b (d.map kV)/\X_ c d=some v/\Q v H
def GQ(I:Inv X pins σ H s)(e:Rd H a (.dT kvs)):s.TypeIs (.ref a) "dict":=by obtain⟨z,g,h,b,o,j,f,c,d,i⟩:=U4 I.hok e;exact⟨o,c,d.1⟩
def C9(A:X.A.units+1<cLine):IxR X (R9 X.K):=by
 intro f c pins s σ H x y v u Q I C J h B;obtain⟨a,b,D,w,F,rfl,rfl,e,K,l,q⟩:=h;cases C;cases(show u=Value.ref b from J);have n:=GQ I e;unfold subscriptTail;refine f8 ?_;rw[a24 n.not_modules];refine f8 (a2V n PySem.F.slot_dict_getitem.lookup ?_);have d:wpAny (TQ X) X.A (subscripted c false (.ref a) (.ref b)) (λr g=>wpAny (TQ X) X.A (letTemporaryGo f (.ref a) r >>= λ_=>pure r) (EP X pins σ Q) X.xe g) X.xe s:=by rw[B];obtain⟨z,M,G,m,dd⟩:=U4 I.hok e;obtain⟨L,E,i⟩:=Xf.some_of (v:=F) (o:=(atKey G w).map (·.2)) (by rw[<- l];exact m.val w);obtain⟨p,hp,j⟩:=u8.mp E;refine wpAny_operating (a3s (a0T A) (x5 I K) dd hp ?_);rw[j];exact f8 (a3c (S8 ⟨_,H,I.tok _,i,q⟩))
 first
  |exact S8 (f8 d)
  |exact f8 (S8 (f8 d))
  |exact f8 d
def Rb(K:SV):R2:=λx y H Q=>∃a b c d,x=.ref b/\y=.ref a/\Rd H a (.dT c)/\SqT K H b (d.map kV)/\Q (.bl (X_ c d).isSome) H
def Mw(i:X.A.units+1<cLine):OpR X (compareOp .In) (Rb X.K):=by intro pins s σ H x y v u Q I j m h;obtain⟨a,b,c,f,rfl,rfl,e,n,q⟩:=h;cases(show v=Value.ref b from j);cases(show u=Value.ref a from m);obtain⟨z,l,o,d,dd⟩:=U4 I.hok e;refine wpAny_in_heap (a0T i) (x5 I n) l dd ?_;have g:=(d.val f).Yk;rw[a06]at g;rw[<- g];exact⟨.bl (X_ c f).isSome,H,I.tok _,rfl,q⟩
end
def N6:PV->PV->Out PV
 |.dt a,.t b=>match pk2 b with
  |some c=>kW ((zP a c).map PV.i)
  |none=>.wall
 |_,_=>.wall
def Mx:PV->PV->Out PV
 |.t b,.dt a=>match pk2 b with
  |some c=>.ok (.b (zP a c).isSome)
  |none=>.wall
 |_,_=>.wall
def il(h:yq W M H xs vs)(a:pk2 xs=some ks):vs=ks.map kV:=by
 match xs,a with
 |[x,y],a=>obtain⟨j,d,a⟩:=a0d.mp a;obtain⟨i,f,a⟩:=a0d.mp a;cases a;obtain⟨v,r,rfl,b,u,g,rfl,c,e⟩:=h;cases(show g=[]from e);rw[WG (qe.iff.mpr b) d,WG (qe.iff.mpr c) f];rfl
def My(m:X.A.units+1<cLine)(F:EM X C S w1 a m1)(M:EM X C S w2 b m2)(j:WD b:=by intro _ _;rfl):EM X C S false (.Subscript a b pos) (mOp N6 m1 m2):=λd=>by
 obtain⟨T,N,w⟩:=F d;obtain⟨Y,A,g⟩:=M d;refine⟨_,BM (C9 m) N A j,λB P H e f R Q q=>w B P H e f R _ (zN q λx v o h D G=>g B P o e f (R.keep h) _ (zN G λy u W L r c=>?_))⟩;unfold N6 at c;split at c
 .split at c
  .rename_i s i;obtain⟨y,J,E⟩:=qj c;obtain⟨n,O,rfl⟩:=u8.mp J;obtain⟨p,rfl,_,I⟩:=D.weak;obtain⟨z,U,rfl,K,l⟩:=r.weak;cases il l i;exact⟨p,z,_,s,.int n,rfl,rfl,WO L I,by rw[d];exact K,by rw[WQ,O];rfl,E _ _ (zA.refl _) (RV.of rfl)⟩
  .exact c.elim
 .exact c.elim
def Mz{b e:TE}{K:SV}(s:K=C.W.K)(n:LE C S w1 b m1)(D:LE C S w2 e m2):LE C S false (tOp (Rb K) b e) (mOp Mx m1 m2):=λB P H c d R Q q=>n B P H c d R _ (zN q λx v i f m o=>D B P i c d (R.keep f) _ (zN o λy u F A j a=>by
 unfold Mx at a;split at a
 .split at a
  .rename_i l g;obtain⟨p,rfl,_,r⟩:=j.weak;obtain⟨z,E,rfl,w,h⟩:=m.weak;cases il h g;exact⟨p,z,_,l,rfl,rfl,r,by rw[s];exact w.same A,by rw[WQ,a06];exact a _ _ (zA.refl _) (RV.of rfl)⟩
  .exact a.elim
 .exact a.elim))
def MB(d:X.A.units+1<cLine)(h:EM X C S w1 a m1)(j:EM X C S w2 b m2)(f:behindInMarks .In b=false:=by with_unfolding_all rfl):EM X C S false (.Compare a [.In] [b] pos) (mOp Mx m1 m2):=λc=>by obtain⟨m,i,l⟩:=h c;obtain⟨n,e,g⟩:=j c;exact⟨_,t9 (Mw d) i e f,Mz c l g⟩
def hFV(bs:Su)(m:ME):HME:=λa G=>match Ve G bs a with
 |some r=>match m r with
  |.ok x=>if NT x=true then .ok (.v x) G else .wall
  |_=>.wall
 |none=>.wall
def Pg{X:Cx}{W:RC}{E:XK}{fr:Bool}{S:So}{e:Sy}{m:ME}(bs:Su)(h:FM X ⟨W,E,fr⟩ S e m)(b:S.all (·==0)=true:=by rfl):HE X W E e (hFV bs m):=λw=>by
 obtain⟨i,u,g⟩:=h w;refine⟨i,u,λZ l A H d y G R Q q=>?_⟩;subst l;unfold hFV at q;split at q
 .rename_i r n;refine g _ _ H d r (CK R n b) Q ?_;revert q;cases m r with
  |ok x=>
   intro q v j s a;dsimp only at q;split at q
   .rename_i f;obtain⟨p,rfl,hp,o⟩:=a;exact q A j (R.toHH.keep s) (Gro.same s) _ (qe.iff.mp ((oX f o).Lg (R.toHH.new p hp)))
   .exact q.elim
  |exc c fs=>exact λq=>q.elim
  |wall=>exact id
 .exact q.elim
def vok:List Bool->YB->Bool
 |true::b,some (.v _)::a=>vok b a
 |false::b,_::a=>vok b a
 |[],_=>true
 |_,[]=>true
 |true::_,_::_=>false
def hWm(ks bs:Su)(m:ME):HME:=λa G=>if vok ks a=true then hW bs m a G else .wall
def x6:∀{ks:Su}{ρ:YB}{i:Nat}{y:HV},vok ks ρ=true->ks[i]?=some true->ρ[i]?=some (some y)->∃x,y=.v x
 |true::ks,some (.v x)::ρ,0,y,_,_,h=>by cases h;exact⟨x,rfl⟩
 |true::ks,some (.v x)::ρ,i+1,y,h,hk,hr=>x6 (ks:=ks) (ρ:=ρ) (i:=i) h hk hr
 |false::ks,_::ρ,0,y,_,hk,_=>by cases hk
 |false::ks,_::ρ,i+1,y,h,hk,hr=>x6 (ks:=ks) (ρ:=ρ) (i:=i) h hk hr
 |[],_,i,y,_,hk,_=>by simp at hk
 |_,[],i,y,_,_,hr=>by simp at hr
 |true::_,none::_,i,y,h,_,_=>by cases h
 |true::_,some (.g _)::_,i,y,h,_,_=>by cases h
 |true::_,some (.t _)::_,i,y,h,_,_=>by cases h
abbrev ksS(ks:Su):List Nat:=ks.map λb=>if b=true then 0 else 1
def MC(R:HR Z A H σ ρ G)(e:UI G bs ρ=some r)(B:vok ks ρ=true)(f:bs.length<=ks.length):Rel Z.W (xj H (HM Z A G.length)) (ksS ks) (λ_=>0) H σ r:=by
 have d:∀{k:Nat},(ksS ks)[k]?=some 2->False:=λ{k} h=>by rw[a0k]at h;obtain⟨b,_,e⟩:=u8.mp h;cases b<;>cases e
 refine⟨zA.refl _,R.len.trans (UJ e).symm,λi x h=>?_,λi c=>(d c).elim,λi j c=>(d c).elim,λc=>(d c).elim,λa h=>h.elim,λi c=>(d c).elim⟩;obtain⟨c,y,l,g⟩:=JX e h;obtain⟨v,w,o⟩:=R.var i y l;have u:i<ks.length:=T8 c f;refine⟨v,w,λz=>(d z).elim,λ_=>qe.sub (CP R.toHH o g) (λ_ n _=>n) λa m _=>⟨⟨.inl m,id⟩,λi c=>(d c).elim⟩,λ_ z=>?_⟩;have p:ks[i]?=some true:=by
  have q:=T4 u;cases f:ks[i]with
  |true=>rw[q,f]
  |false=>exact absurd (show(ksS ks)[i]?=some 1 by rw[a0k,q,f];rfl) z
 obtain⟨s,rfl⟩:=x6 B p l;have g:some s=some x:=g;cases g;exact Rep.sub (show Rep Z.W _ H x v from o) λa m _=>⟨⟨.inl m,id⟩,λi c=>(d c).elim⟩
section
variable {X:Cx}{W:RC}{E:XK}{fr:Bool}{e:Sy}{m:ME}
def Ph(ks bs:Su)(h:EM X ⟨W,E,fr⟩ (ksS ks) false e m)(d:bs.length<=ks.length:=by decide):HE X W E e (hWm ks bs m):=λp=>by
 obtain⟨j,u,i⟩:=h p;refine⟨j,u,λZ l A H g y G R Q q=>?_⟩;subst l;unfold hWm at q;split at q
 .rename_i w;unfold hW at q;split at q
  .rename_i r o;refine i _ _ H g r (MC R o w d) Q ?_;revert q;cases m r with
   |ok x=>exact λq v b s f=>q A b (R.toHH.keep s) (Gro.same s) v (f.rep.sub λa m _=>Gy R.toHH a m)
   |exc c fs=>exact λq=>mM R.toHH q λb z h=>h.sub λa m _=>m.elim id λn=>R.toHH.new a n
   |wall=>exact id
  .exact q.elim
 .exact q.elim
end
end L2
namespace L2
section
variable {κ α:Type}[DecidableEq κ]
def C_{k:κ}:zP ([]:List (κ×α)) k=none:=rfl
def yz{k j:κ}{v:α}{r:List (κ×α)}:zP ((j,v)::r) k=if j=k then some v else zP r k:=by
 unfold zP;rw[a1z];by_cases h:j=k
 .simp[h]
 .simp[h]
def w6:∀{a:List (κ×α)}{k:κ},a.any (λb=>decide (b.1=k))=(zP a k).isSome
 |[],_=>rfl
 | (j,v)::r,k=>by
  rw[a0O,yz,w6];by_cases h:j=k
  .simp[h]
  .simp[h]
def pe:∀{a:List (κ×α)}{k j:κ}{v:α},zP (a++[(k,v)]) j=(zP a j).or (if k=j then some v else none)
 |[],k,j,v=>by rw[a05,yz,C_];rfl
 | (i,u)::a,k,j,v=>by
  rw[List.cons_append,yz,yz,pe];by_cases h:i=j
  .rw[if_pos h,if_pos h];rfl
  .rw[if_neg h,if_neg h]
def fb:∀{a:List (κ×α)}{k j:κ}{v:α},zP (a.map λc=>if c.1=k then(c.1,v)else c) j=if k=j then(zP a j).map (λ_=>v)else zP a j
 |[],k,j,v=>by split<;>rfl
 | (i,u)::a,k,j,v=>by
  rw[T2];by_cases h:i=k
  .subst h;rw[if_pos rfl,yz,yz,fb];by_cases h:i=j
   .rw[if_pos h,if_pos h,if_pos h];rfl
   .rw[if_neg h,if_neg h,if_neg h,if_neg h]
  .rw[if_neg (show ¬((i,u):κ×α).1=k from h),yz,yz,fb];by_cases b:i=j
   .rw[if_pos b,if_pos b,if_neg (λz=>h (b.trans z.symm))]
   .rw[if_neg b,if_neg b]
def w8{a:List (κ×α)}{k j:κ}{v:α}:zP (dput a k v) j=if k=j then some v else zP a j:=by
 unfold dput;rw[w6];split
 .rename_i h;rw[fb];split
  .rename_i e;subst e;obtain⟨x,b⟩:=a0I.mp h;rw[b];rfl
  .rfl
 .rename_i h;rw[pe];by_cases e:k=j
  .subst e;have:zP a k=none:=by cases q:zP a k with|none=>rfl|some x=>rw[q]at h;exact absurd rfl h
   rw[this,if_pos rfl];rfl
  .rw[if_neg e,if_neg e];cases zP a j<;>rfl
def VJ{a:List (κ×α)}{k:κ}{v:α}:(dput a k v).map (·.1)=if(zP a k).isSome=true then a.map (·.1)else a.map (·.1)++[k]:=by
 unfold dput;rw[w6];split
 .rw[a0U];refine a1r λb _=>?_;show(if b.1=k then(b.1,v)else b).1=b.1;split<;>rfl
 .rw[a0m];rfl
def JZ:∀{a:List (κ×α)}{k:κ}{v:α},zP a k=some v->(k,v)∈a
 |[],_,_,e=>by cases e
 | (j,u)::a,k,v,e=>by
  rw[yz]at e;split at e
  .rename_i h;subst h;cases e;exact S4
  .exact S6 _ (JZ e)
def Dc{a:List (κ×α)}{k:κ}:(zP a k).isSome=true↔k∈a.map (·.1):=by
 rw[<- w6,List.any_eq_true];constructor
 .rintro ⟨b,h,e⟩;exact a0P.mpr ⟨b,h,a0G e⟩
 .intro h;obtain⟨b,h,e⟩:=a0P.mp h;exact⟨b,h,T5 e⟩
def dm{a:List (κ×α)}{k:κ}{v:α}(h:(a.map (·.1)).Nodup):((dput a k v).map (·.1)).Nodup:=by
 rw[VJ];split
 .exact h
 .rename_i n;refine a1E.mpr ⟨h,by simp,λx c y b z=>?_⟩;obtain rfl:y=k:=by simpa using b
  subst z;exact n (Dc.mpr c)
end
end L2
namespace K51
open PySem L2
noncomputable section NCS
def top(i:Nat):Stmt:=PySem.Challenge.pw_fleetpath_k51_sheet.main.body.getD i (.Pass ⟨0,0,0,0⟩)
abbrev YE:Stmt:=top 58
abbrev aC:Stmt:=top 59
abbrev Vg:Stmt:=top 60
abbrev WT:Stmt:=top 61
abbrev YF:Stmt:=top 62
abbrev WU:Stmt:=top 63
abbrev Vh:Stmt:=top 64
abbrev QX:Stmt:=top 66
abbrev aE:Stmt:=top 67
abbrev ZG:Stmt:=inClass (top 5) 0
abbrev QY:Stmt:=top 16
abbrev ZH:Stmt:=inClass (top 3) 0
abbrev ZI:Stmt:=top 13
abbrev QZ:Stmt:=inClass (top 6) 0
abbrev jM:Stmt:=top 15
abbrev ZJ:Stmt:=inClass (top 7) 0
abbrev YG:Stmt:=top 37
abbrev ZK:Stmt:=inClass (top 42) 2
abbrev k8:Stmt:=inClass (top 4) 0
abbrev k9:Stmt:=top 14
abbrev vX:Stmt:=inClass (top 25) 0
abbrev Q1:Stmt:=inClass (top 8) 0
abbrev ZL:Stmt:=inClass (top 26) 0
abbrev Q2:Stmt:=top 27
abbrev k_:Stmt:=top 28
abbrev Q3:Stmt:=inClass (top 29) 0
abbrev Vi:Stmt:=top 65
abbrev aF:Stmt:=top 70
abbrev YH:Stmt:=inClass (top 9) 0
abbrev Q4:Stmt:=inClass (top 29) 2
abbrev YI:Stmt:=top 30
abbrev GR:Stmt:=top 32
abbrev fc:Stmt:=top 33
abbrev vY:Stmt:=inClass (top 44) 0
abbrev ZM:Stmt:=top 45
abbrev YJ:Stmt:=inClass (top 42) 1
abbrev YK:Stmt:=inClass (top 29) 1
abbrev Vj:Stmt:=top 46
abbrev Vk:Stmt:=top 47
abbrev YL:Stmt:=top 48
abbrev WV:Stmt:=top 55
abbrev mV:Stmt:=top 56
abbrev Vl:Stmt:=top 71
abbrev ZN:Stmt:=top 68
abbrev Q5:Stmt:=top 69
abbrev ZO:Stmt:=top 38
abbrev Q6:Stmt:=top 39
abbrev ZP:Stmt:=top 40
abbrev Q7:Stmt:=inClass (top 42) 0
abbrev Vm:Stmt:=top 72
abbrev GS:Stmt:=top 73
def scB(N P:Sn)(a:Scope):Bool:=(match a.kind with | .function=>true|_=>false)&&(!a.isCoroutine&&(!a.isGenerator&&(decide N.Nodup&&(decide (N.take P.length=P)&&(P.all (λx=>match a.names.lookup x with|some .local=>true|some .cell=>true|_=>false)&&a.names.all λy=>match y.2 with | .free=>false|_=>true)))))
def kX(h:scB N P sc=true):zr N P sc:=by
 unfold scB at h;simp only[Bool.and_eq_true,decide_eq_true_eq,List.all_eq_true]at h;obtain⟨f,g,i,l,c,d,b⟩:=h;refine⟨?_,by simpa using g,by simpa using i,l,c,λx j=>?_,λy a e=>?_⟩
 .revert f;cases sc.kind<;>simp
 .have:=d x j;split at this<;>simp_all
 .have:=b y a;rw[e]at this;cases this
def cf:zr ["_law_script","_law_k"] ["_law_script","_law_k"] (zj YE):=kX (by decide +kernel)
def sA:zr ["_law_script","_law_k","_law_prime"] ["_law_script","_law_k","_law_prime"] (zj aC):=kX (by decide +kernel)
def yA:zr ["_law_script","_law_at","_law_many","_law_some","_law_cell","_law_signs","_law_way","_law_names_here","_law_k","_law_row_here","_law_spot"] ["_law_script","_law_at","_law_many"] (zj Vg):=kX (by decide +kernel)
def jC:zr ["_law_script","_law_at","_law_names_here","_law_many","_law_far","_law_ways_here","_law_k","_law_cell"] ["_law_script","_law_at","_law_names_here"] (zj WT):=kX (by decide +kernel)
def yd:zr ["_law_names_here","_law_ways_here","_law_found","_law_name","_law_one","_law_other","_law_minutes","_law_mid","_law_by"] ["_law_names_here","_law_ways_here"] (zj YF):=kX (by decide +kernel)
def yE:zr ["_law_script","_law_at","_law_name","_law_places","_law_lengths_here","_law_ahead","_law_first","_law_second","_law_third","_law_origin","_law_goal","_law_more","_law_took","_law_start"] ["_law_script","_law_at","_law_name","_law_places","_law_lengths_here","_law_ahead"] (zj WU):=kX (by decide +kernel)
def kN:zr ["_law_script","_law_at","_law_names_here","_law_places","_law_lengths_here","_law_trips_here","_law_k","_law_ahead"] ["_law_script","_law_at","_law_names_here","_law_places","_law_lengths_here"] (zj Vh):=kX (by decide +kernel)
def VL:zr ["_law_one","_law_other","_law_lengths_here","_law_way"] ["_law_one","_law_other","_law_lengths_here"] (zj QX):=kX (by decide +kernel)
def J3:zr ["_law_trips_here","_law_lengths_here","_law_pick","_law_row_here","_law_trip_here"] ["_law_trips_here","_law_lengths_here","_law_pick"] (zj aE):=kX (by decide +kernel)
def aG:zr ["self","most"] ["self","most"] (zj ZG):=kX (by decide +kernel)
def fe:zr ["things","most"] ["things","most"] (zj QY):=kX (by decide +kernel)
def aH:zr ["self","name"] ["self","name"] (zj ZH):=kX (by decide +kernel)
def Q8:zr ["name","sign"] ["name"] (zj ZI):=kX (by decide +kernel)
def ff:zr ["self","name"] ["self","name"] (zj QZ):=kX (by decide +kernel)
def Vn:zr ["name","had"] ["name","had"] (zj jM):=kX (by decide +kernel)
def aI:zr ["self","name"] ["self","name"] (zj ZJ):=kX (by decide +kernel)
def cg:zr ["name","places"] ["name","places"] (zj YG):=kX (by decide +kernel)
def aJ:zr ["self","origin","goal"] ["self","origin","goal"] (zj ZK):=kX (by decide +kernel)
def WX:zr ["self","value"] ["self","value"] (zj k8):=kX (by decide +kernel)
def WY:zr ["value","least"] ["value","least"] (zj k9):=kX (by decide +kernel)
def Uc:zr ["self","name"] ["self","name"] (zj vX):=kX (by decide +kernel)
def fg:zr ["self","origin","goal"] ["self","origin","goal"] (zj Q1):=kX (by decide +kernel)
def aL:zr ["self","name"] ["self","name"] (zj ZL):=kX (by decide +kernel)
def VM:zr ["roads","trip","had","length"] ["roads","trip","had"] (zj Q2):=kX (by decide +kernel)
def WZ:zr ["trip"] ["trip"] (zj k_):=kX (by decide +kernel)
def VN:zr ["self","roads","trips","trip"] ["self","roads","trips"] (zj Q3):=kX (by decide +kernel)
def yY:zr ["_law_row_here","_law_home","_law_lengths_here","_law_rows","_law_place","_law_minute","_law_trip_here","_law_least"] ["_law_row_here","_law_home","_law_lengths_here"] (zj Vi):=kX (by decide +kernel)
def W0:zr ["_law_home","_law_row_here","_law_by","_law_lengths_here","_law_name","_law_k"] ["_law_home","_law_row_here","_law_by","_law_lengths_here"] (zj aF):=kX (by decide +kernel)
def cj:zr ["self","name"] ["self","name"] (zj YH):=kX (by decide +kernel)
def fh:zr ["self","name"] ["self","name"] (zj Q4):=kX (by decide +kernel)
def Ki:zr ["table","names","name"] ["table","names"] (zj YI):=kX (by decide +kernel)
def pf:zr ["table","one","other","ahead","behind","length"] ["table","one","other"] (zj GR):=kX (by decide +kernel)
def ip:zr ["table","one","other","minutes"] ["table","one","other"] (zj fc):=kX (by decide +kernel)
def Ud:zr ["self","first","second"] ["self","first","second"] (zj vY):=kX (by decide +kernel)
def vZ:zr ["table","names","one","other"] ["table","names"] (zj ZM):=kX (by decide +kernel)
def ck:zr ["self"] ["self"] (zj YJ):=kX (by decide +kernel)
def cn:zr ["self"] ["self"] (zj YK):=kX (by decide +kernel)
def iq:zr ["table","home","names"] ["table","home","names"] (zj Vj):=kX (by decide +kernel)
def ir:zr ["roads","origin","goal"] ["roads","origin","goal"] (zj Vk):=kX (by decide +kernel)
def cq:zr ["table","home","names"] ["table","home","names"] (zj YL):=kX (by decide +kernel)
def qy:zr ["table","home","names","minute","place","parts","name","trip","arrival"] ["table","home","names"] (zj WV):=kX (by decide +kernel)
def Dd:zr ["table","home","names"] ["table","home","names"] (zj mV):=kX (by decide +kernel)
def kO:zr ["_law_table","_law_home","_law_row_here","_law_found","e","_law_kinds"] ["_law_table","_law_home","_law_row_here"] (zj Vl):=kX (by decide +kernel)
def Q9:zr ["_law_names_here","_law_k"] ["_law_names_here"] (zj ZN):=kX (by decide +kernel)
def VO:zr ["_law_row_here","_law_names_here","_law_way","_law_cell","_law_at"] ["_law_row_here","_law_names_here","_law_way","_law_cell"] (zj Q5):=kX (by decide +kernel)
def v5:zr ["places","had","name"] ["places"] (zj ZO):=kX (by decide +kernel)
def vI:zr ["places","ways","origin","goal","minutes"] ["places","ways"] (zj Q6):=kX (by decide +kernel)
def yf:zr ["origin","ways","heights","changed","start","goal","minutes","height"] ["origin","ways"] (zj ZP):=kX (by decide +kernel)
def fi:zr ["self","places","ways"] ["self","places","ways"] (zj Q7):=kX (by decide +kernel)
def Xl:zr ["_law_found","_law_due_here","_law_part"] ["_law_found","_law_due_here"] (zj Vm):=kX (by decide +kernel)
def jN:zr ["_law_script","_law_places","_law_ways_here","_law_lengths_here","_law_many","_law_names_here","_law_trips_here","_law_by","_law_trip_here","_law_home","_law_row_here","_law_way","_law_table","_law_due_here","_law_handed","_law_found","_law_other"] ["_law_script"] (zj GS):=kX (by decide +kernel)
abbrev NsN(K:SU)(x:Str):Prop:=W.nsIn K mainGlobals x=some none
abbrev NsR(K:SU)(x:Str)(c:Addr):Prop:=W.nsIn K mainGlobals x=some (some (.ref c))
abbrev EK(K:SU)(x y:Addr):Prop:=W.kitOne K (.ref x) (.ref y)=some true
abbrev qX(K:SU)(x y:Addr):Prop:=W.kitOne K (.ref x) (.ref y)=some false
def ev(i:Nat)(d:X.N[i]?=some x:=by rfl)(c:Vis X.env.scope x:=by first|exact Or.inl rfl|exact Or.inr (Or.inl rfl)|exact Or.inr (Or.inr rfl))(b:(x==("__debug__":Str))=false:=by decide)(a:(x==("__classdict__":Str))=false:=by decide):EM X C S true (.Name x pos) (zc i):=Lh (pv i d c b a)
def ei{j}:EM X C S false (.Constant (.int i) j pos) (mC (.i i)):=z7 Ii
def rm(a:jJ k A)(h:j<=k:=by decide):jJ j A:=a.mono h
def MD{K:SU}{C f:Addr}{nm q:Str}{N:Addr}{bs b:Sv}{p:Sn}{sub:Sv}{d:Bool}{a:Option Bool}{dd:Te}{j g l c m:Option Value}(h:W.findIn K (.ref C) "__init__"=some (some (.ref f)))(i:K.lookup C=some (excClassObj nm q C N bs b true p sub d a dd j g l c m "ValueError.__new__"))(n:gQ K b=true)(o:W.typeIn K (.ref f)=some (.type "function"))(e:W.keepIn K (.ref C)=true):XMk K C f:=⟨⟨_,_,_,_,_,_,_,_,_,_,_,_,_,_,_,i,n⟩,h,o,e⟩
abbrev fnT(st:Tf)(sh q:Str)(kV dc pm:Value)(an:Te)(cd ct:Value):FuncData:=W.fnOf sh q (U6 st) (Zw st) (zj st) .none kV dc pm an cd ct
abbrev DfN(K:SU)(x:Str)(st:Tf)(f:Addr)(fd:SK):Prop:=W.nsIn K mainGlobals x=some (some (.ref f))/\Fun K x x st f fd
structure Def(K:SU)(mg:Sl)(x:Str)(st:Tf)(ps:Sn)(f:Addr)(fd:SK):Prop where
 g:mg x=some (.ref f)
 F:Fun K x x st f fd
 b:Binds K fd ps []
def Def.k(D:Def K mg x st ps f fd):W.keepIn K (.ref f)=true:=D.F.kp
abbrev BN(x q:Str)(st:Tf)(ps:Sn):Prop:=∀(kV dc pm:Value)(an:Te)(cd ct:Value)(us:Sv),us.length=ps.length->bindArgs (fnT st x q kV dc pm an cd ct) ⟨us,[]⟩=pure (ps.zip us)
def yB(X:K.In h)(G:h.Ns mainGlobals mg)(D:DfN K x st f fd)(b:BN x x st ps):Def K mg x st ps f fd:=⟨a0C X G D.1,D.2,D.2.binds b⟩
def fz{P:Tx}:∀c∈([]:List Nat),P c:=λ_ h=>nomatch h
def fa{P:Tx}{a:Nat}{l:So}(h:P a)(t:∀c∈l,P c):∀c∈a::l,P c:=λc b=>(a0f.mp b).elim (λe=>e▸h) (t c)
def al{X:Cx}{W:RC}{fr:Bool}{ws:Su}{b:Str}{c:Nat}{f:SD}(h:HK X.prog X.w X.K X.mg X.base X.A b (W.cls c) (lsp W fr (true::ws) f)):∀K a,NQ W fr ws [(c,f)] K a->HK X.prog X.w X.K X.mg X.base X.A b K a:=λK a ⟨q,e,g,d⟩=>by cases a0j.mp e;subst g d;exact h
def ec{X:Cx}{C:LC}{S:So}{k j:Nat}{f:Addr}{d:SK}{c:Sn}{fr:Bool}{ws:Su}{g:SD}{x:Str}{st:Tf}{e:Sy}{es:Sw}{ms:MA}{p a:Pos}(F:qd X.prog X.w X.K X.mg X.base (CXe X.prog X.w) k f d c (lsp C.W fr ws g))(n:jJ j X.A)(D:Def X.K X.mg x st c f d)(m:Passes (CXe X.prog X.w) X C.E)(i:AM X C S ws (e::es) ms)(l:k<=j:=by decide)(h:Gl X x:=by rfl)
  (b:(x==("__debug__":Str))=false:=by decide) (he:starEach (e::es) X.env=(false,eval e X.env)::starEach es X.env:=by rfl) (hpl:(backTo a (starEach es X.env)).any (·.1)=false:=by rfl):EM X C S false (.Call (.Name x p) (e::es) [] a) (zh g ms):=mD F (n.mono l) h D.g D.k D.b m i b he hpl
def gn(i:Nat)(b:X.N.Nodup)(a:X.N[i]?=some x:=by rfl)(c:Loc X.env.scope x:=by exact .inl rfl)(hf:X.fn x=true\/X.env.scope.names.lookup x=some .local:=by first|exact .inl rfl|exact .inr rfl|assumption):GM X C S (S.set i 0) (.Name x pos) (gNm i):=QT b a c hf
def se(i:Nat)(d:X.N.Nodup)(h:EM X C S false e m)(c:X.N[i]?=some x:=by rfl)(b:Loc X.env.scope x:=by exact .inl rfl)(a:swapsWith e (some (.Name x pos')) pos.line X.env=pure false:=by rfl)(hf:X.fn x=true\/X.env.scope.names.lookup x=some .local:=by first|exact .inl rfl|exact .inr rfl|assumption):SM X C S (S.set i 0) Sb Sc (.Assign [.Name x pos'] e pos) (yX i m):=uX d c b h a hf
def ix(c:jJ k X.A)(e:EM X C S w1 a m1)(f:EM X C S w2 b m2)(d:WD b:=by intro _ _;rfl):EM X C S false (.Subscript a b pos) (mOp pIx m1 m2):=Cj (qu c) e f d
def hse(i:Nat)(d:X.N.Nodup)(h:HE X W E e m)(c:X.N[i]?=some x:=by rfl)(b:Loc X.env.scope x:=by exact .inl rfl)(a:swapsWith e (some (.Name x pos')) pos.line X.env=pure false:=by rfl)(hf:X.fn x=true\/X.env.scope.names.lookup x=some .local:=by first|exact .inl rfl|exact .inr rfl|assumption):HS X W E (.Assign [.Name x pos'] e pos) (vz i m):=Mh d c b h a hf
def hp(h:EM X ⟨W,E,false⟩ (List.replicate 30 0) false e m):HE X W E e (hP bs m):=RY bs h (a1o.mpr λ_ h=>by rw[a2O h];rfl)
def hf(h:FM X ⟨W,E,false⟩ (List.replicate 30 0) e m):HE X W E e (hF bs m):=RZ bs h (a1o.mpr λ_ h=>by rw[a2O h];rfl)
def bn1(h:∀kV d c a cd ct b,bindArgs (fnT st x q kV d c a cd ct) ⟨[b],[]⟩=pure (ps.zip [b]):=by intros;rfl)(hp:ps.length=1:=by rfl):BN x q st ps:=λkV d c a cd ct e f=>OW (P:=λe=>bindArgs (fnT st x q kV d c a cd ct) ⟨e,[]⟩=pure (ps.zip e)) (f.trans hp) λb=>h kV d c a cd ct b
def bn2(h:∀kV e c a cd ct b d,bindArgs (fnT st x q kV e c a cd ct) ⟨[b,d],[]⟩=pure (ps.zip [b,d]):=by intros;rfl)(hp:ps.length=2:=by rfl):BN x q st ps:=λkV e c a cd ct f g=>OX (P:=λf=>bindArgs (fnT st x q kV e c a cd ct) ⟨f,[]⟩=pure (ps.zip f)) (g.trans hp) λb d=>h kV e c a cd ct b d
def bn3(h:∀kV f c a cd ct b d e,bindArgs (fnT st x q kV f c a cd ct) ⟨[b,d,e],[]⟩=pure (ps.zip [b,d,e]):=by intros;rfl)(hp:ps.length=3:=by rfl):BN x q st ps:=λkV f c a cd ct g i=>OY (P:=λg=>bindArgs (fnT st x q kV f c a cd ct) ⟨g,[]⟩=pure (ps.zip g)) (i.trans hp) λb d e=>h kV f c a cd ct b d e
def bn4(h:∀kV g d b cd ct c e f a,bindArgs (fnT st x q kV g d b cd ct) ⟨[c,e,f,a],[]⟩=pure (ps.zip [c,e,f,a]):=by intros;rfl)(hp:ps.length=4:=by rfl):BN x q st ps:=λkV g d b cd ct i j=>OZ (P:=λi=>bindArgs (fnT st x q kV g d b cd ct) ⟨i,[]⟩=pure (ps.zip i)) (j.trans hp) λc e f a=>h kV g d b cd ct c e f a
def bn5(h:∀kV i e b cd ct d f c a g,bindArgs (fnT st x q kV i e b cd ct) ⟨[d,f,c,a,g],[]⟩=pure (ps.zip [d,f,c,a,g]):=by intros;rfl)(hp:ps.length=5:=by rfl):BN x q st ps:=λkV i e b cd ct j l=>O0 (P:=λj=>bindArgs (fnT st x q kV i e b cd ct) ⟨j,[]⟩=pure (ps.zip j)) (l.trans hp) λd f c a g=>h kV i e b cd ct d f c a g
def bn6(h:∀kV j f b cd ct e g c a i d,bindArgs (fnT st x q kV j f b cd ct) ⟨[e,g,c,a,i,d],[]⟩=pure (ps.zip [e,g,c,a,i,d]):=by intros;rfl)(hp:ps.length=6:=by rfl):BN x q st ps:=λkV j f b cd ct l m=>O9 (P:=λl=>bindArgs (fnT st x q kV j f b cd ct) ⟨l,[]⟩=pure (ps.zip l)) (m.trans hp) λe g c a i d=>h kV j f b cd ct e g c a i d
structure Adr where
 (ym qa yo qo jT zT yp z_ yD qb Y9 Y_ zz zR zO qB km qA kl jD yM i6 Z8 y_ Z9 qR Jr z4 Z_ yh zu vn zV wO Js Ya jb zG Jt kj y9 Qa zo qC sJ Y6 wQ yy yx y8 yR qD yi kn jc bC yN ja qS jH yO qr yg Ny Hv Hw:Addr)
 (Wb i7 bD dJ Wc dM bE XR bF Yb XS Yc Ky Ju Zp Yd Wd Ye vo Qp wR Jv Yf XT Qq Jw bG i8 Qb Jx We Nz p7 wU Kz Qc Qd bH bI Wf dN Ba bJ KA XU KD XW KG Jy bK NB:SK)
 (Hx i9 cP i_ NC DT ND Hy DU Hz f_ nG PF NF NG HB PH:Tok)
abbrev Rc(K:SU)(mg:Sl)(a:Adr):Prop:=
 (mg "LIMIT"=some (.int 1000000000 a.Hx))/\
 (mg "NAME_SIGNS"=some (.str "abcdefghijklmnopqrstuvwxyz0123456789" a.i9))/\
 (mg "LONGEST_NAME"=some (.int 12 a.cP))/\
 (mg "MOST_TRIPS"=some (.int 40 a.i_))/\
 (mg "NAME"=some (.int 0 a.NC))/\
 (mg "ORIGIN"=some (.int 1 a.DT))/\
 (mg "GOAL"=some (.int 2 a.ND))/\
 (mg "START"=some (.int 3 a.Hy))
abbrev Rf(K:SU)(mg:Sl)(a:Adr):Prop:=
 (mg "FINISH"=some (.int 4 a.DU))/\
 (mg "SEATS"=some (.int 5 a.Hz))/\
 (mg "MOST_PLACES"=some (.int 12 a.f_))/\
 (mg "MOST_WAYS"=some (.int 60 a.nG))/\
 (mg "WAY"=some (.str "way" a.PF))/\
 (mg "TRIP"=some (.str "trip" a.NF))/\
 (mg "WAIT"=some (.str "wait" a.NG))/\
 (mg "BEGIN"=some (.int 1 a.HB))
abbrev Txt2(K:SU)(mg:Sl)(a:Adr):Prop:=
 (mg "END"=some (.int 2 a.PH))/\
 (mg "FleetError"=some (.ref a.ym))/\
 (mg "BadName"=some (.ref a.qa))/\
 (mg "BadNumber"=some (.ref a.yo))/\
 (mg "TooMany"=some (.ref a.qo))/\
 (mg "Twice"=some (.ref a.jT))/\
 (mg "NoPlace"=some (.ref a.zT))/\
 (mg "NoWay"=some (.ref a.yp))
abbrev Rg(K:SU)(mg:Sl)(a:Adr):Prop:=
 (mg "NoTrip"=some (.ref a.z_))/\
 (mg "Backward"=some (.ref a.yD))/\
 (mg "TooFast"=some (.ref a.qb))/\
 (mg "Table"=some (.ref a.Y9))/\
 (mg "Roads"=some (.ref a.Y_))/\
 (mg "Unlinked"=some (.ref a.zz))/\
 (mg "bool"=none)/\
 (mg "dict"=none)
abbrev Rh(K:SU)(mg:Sl)(a:Adr):Prop:=
 (mg "isinstance"=none)/\
 (mg "len"=none)/\
 (mg "list"=none)/\
 (mg "max"=none)/\
 (mg "min"=none)/\
 (mg "range"=none)/\
 (mg "sorted"=none)/\
 (mg "str"=none)
abbrev Ri(K:SU)(mg:Sl)(a:Adr):Prop:=
 (mg "tuple"=none)/\
 (mg "zip"=none)/\
 (Def K mg "_law_cell_at" YE ["_law_script","_law_k"] a.zR a.Wb)/\
 (Def K mg "_law_mix" aC ["_law_script","_law_k","_law_prime"] a.zO a.i7)/\
 (Def K mg "_law_names" Vg ["_law_script","_law_at","_law_many"] a.qB a.bD)/\
 (Def K mg "_law_ways" WT ["_law_script","_law_at","_law_names_here"] a.km a.dJ)/\
 (Def K mg "_law_lengths" YF ["_law_names_here","_law_ways_here"] a.qA a.Wc)/\
 (Def K mg "_law_trip" WU ["_law_script","_law_at","_law_name","_law_places","_law_lengths_here","_law_ahead"] a.kl a.dM)
abbrev Rj(K:SU)(mg:Sl)(a:Adr):Prop:=
 (Def K mg "_law_trips" Vh ["_law_script","_law_at","_law_names_here","_law_places","_law_lengths_here"] a.jD a.bE)/\
 (Def K mg "_law_linked" QX ["_law_one","_law_other","_law_lengths_here"] a.yM a.XR)/\
 (Def K mg "_law_row" aE ["_law_trips_here","_law_lengths_here","_law_pick"] a.i6 a.bF)/\
 (Fun K "__init__" "TooMany.__init__" ZG a.Z8 a.Yb)/\
 (Binds K a.Yb ["self","most"] [])/\
 (Def K mg "check_most" QY ["things","most"] a.y_ a.XS)/\
 (Fun K "__init__" "BadName.__init__" ZH a.Z9 a.Yc)/\
 (Binds K a.Yc ["self","name"] [])
abbrev Rk(K:SU)(mg:Sl)(a:Adr):Prop:=
 (Def K mg "checked_name" ZI ["name"] a.qR a.Ky)/\
 (Fun K "__init__" "Twice.__init__" QZ a.Jr a.Ju)/\
 (Binds K a.Ju ["self","name"] [])/\
 (Def K mg "checked_new_name" jM ["name","had"] a.z4 a.Zp)/\
 (Fun K "__init__" "NoPlace.__init__" ZJ a.Z_ a.Yd)/\
 (Binds K a.Yd ["self","name"] [])/\
 (Def K mg "check_place" YG ["name","places"] a.yh a.Wd)/\
 (Fun K "length" "Roads.length" ZK a.zu a.Ye)
abbrev Rl(K:SU)(mg:Sl)(a:Adr):Prop:=
 (Binds K a.Ye ["self","origin","goal"] [])/\
 (Fun K "__init__" "BadNumber.__init__" k8 a.vn a.vo)/\
 (Binds K a.vo ["self","value"] [])/\
 (Def K mg "checked_number" k9 ["value","least"] a.zV a.Qp)/\
 (Fun K "__init__" "Backward.__init__" vX a.wO a.wR)/\
 (Binds K a.wR ["self","name"] [])/\
 (Fun K "__init__" "NoWay.__init__" Q1 a.Js a.Jv)/\
 (Binds K a.Jv ["self","origin","goal"] [])
abbrev Rm(K:SU)(mg:Sl)(a:Adr):Prop:=
 (Fun K "__init__" "TooFast.__init__" ZL a.Ya a.Yf)/\
 (Binds K a.Yf ["self","name"] [])/\
 (Def K mg "check_trip" Q2 ["roads","trip","had"] a.jb a.XT)/\
 (Def K mg "place_in_order" k_ ["trip"] a.zG a.Qq)/\
 (Fun K "__init__" "Table.__init__" Q3 a.Jt a.Jw)/\
 (Binds K a.Jw ["self","roads","trips"] [])/\
 (Def K mg "_law_sheet" Vi ["_law_row_here","_law_home","_law_lengths_here"] a.kj a.bG)/\
 (Def K mg "_law_due" aF ["_law_home","_law_row_here","_law_by","_law_lengths_here"] a.y9 a.i8)
abbrev MF(K:SU)(mg:Sl)(a:Adr):Prop:=
 (Fun K "__init__" "NoTrip.__init__" YH a.Qa a.Qb)/\
 (Binds K a.Qb ["self","name"] [])/\
 (Fun K "trip" "Table.trip" Q4 a.zo a.Jx)/\
 (Binds K a.Jx ["self","name"] [])/\
 (Def K mg "check_trips" YI ["table","names"] a.qC a.We)/\
 (Def K mg "gap" GR ["table","one","other"] a.sJ a.Nz)/\
 (Def K mg "linked" fc ["table","one","other"] a.Y6 a.p7)/\
 (Fun K "__init__" "Unlinked.__init__" vY a.wQ a.wU)
abbrev MH(K:SU)(mg:Sl)(a:Adr):Prop:=
 (Binds K a.wU ["self","first","second"] [])/\
 (Def K mg "check_linked" ZM ["table","names"] a.yy a.Kz)/\
 (Fun K "names" "Roads.names" YJ a.yx a.Qc)/\
 (Binds K a.Qc ["self"] [])/\
 (Fun K "names" "Table.names" YK a.y8 a.Qd)/\
 (Binds K a.Qd ["self"] [])/\
 (Def K mg "check_row" Vj ["table","home","names"] a.yR a.bH)/\
 (Def K mg "check_way" Vk ["roads","origin","goal"] a.qD a.bI)
abbrev MJ(K:SU)(mg:Sl)(a:Adr):Prop:=
 (Def K mg "check_block" YL ["table","home","names"] a.yi a.Wf)/\
 (Def K mg "parts_of" WV ["table","home","names"] a.kn a.dN)/\
 (Def K mg "sheet" mV ["table","home","names"] a.jc a.Ba)/\
 (Def K mg "_law_asked" Vl ["_law_table","_law_home","_law_row_here"] a.bC a.bJ)/\
 (Def K mg "_law_stranger" ZN ["_law_names_here"] a.yN a.KA)/\
 (Def K mg "_law_spoilt" Q5 ["_law_row_here","_law_names_here","_law_way","_law_cell"] a.ja a.XU)/\
 (Def K mg "check_places" ZO ["places"] a.qS a.KD)/\
 (Def K mg "check_ways" Q6 ["places","ways"] a.jH a.XW)
abbrev MK(K:SU)(mg:Sl)(a:Adr):Prop:=
 (Def K mg "heights_from" ZP ["origin","ways"] a.yO a.KG)/\
 (Fun K "__init__" "Roads.__init__" Q7 a.qr a.Jy)/\
 (Binds K a.Jy ["self","places","ways"] [])/\
 (Def K mg "_law_right" Vm ["_law_found","_law_due_here"] a.yg a.bK)/\
 (Def K mg "law" GS ["_law_script"] a.Ny a.NB)/\
 (QI K a.qa)/\
 (XIs K a.qa)/\
 (XMk K a.qa a.Z9)
abbrev ML(K:SU)(mg:Sl)(a:Adr):Prop:=
 (Catch K a.qa a.ym true)/\
 (W.takerIn K a.qa "name"=some none)/\
 (W.findIn K (.ref a.qa) "name"=some none)/\
 (QI K a.yo)/\
 (XIs K a.yo)/\
 (XMk K a.yo a.vn)/\
 (Catch K a.yo a.ym true)/\
 (W.takerIn K a.yo "value"=some none)
abbrev MM(K:SU)(mg:Sl)(a:Adr):Prop:=
 (QI K a.qo)/\
 (XIs K a.qo)/\
 (XMk K a.qo a.Z8)/\
 (Catch K a.qo a.ym true)/\
 (W.takerIn K a.qo "most"=some none)/\
 (QI K a.jT)/\
 (XIs K a.jT)/\
 (XMk K a.jT a.Jr)
abbrev MN(K:SU)(mg:Sl)(a:Adr):Prop:=
 (Catch K a.jT a.ym true)/\
 (W.takerIn K a.jT "name"=some none)/\
 (W.findIn K (.ref a.jT) "name"=some none)/\
 (QI K a.zT)/\
 (XIs K a.zT)/\
 (XMk K a.zT a.Z_)/\
 (Catch K a.zT a.ym true)/\
 (W.takerIn K a.zT "name"=some none)
abbrev MP(K:SU)(mg:Sl)(a:Adr):Prop:=
 (W.findIn K (.ref a.zT) "name"=some none)/\
 (QI K a.yp)/\
 (XIs K a.yp)/\
 (XMk K a.yp a.Js)/\
 (Catch K a.yp a.ym true)/\
 (W.takerIn K a.yp "origin"=some none)/\
 (W.findIn K (.ref a.yp) "origin"=some none)/\
 (W.takerIn K a.yp "goal"=some none)
abbrev MQ(K:SU)(mg:Sl)(a:Adr):Prop:=
 (W.findIn K (.ref a.yp) "goal"=some none)/\
 (QI K a.z_)/\
 (XIs K a.z_)/\
 (XMk K a.z_ a.Qa)/\
 (Catch K a.z_ a.ym true)/\
 (W.takerIn K a.z_ "name"=some none)/\
 (W.findIn K (.ref a.z_) "name"=some none)/\
 (QI K a.yD)
abbrev MR(K:SU)(mg:Sl)(a:Adr):Prop:=
 (XIs K a.yD)/\
 (XMk K a.yD a.wO)/\
 (Catch K a.yD a.ym true)/\
 (W.takerIn K a.yD "name"=some none)/\
 (W.findIn K (.ref a.yD) "name"=some none)/\
 (QI K a.qb)/\
 (XIs K a.qb)/\
 (XMk K a.qb a.Ya)
abbrev MU(K:SU)(mg:Sl)(a:Adr):Prop:=
 (Catch K a.qb a.ym true)/\
 (W.takerIn K a.qb "name"=some none)/\
 (W.findIn K (.ref a.qb) "name"=some none)/\
 (QI K a.zz)/\
 (XIs K a.zz)/\
 (XMk K a.zz a.wQ)/\
 (Catch K a.zz a.ym true)/\
 (W.takerIn K a.zz "first"=some none)
abbrev MV(K:SU)(mg:Sl)(a:Adr):Prop:=
 (W.findIn K (.ref a.zz) "first"=some none)/\
 (W.takerIn K a.zz "second"=some none)/\
 (W.findIn K (.ref a.zz) "second"=some none)/\
 (Cls K a.Y9)/\
 (vw K a.Y9 "by_name")/\
 (vw K a.Y9 "order")/\
 (vw K a.Y9 "roads")/\
 (Meth K a.Y9 "names" a.y8)
abbrev MW(K:SU)(mg:Sl)(a:Adr):Prop:=
 (Meth K a.Y9 "trip" a.zo)/\
 (Mk K a.Y9 a.Jt)/\
 (Cls K a.Y_)/\
 (vw K a.Y_ "lengths")/\
 (vw K a.Y_ "places")/\
 (vw K a.Y_ "ways")/\
 (Meth K a.Y_ "length" a.zu)/\
 (Meth K a.Y_ "names" a.yx)
abbrev MX(K:SU)(mg:Sl)(a:Adr):Prop:=
 (Mk K a.Y_ a.qr)/\
 (W.kitOne K (.type "list") (.type "list")=some true)/\
 (W.kitOne K (.type "bool") (.type "bool")=some true)/\
 (W.kitOne K (.type "int") (.type "bool")=some false)/\
 (W.kitOne K (.type "tuple") (.type "tuple")=some true)/\
 (qX K a.qa a.zT)/\
 (qX K a.yo a.zT)/\
 (qX K a.qo a.zT)
abbrev MY(K:SU)(mg:Sl)(a:Adr):Prop:=
 (qX K a.jT a.zT)/\
 (EK K a.zT a.zT)/\
 (qX K a.yp a.zT)/\
 (qX K a.z_ a.zT)/\
 (qX K a.yD a.zT)/\
 (qX K a.qb a.zT)/\
 (qX K a.zz a.zT)/\
 (qX K a.qa a.z_)
abbrev MZ(K:SU)(mg:Sl)(a:Adr):Prop:=
 (qX K a.yo a.z_)/\
 (qX K a.qo a.z_)/\
 (qX K a.jT a.z_)/\
 (qX K a.zT a.z_)/\
 (qX K a.yp a.z_)/\
 (EK K a.z_ a.z_)/\
 (qX K a.yD a.z_)/\
 (qX K a.qb a.z_)
abbrev M3(K:SU)(mg:Sl)(a:Adr):Prop:=
 (qX K a.zz a.z_)/\
 (qX K a.qa a.zz)/\
 (qX K a.yo a.zz)/\
 (qX K a.qo a.zz)/\
 (qX K a.jT a.zz)/\
 (qX K a.zT a.zz)/\
 (qX K a.yp a.zz)/\
 (qX K a.z_ a.zz)
abbrev M6(K:SU)(mg:Sl)(a:Adr):Prop:=
 (qX K a.yD a.zz)/\
 (qX K a.qb a.zz)/\
 (EK K a.zz a.zz)/\
 (qX K a.qa a.yp)/\
 (qX K a.yo a.yp)/\
 (qX K a.qo a.yp)/\
 (qX K a.jT a.yp)/\
 (qX K a.zT a.yp)
abbrev M7(K:SU)(mg:Sl)(a:Adr):Prop:=
 (EK K a.yp a.yp)/\
 (qX K a.z_ a.yp)/\
 (qX K a.yD a.yp)/\
 (qX K a.qb a.yp)/\
 (qX K a.zz a.yp)/\
 (a.bF.code=.ref a.Hv)
abbrev Txt(K:SU)(mg:Sl)(a:Adr):Prop:=Rc K mg a/\Rf K mg a/\Txt2 K mg a/\Rg K mg a/\Rh K mg a/\Ri K mg a/\Rj K mg a/\Rk K mg a/\Rl K mg a/\Rm K mg a/\MF K mg a/\MH K mg a/\MJ K mg a/\MK K mg a/\ML K mg a/\MM K mg a/\MN K mg a/\MP K mg a/\MQ K mg a/\MR K mg a/\MU K mg a/\MV K mg a/\MW K mg a/\MX K mg a/\MY K mg a/\MZ K mg a/\M3 K mg a/\M6 K mg a/\M7 K mg a
section
variable {K:SU}{mg:Sl}{a:Adr}(T:Txt K mg a)
include T
def Txt.cc0:Rc K mg a:=T.1
def Txt.mW:=T.cc0.1
def Txt.Q_:=T.cc0.2.1
def Txt.ZQ:=T.cc0.2.2.1
def Txt.Ja:=T.cc0.2.2.2.1
def Txt.Xm:=T.cc0.2.2.2.2.1
def Txt.w_:=T.cc0.2.2.2.2.2.1
def Txt.aM:=T.cc0.2.2.2.2.2.2.1
def Txt.ZR:=T.cc0.2.2.2.2.2.2.2
def Txt.cc1:Rf K mg a:=T.2.1
def Txt.vJ:=T.cc1.1
def Txt.mX:=T.cc1.2.1
def Txt.YM:=T.cc1.2.2.1
def Txt.Vo:=T.cc1.2.2.2.1
def Txt.De:=T.cc1.2.2.2.2.1
def Txt.x_:=T.cc1.2.2.2.2.2.1
def Txt.Aa:=T.cc1.2.2.2.2.2.2.1
def Txt.mY:=T.cc1.2.2.2.2.2.2.2
def Txt.cc2:Txt2 K mg a:=T.2.2.1
def Txt.GU:=T.cc2.1
def Txt.Jb:=T.cc2.2.1
def Txt.VP:=T.cc2.2.2.1
def Txt.Vp:=T.cc2.2.2.2.1
def Txt.aN:=T.cc2.2.2.2.2.1
def Txt.mZ:=T.cc2.2.2.2.2.2.1
def Txt.VQ:=T.cc2.2.2.2.2.2.2.1
def Txt.aO:=T.cc2.2.2.2.2.2.2.2
def Txt.cc3:Rg K mg a:=T.2.2.2.1
def Txt.UM:=T.cc3.1
def Txt.W2:=T.cc3.2.1
def Txt.aQ:=T.cc3.2.2.1
def Txt.m4:=T.cc3.2.2.2.1
def Txt.m7:=T.cc3.2.2.2.2.1
def Txt.J6:=T.cc3.2.2.2.2.2.1
def Txt.ph:=T.cc3.2.2.2.2.2.2.1
def Txt.Ab:=T.cc3.2.2.2.2.2.2.2
def Txt.cc4:Rh K mg a:=T.2.2.2.2.1
def Txt.yK:=T.cc4.1
def Txt.Yp:=T.cc4.2.1
def Txt.Qh:=T.cc4.2.2.1
def Txt.Df:=T.cc4.2.2.2.1
def Txt.sC:=T.cc4.2.2.2.2.1
def Txt.YN:=T.cc4.2.2.2.2.2.1
def Txt.UN:=T.cc4.2.2.2.2.2.2.1
def Txt.Dg:=T.cc4.2.2.2.2.2.2.2
def Txt.cc5:Ri K mg a:=T.2.2.2.2.2.1
def Txt.m8:=T.cc5.1
def Txt.GV:=T.cc5.2.1
def Txt.yw:=T.cc5.2.2.1
def Txt.yZ:=T.cc5.2.2.2.1
def Txt.qz:=T.cc5.2.2.2.2.1
def Txt.vP:=T.cc5.2.2.2.2.2.1
def Txt.jh:=T.cc5.2.2.2.2.2.2.1
def Txt.J7:=T.cc5.2.2.2.2.2.2.2
def Txt.cc6:Rj K mg a:=T.2.2.2.2.2.2.1
def Txt.ke:=T.cc6.1
def Txt.kQ:=T.cc6.2.1
def Txt.kR:=T.cc6.2.2.1
def Txt.cu:=T.cc6.2.2.2.1
def Txt.cy:=T.cc6.2.2.2.2.1
def Txt.jF:=T.cc6.2.2.2.2.2.1
def Txt.cz:=T.cc6.2.2.2.2.2.2.1
def Txt.Kj:=T.cc6.2.2.2.2.2.2.2
def Txt.cc7:Rk K mg a:=T.2.2.2.2.2.2.2.1
def Txt.kB:=T.cc7.1
def Txt.iu:=T.cc7.2.1
def Txt.iw:=T.cc7.2.2.1
def Txt.y3:=T.cc7.2.2.2.1
def Txt.cA:=T.cc7.2.2.2.2.1
def Txt.cB:=T.cc7.2.2.2.2.2.1
def Txt.y4:=T.cc7.2.2.2.2.2.2.1
def Txt.cC:=T.cc7.2.2.2.2.2.2.2
def Txt.cc8:Rl K mg a:=T.2.2.2.2.2.2.2.2.1
def Txt.qP:=T.cc8.1
def Txt.Ue:=T.cc8.2.1
def Txt.Ug:=T.cc8.2.2.1
def Txt.yF:=T.cc8.2.2.2.1
def Txt.aR:=T.cc8.2.2.2.2.1
def Txt.aS:=T.cc8.2.2.2.2.2.1
def Txt.iy:=T.cc8.2.2.2.2.2.2.1
def Txt.Xn:=T.cc8.2.2.2.2.2.2.2
def Txt.cc9:Rm K mg a:=T.2.2.2.2.2.2.2.2.2.1
def Txt.cD:=T.cc9.1
def Txt.cE:=T.cc9.2.1
def Txt.Za:=T.cc9.2.2.1
def Txt.qJ:=T.cc9.2.2.2.1
def Txt.iz:=T.cc9.2.2.2.2.1
def Txt.iA:=T.cc9.2.2.2.2.2.1
def Txt.kf:=T.cc9.2.2.2.2.2.2.1
def Txt.Jc:=T.cc9.2.2.2.2.2.2.2
def Txt.EL:MF K mg a:=T.2.2.2.2.2.2.2.2.2.2.1
def Txt.fj:=T.EL.1
def Txt.fk:=T.EL.2.1
def Txt.iB:=T.EL.2.2.1
def Txt.qq:=T.EL.2.2.2.1
def Txt.vL:=T.EL.2.2.2.2.1
def Txt.Dh:=T.EL.2.2.2.2.2.1
def Txt.UO:=T.EL.2.2.2.2.2.2.1
def Txt.aT:=T.EL.2.2.2.2.2.2.2
def Txt.EO:MH K mg a:=T.2.2.2.2.2.2.2.2.2.2.2.1
def Txt.aU:=T.EO.1
def Txt.kC:=T.EO.2.1
def Txt.fm:=T.EO.2.2.1
def Txt.fo:=T.EO.2.2.2.1
def Txt.fq:=T.EO.2.2.2.2.1
def Txt.ft:=T.EO.2.2.2.2.2.1
def Txt.YO:=T.EO.2.2.2.2.2.2.1
def Txt.v7:=T.EO.2.2.2.2.2.2.2
def Txt.ER:MJ K mg a:=T.2.2.2.2.2.2.2.2.2.2.2.2.1
def Txt.vM:=T.ER.1
def Txt.vQ:=T.ER.2.1
def Txt.YQ:=T.ER.2.2.1
def Txt.yG:=T.ER.2.2.2.1
def Txt.jq:=T.ER.2.2.2.2.1
def Txt.Zb:=T.ER.2.2.2.2.2.1
def Txt.kD:=T.ER.2.2.2.2.2.2.1
def Txt.Zc:=T.ER.2.2.2.2.2.2.2
def Txt.ES:MK K mg a:=T.2.2.2.2.2.2.2.2.2.2.2.2.2.1
def Txt.qQ:=T.ES.1
def Txt.iC:=T.ES.2.1
def Txt.iD:=T.ES.2.2.1
def Txt.kg:=T.ES.2.2.2.1
def Txt.Ac:=T.ES.2.2.2.2.1
def Txt.jO:=T.ES.2.2.2.2.2.1
def Txt.J8:=T.ES.2.2.2.2.2.2.1
def Txt.iE:=T.ES.2.2.2.2.2.2.2
def Txt.ET:ML K mg a:=T.2.2.2.2.2.2.2.2.2.2.2.2.2.2.1
def Txt.sD:=T.ET.1
def Txt.aV:=T.ET.2.1
def Txt.Jd:=T.ET.2.2.1
def Txt.kh:=T.ET.2.2.2.1
def Txt.Zd:=T.ET.2.2.2.2.1
def Txt.m9:=T.ET.2.2.2.2.2.1
def Txt.iF:=T.ET.2.2.2.2.2.2.1
def Txt.VR:=T.ET.2.2.2.2.2.2.2
def Txt.EU:MM K mg a:=T.2.2.2.2.2.2.2.2.2.2.2.2.2.2.2.1
def Txt.Yq:=T.EU.1
def Txt.J9:=T.EU.2.1
def Txt.Ad:=T.EU.2.2.1
def Txt.sE:=T.EU.2.2.2.1
def Txt.aW:=T.EU.2.2.2.2.1
def Txt.Je:=T.EU.2.2.2.2.2.1
def Txt.UP:=T.EU.2.2.2.2.2.2.1
def Txt.GW:=T.EU.2.2.2.2.2.2.2
def Txt.EV:MN K mg a:=T.2.2.2.2.2.2.2.2.2.2.2.2.2.2.2.2.1
def Txt.Di:=T.EV.1
def Txt.fu:=T.EV.2.1
def Txt.VS:=T.EV.2.2.1
def Txt.kT:=T.EV.2.2.2.1
def Txt.J_:=T.EV.2.2.2.2.1
def Txt.Ae:=T.EV.2.2.2.2.2.1
def Txt.sF:=T.EV.2.2.2.2.2.2.1
def Txt.aX:=T.EV.2.2.2.2.2.2.2
def Txt.EW:MP K mg a:=T.2.2.2.2.2.2.2.2.2.2.2.2.2.2.2.2.2.1
def Txt.Jf:=T.EW.1
def Txt.ZS:=T.EW.2.1
def Txt.UQ:=T.EW.2.2.1
def Txt.Af:=T.EW.2.2.2.1
def Txt.Dj:=T.EW.2.2.2.2.1
def Txt.aY:=T.EW.2.2.2.2.2.1
def Txt.aZ:=T.EW.2.2.2.2.2.2.1
def Txt.fB:=T.EW.2.2.2.2.2.2.2
def Txt.EX:MQ K mg a:=T.2.2.2.2.2.2.2.2.2.2.2.2.2.2.2.2.2.2.1
def Txt.fC:=T.EX.1
def Txt.Ze:=T.EX.2.1
def Txt.VT:=T.EX.2.2.1
def Txt.Dk:=T.EX.2.2.2.1
def Txt.Ag:=T.EX.2.2.2.2.1
def Txt.cF:=T.EX.2.2.2.2.2.1
def Txt.Kk:=T.EX.2.2.2.2.2.2.1
def Txt.jG:=T.EX.2.2.2.2.2.2.2
def Txt.EY:MR K mg a:=T.2.2.2.2.2.2.2.2.2.2.2.2.2.2.2.2.2.2.2.1
def Txt.YR:=T.EY.1
def Txt.sG:=T.EY.2.1
def Txt.m_:=T.EY.2.2.1
def Txt.Uh:=T.EY.2.2.2.1
def Txt.Qi:=T.EY.2.2.2.2.1
def Txt.kU:=T.EY.2.2.2.2.2.1
def Txt.Ka:=T.EY.2.2.2.2.2.2.1
def Txt.Ah:=T.EY.2.2.2.2.2.2.2
def Txt.EZ:MU K mg a:=T.2.2.2.2.2.2.2.2.2.2.2.2.2.2.2.2.2.2.2.2.1
def Txt.sH:=T.EZ.1
def Txt.a8:=T.EZ.2.1
def Txt.Jg:=T.EZ.2.2.1
def Txt.jj:=T.EZ.2.2.2.1
def Txt.YS:=T.EZ.2.2.2.2.1
def Txt.sI:=T.EZ.2.2.2.2.2.1
def Txt.ng:=T.EZ.2.2.2.2.2.2.1
def Txt.W3:=T.EZ.2.2.2.2.2.2.2
def Txt.E1:MV K mg a:=T.2.2.2.2.2.2.2.2.2.2.2.2.2.2.2.2.2.2.2.2.2.1
def Txt.W4:=T.E1.1
def Txt.VU:=T.E1.2.1
def Txt.VW:=T.E1.2.2.1
def Txt.z9:=T.E1.2.2.2.1
def Txt.qK:=T.E1.2.2.2.2.1
def Txt.Kl:=T.E1.2.2.2.2.2.1
def Txt.yL:=T.E1.2.2.2.2.2.2.1
def Txt.cG:=T.E1.2.2.2.2.2.2.2
def Txt.E2:MW K mg a:=T.2.2.2.2.2.2.2.2.2.2.2.2.2.2.2.2.2.2.2.2.2.2.1
def Txt.y6:=T.E2.1
def Txt.Dl:=T.E2.2.1
def Txt.qW:=T.E2.2.2.1
def Txt.Qj:=T.E2.2.2.2.1
def Txt.jP:=T.E2.2.2.2.2.1
def Txt.fD:=T.E2.2.2.2.2.2.1
def Txt.qk:=T.E2.2.2.2.2.2.2.1
def Txt.cH:=T.E2.2.2.2.2.2.2.2
def Txt.E3:MX K mg a:=T.2.2.2.2.2.2.2.2.2.2.2.2.2.2.2.2.2.2.2.2.2.2.2.1
def Txt.Dm:=T.E3.1
def Txt.Jh:=T.E3.2.1
def Txt.Zf:=T.E3.2.2.1
def Txt.YT:=T.E3.2.2.2.1
def Txt.ZT:=T.E3.2.2.2.2.1
def Txt.v8:=T.E3.2.2.2.2.2.1
def Txt.v9:=T.E3.2.2.2.2.2.2.1
def Txt.v_:=T.E3.2.2.2.2.2.2.2
def Txt.E4:MY K mg a:=T.2.2.2.2.2.2.2.2.2.2.2.2.2.2.2.2.2.2.2.2.2.2.2.2.1
def Txt.wa:=T.E4.1
def Txt.wb:=T.E4.2.1
def Txt.wc:=T.E4.2.2.1
def Txt.wd:=T.E4.2.2.2.1
def Txt.we:=T.E4.2.2.2.2.1
def Txt.wg:=T.E4.2.2.2.2.2.1
def Txt.vc:=T.E4.2.2.2.2.2.2.1
def Txt.ZU:=T.E4.2.2.2.2.2.2.2
def Txt.E5:MZ K mg a:=T.2.2.2.2.2.2.2.2.2.2.2.2.2.2.2.2.2.2.2.2.2.2.2.2.2.1
def Txt.ZV:=T.E5.1
def Txt.ZW:=T.E5.2.1
def Txt.ZX:=T.E5.2.2.1
def Txt.ZY:=T.E5.2.2.2.1
def Txt.ZZ:=T.E5.2.2.2.2.1
def Txt.Z0:=T.E5.2.2.2.2.2.1
def Txt.Z1:=T.E5.2.2.2.2.2.2.1
def Txt.Z2:=T.E5.2.2.2.2.2.2.2
def Txt.E6:M3 K mg a:=T.2.2.2.2.2.2.2.2.2.2.2.2.2.2.2.2.2.2.2.2.2.2.2.2.2.2.1
def Txt.wj:=T.E6.1
def Txt.vd:=T.E6.2.1
def Txt.ve:=T.E6.2.2.1
def Txt.vf:=T.E6.2.2.2.1
def Txt.vg:=T.E6.2.2.2.2.1
def Txt.vh:=T.E6.2.2.2.2.2.1
def Txt.vi:=T.E6.2.2.2.2.2.2.1
def Txt.vj:=T.E6.2.2.2.2.2.2.2
def Txt.E7:M6 K mg a:=T.2.2.2.2.2.2.2.2.2.2.2.2.2.2.2.2.2.2.2.2.2.2.2.2.2.2.2.1
def Txt.vk:=T.E7.1
def Txt.vm:=T.E7.2.1
def Txt.ki:=T.E7.2.2.1
def Txt.YU:=T.E7.2.2.2.1
def Txt.YV:=T.E7.2.2.2.2.1
def Txt.YW:=T.E7.2.2.2.2.2.1
def Txt.YX:=T.E7.2.2.2.2.2.2.1
def Txt.YY:=T.E7.2.2.2.2.2.2.2
def Txt.HW:M7 K mg a:=T.2.2.2.2.2.2.2.2.2.2.2.2.2.2.2.2.2.2.2.2.2.2.2.2.2.2.2.2
def Txt.YZ:=T.HW.1
def Txt.Y0:=T.HW.2.1
def Txt.Y1:=T.HW.2.2.1
def Txt.Y2:=T.HW.2.2.2.1
def Txt.Z3:=T.HW.2.2.2.2.1
def Txt.pq:=T.HW.2.2.2.2.2
end
def cls(a:Adr):Nat->Addr
 |0=>a.ym
 |1=>a.qa
 |2=>a.yo
 |3=>a.qo
 |4=>a.jT
 |5=>a.zT
 |6=>a.yp
 |7=>a.z_
 |8=>a.yD
 |9=>a.qb
 |10=>a.Y9
 |11=>a.Y_
 |12=>a.zz
 |1000=>a.Hw
 |_=>0
abbrev WW(K:SU)(a:Adr):RC:=⟨K,cls a⟩
abbrev Y3:MS:=
  (zY (sIf (z0 (mOp pLt (zc 1) (zh QR (zb (zc 0) zk)))) (jY (mOp pIx (zc 0) (zc 1))) z1)
  (jY (mC (.i 0))))
def zR:List PV->Out PV:=wZ false 2 Y3
abbrev wm:MG:=
  (gNm 3)
abbrev wo:MS:=
  (ie 2 (zb (zc 3) (zb (zc 3) zk)) (mC (.i 0)))
abbrev wq:MG:=
  (gTp 3 (Qg (gNm 4) (Qg (gNm 5) (Qg (gNm 6) u6))))
abbrev wt:MS:=
  (ie 2 (zb (zc 4) (zb (zc 5) zk)) (zh eD (zb (zc 6) (zb (sv (zc 2) (zb (zc 4) (zb (zc 5) zk)) (zc 6)) zk))))
abbrev wu:MG:=
  (gNm 5)
abbrev jQ:MS:=
  (sIf (UB (z0 (eY false (zb (zc 4) (zb (zc 7) zk)) (zc 2))) (z0 (eY false (zb (zc 7) (zb (zc 5) zk)) (zc 2)))) (zY (yX 8 (mOp zJ (ic (zc 2) (zb (zc 4) (zb (zc 7) zk))) (ic (zc 2) (zb (zc 7) (zb (zc 5) zk)))))
  (ie 2 (zb (zc 4) (zb (zc 5) zk)) (zh eD (zb (zc 8) (zb (sv (zc 2) (zb (zc 4) (zb (zc 5) zk)) (zc 8)) zk))))) z1)
abbrev wx:MG:=
  (gNm 4)
abbrev wy:MS:=
  (JT (yr (zc 0)) wu jQ)
abbrev wz:MG:=
  (gNm 7)
abbrev wA:MS:=
  (JT (yr (zc 0)) wx wy)
abbrev VX:MS:=
  (zY (yX 2 EE)
  (zY (JT (yr (zc 0)) wm wo)
  (zY (JT (yr (zc 1)) wq wt)
  (zY (JT (yr (zc 0)) wz wA)
  (jY (zc 2))))))
def qA:List PV->Out PV:=wZ true 9 VX
abbrev Xo:MS:=
  (zY (yX 3 (Yw (zb (mOp pIx (zc 0) (mC (.i 2))) (zb (mOp pIx (zc 1) (mC (.i 1))) zk))))
  (jY (gY (mOp Mx (zc 3) (zc 2)) (mOp pLe (mOp zJ (mOp pIx (zc 0) (mC (.i 4))) (mOp N6 (zc 2) (zc 3))) (mOp pIx (zc 1) (mC (.i 3)))))))
def yM:List PV->Out PV:=wZ false 4 Xo
abbrev Qk:MS:=
  (jY (Yw (zb (mOp pIx (zc 0) (mC (.i 3))) (zb (mOp pIx (zc 0) (mC (.i 4))) (zb (mOp pIx (zc 0) (mC (.i 0))) zk)))))
def zG:List PV->Out PV:=wZ false 1 Qk
abbrev VY:MG:=
  (gNm 6)
abbrev Y4:MS:=
  (zY (yX 7 (ic (zc 2) (zb (zc 4) (zb (mOp pIx (zc 6) (mC (.i 1))) zk))))
  (zY (sIf (z0 (mOp (tL false) (zc 5) (mC .n))) (yX 5 (mOp d_ (mOp pIx (zc 6) (mC (.i 3))) (zc 7))) z1)
  (zY (sIf (z0 (mOp pGt (zc 7) (mC (.i 0)))) (c9 3 (Yw (zb (mC (.s "way")) (zb (zc 5) (zb (mOp zJ (zc 5) (zc 7)) zk))))) z1)
  (zY (sIf (z0 (mOp pLt (mOp zJ (zc 5) (zc 7)) (mOp pIx (zc 6) (mC (.i 3))))) (c9 3 (Yw (zb (mC (.s "wait")) (zb (mOp zJ (zc 5) (zc 7)) (zb (mOp pIx (zc 6) (mC (.i 3))) zk))))) z1)
  (zY (c9 3 (Yw (zb (mC (.s "trip")) (zb (mOp pIx (zc 6) (mC (.i 3))) (zb (mOp pIx (zc 6) (mC (.i 4))) zk)))))
  (zY (yX 4 (mOp pIx (zc 6) (mC (.i 2))))
  (yX 5 (mOp pIx (zc 6) (mC (.i 4))))))))))
abbrev a9:MS:=
  (zY (yX 3 (QP zk))
  (zY (yX 4 (zc 1))
  (zY (yX 5 (mC .n))
  (zY (JT (yr (zc 0)) VY Y4)
  (zY (sIf (UB (z0 (mOp (vD true) (zc 0) (QP zk))) (z0 (mOp pGt (ic (zc 2) (zb (zc 4) (zb (zc 1) zk))) (mC (.i 0))))) (c9 3 (Yw (zb (mC (.s "way")) (zb (zc 5) (zb (mOp zJ (zc 5) (ic (zc 2) (zb (zc 4) (zb (zc 1) zk)))) zk))))) z1)
  (jY (zc 3)))))))
def kj:List PV->Out PV:=wZ true 8 a9
abbrev VZ:MS:=
  (jY (zh kM (zb (QS [11] "places" (zc 0)) zk)))
def yx:List PV->Out PV:=wZ true 1 VZ
abbrev V0:MS:=
  (jY (zh kM (zb (QS [10] "order" (zc 0)) zk)))
def y8:List PV->Out PV:=wZ true 1 V0
abbrev qL:MG:=
  (gNm 1)
abbrev yU:MS:=
  (sIf (z0 (mOp (pIn true) (mOp zJ (mC (.s "t")) (zh ED (zb (zc 1) zk))) (zc 0))) (jY (mOp zJ (mC (.s "t")) (zh ED (zb (zc 1) zk)))) z1)
abbrev Km:MS:=
  (zY (JT (YA (zb (mOp zJ (zh QR (zb (zc 0) zk)) (mC (.i 1))) zk)) qL yU)
  (jY (mC (.s ""))))
def yN:List PV->Out PV:=wZ false 2 Km
abbrev Ql:MG:=
  (gTp 3 (Qg (gNm 4) (Qg (gNm 5) (Qg (gNm 6) u6))))
abbrev js:MS:=
  (sIf (z0 (mOp (pIn false) (zc 4) (zc 2))) (zY (yX 7 (mOp zJ (mOp pIx (zc 2) (zc 4)) (zc 6)))
  (sIf (mOr (z0 (mOp (pIn true) (zc 5) (zc 2))) (z0 (mOp pLt (zc 7) (mOp pIx (zc 2) (zc 5))))) (zY (Gg 2 (zc 5) (zc 7))
  (yX 3 (mC (.b true)))) z1)) z1)
abbrev jt:MT:=
  (z0 (zc 3))
abbrev yV:MS:=
  (zY (yX 3 (mC (.b false)))
  (JT (yr (zc 1)) Ql js))
abbrev Kn:MS:=
  (zY (yX 2 (mD1 (zc 0) (mC (.i 0))))
  (zY (yX 3 (mC (.b true)))
  (zY (c_ jt yV)
  (jY (zc 2)))))
def yO:List PV->Out PV:=wZ true 8 Kn
abbrev V1:MG:=
  (gNm 2)
abbrev V2:MS:=
  (sIf (mOr (Ci (z0 (mUn (Cr [(.tuple,true)]) (zc 2)))) (mOr (z0 (mUn (Cr [(.bool,true),(.int,false)]) (mOp pIx (zc 2) (mC (.i 1))))) (z0 (mUn (Cr [(.bool,true),(.int,false)]) (mOp pIx (zc 2) (mC (.i 2))))))) (jY (mC (.b false))) z1)
abbrev a_:MS:=
  (zY (sIf (z0 (mOp (vD true) (zc 0) (zc 1))) (jY (mC (.b false))) z1)
  (zY (sIf (z0 (mOp (vD true) (mOp pIx (zc 1) (mC (.i 0))) (mC (.s "told")))) (jY (mC (.b true))) z1)
  (zY (sIf (Ci (z0 (mUn (Cr [(.list,true)]) (mOp pIx (zc 0) (mC (.i 1)))))) (jY (mC (.b false))) z1)
  (zY (JT (yr (mOp pIx (zc 0) (mC (.i 1)))) V1 V2)
  (jY (mC (.b true)))))))
def yg:List PV->Out PV:=wZ false 3 a_
abbrev iG:MS:=
  (jY (mOp zX (mOp Ke (mOp zX (zh zR (zb (zc 0) (zb (zc 1) zk))) (mC (.i 1000000007))) (mC (.i 48271))) (zc 2)))
def zO:List PV->Out PV:=wZ false 3 iG
abbrev dq:MS:=
  (zY (yX 6 (zh zR (zb (zc 0) (zb (zc 1) zk))))
  (zY (yX 7 (zh zR (zb (zc 0) (zb (mOp zJ (zc 1) (mC (.i 1))) zk))))
  (zY (yX 8 (zh zR (zb (zc 0) (zb (mOp zJ (zc 1) (mC (.i 2))) zk))))
  (zY (yX 9 (mOp pIx (zc 3) (mOp zX (zc 6) (zh QR (zb (zc 3) zk)))))
  (zY (yX 10 (mOp pIx (zc 3) (mOp zX (mOp Yv (zc 6) (mC (.i 5))) (zh QR (zb (zc 3) zk)))))
  (zY (sIf (z0 (eY true (zb (zc 9) (zb (zc 10) zk)) (zc 4))) (yX 10 (zc 9)) z1)
  (zY (yX 11 (mOp pIx (QP (zb (mC (.i 0)) (zb (mOp zX (zc 8) (mC (.i 60))) (zb (mOp zX (zc 7) (mC (.i 7))) (zb (mOp zX (zc 8) (mOp aa (mC (.i 10)) (mC (.i 8)))) zk))))) (mOp zX (mOp Yv (zc 6) (mC (.i 25))) (mC (.i 4)))))
  (zY (yX 12 (zh HP (zb (mC (.i 1)) (zb (mOp zJ (ic (zc 4) (zb (zc 9) (zb (zc 10) zk))) (zc 11)) zk))))
  (zY (yX 13 (mOp pIx (QP (zb (mOp zX (zc 7) (mC (.i 1440))) (zb (mOp zX (zc 7) (mC (.i 200))) (zb (mOp zX (zc 7) (mOp aa (mC (.i 10)) (mC (.i 9)))) zk)))) (mOp zX (mOp Yv (zc 6) (mC (.i 100))) (mC (.i 3)))))
  (zY (sIf (UB (z0 (mOp (vD false) (mOp zX (mOp Yv (zc 6) (mC (.i 300))) (mC (.i 2))) (mC (.i 1)))) (UB (z0 (mOp (tL true) (zc 5) (mC .n))) (z0 (eY false (zb (mOp pIx (zc 5) (mC (.i 2))) (zb (zc 9) zk)) (zc 4))))) (yX 13 (mOp d_ (mOp zJ (mOp zJ (mOp pIx (zc 5) (mC (.i 4))) (ic (zc 4) (zb (mOp pIx (zc 5) (mC (.i 2))) (zb (zc 9) zk)))) (mOp zX (zc 7) (mC (.i 3)))) (mC (.i 1)))) z1)
  (zY (yX 13 (zh eD (zb (zc 13) (zb (mOp d_ (mOp aa (mC (.i 10)) (mC (.i 9))) (zc 12)) zk))))
  (jY (Yw (zb (zc 2) (zb (zc 9) (zb (zc 10) (zb (zc 13) (zb (mOp zJ (zc 13) (zc 12)) (zb (mOp zX (mOp Yv (zc 8) (mC (.i 7))) (mOp zJ (mOp aa (mC (.i 10)) (mC (.i 9))) (mC (.i 1)))) zk)))))))))))))))))))
def kl:List PV->Out PV:=wZ false 14 dq
abbrev wB:MG:=
  (gNm 4)
abbrev wC:MS:=
  (sIf (z0 (mOp (pIn true) (zc 4) (zc 2))) (jY (Yw (zb (mC (.s "NoTrip")) (zb (zc 4) zk)))) z1)
abbrev wD:MG:=
  (gNm 5)
abbrev wF:MS:=
  (sIf (Ci (z0 (zh yM (zb (mOp pIx (zc 2) (mOp pIx (zc 1) (zc 5))) (zb (mOp pIx (zc 2) (mOp pIx (zc 1) (mOp zJ (zc 5) (mC (.i 1))))) (zb (zc 3) zk)))))) (jY (Yw (zb (mC (.s "Unlinked")) (zb (mOp pIx (zc 1) (zc 5)) (zb (mOp pIx (zc 1) (mOp zJ (zc 5) (mC (.i 1)))) zk))))) z1)
abbrev Ji:MG:=
  (gNm 0)
abbrev Xp:MT:=
  Cz
abbrev Jj:ME:=
  (mOp pIx (zc 1) (zc 0))
abbrev iH:MS:=
  (zY (sIf (z0 (eY true (zb (zc 0) (zb (zc 0) zk)) (zc 3))) (jY (Yw (zb (mC (.s "NoPlace")) (zb (zc 0) zk)))) z1)
  (zY (JT (yr (zc 1)) wB wC)
  (zY (JT (YA (zb (mOp d_ (zh QR (zb (zc 1) zk)) (mC (.i 1))) zk)) wD wF)
  (zY (sIf (UB (z0 (mOp (vD true) (zc 1) (QP zk))) (z0 (eY true (zb (zc 0) (zb (mOp pIx (mOp pIx (zc 2) (mOp pIx (zc 1) (mC (.i 0)))) (mC (.i 1))) zk)) (zc 3)))) (jY (Yw (zb (mC (.s "NoWay")) (zb (zc 0) (zb (mOp pIx (mOp pIx (zc 2) (mOp pIx (zc 1) (mC (.i 0)))) (mC (.i 1))) zk))))) z1)
  (zY (sIf (UB (z0 (mOp (vD true) (zc 1) (QP zk))) (z0 (eY true (zb (mOp pIx (mOp pIx (zc 2) (mOp pIx (zc 1) (mUn oC (mC (.i 1))))) (mC (.i 2))) (zb (zc 0) zk)) (zc 3)))) (jY (Yw (zb (mC (.s "NoWay")) (zb (mOp pIx (mOp pIx (zc 2) (mOp pIx (zc 1) (mUn oC (mC (.i 1))))) (mC (.i 2))) (zb (zc 0) zk))))) z1)
  (jY (Yw (zb (mC (.s "told")) (zb (zh kj (zb (mLC (yr (zc 1)) [none,some 2] Ji Xp Jj) (zb (zc 0) (zb (zc 3) zk)))) zk)))))))))
def y9:List PV->Out PV:=wZ false 6 iH
abbrev Xq:MS:=
  (zY (yX 4 (mOp zX (zc 3) (mOp zJ (zh QR (zb (zc 0) zk)) (mC (.i 1)))))
  (zY (sIf (z0 (mOp (vD false) (zc 2) (mC (.i 0)))) (jY (mOp zJ (mOp zJ (mSl pSl (zc 0) bW (kK (zc 4))) (QP (zb (zh yN (zb (zc 1) zk)) zk))) (mSl pSl (zc 0) (kK (zc 4)) bW))) z1)
  (zY (sIf (UB (z0 (mOp (vD false) (zc 2) (mC (.i 1)))) (z0 (mOp pLt (mOp zJ (zc 4) (mC (.i 1))) (zh QR (zb (zc 0) zk))))) (jY (mOp zJ (mOp zJ (mSl pSl (zc 0) bW (kK (zc 4))) (QP (zb (mOp pIx (zc 0) (mOp zJ (zc 4) (mC (.i 1)))) (zb (mOp pIx (zc 0) (zc 4)) zk)))) (mSl pSl (zc 0) (kK (mOp zJ (zc 4) (mC (.i 2)))) bW))) z1)
  (zY (sIf (UB (z0 (mOp (vD false) (zc 2) (mC (.i 2)))) (z0 (mOp pLt (zc 4) (zh QR (zb (zc 0) zk))))) (jY (mOp zJ (mOp zJ (mSl pSl (zc 0) bW (kK (zc 4))) (QP (zb (mOp pIx (zc 0) (zc 4)) zk))) (mSl pSl (zc 0) (kK (zc 4)) bW))) z1)
  (jY (zc 0))))))
def ja:List PV->Out PV:=wZ false 5 Xq
abbrev Ko:MG:=
  (gNm 0)
abbrev Kp:MT:=
  Cz
abbrev Kq:ME:=
  (mOp zX (mOp zX (mOp zJ (mOp Ke (zc 1) (mC (.i 16807))) (mOp Ke (mOp Ke (mC (.i 7919)) (zc 0)) (zc 0))) (mC (.i 65521))) (mC (.i 36)))
abbrev Z4:MG:=
  (gNm 0)
abbrev Z5:MT:=
  Cz
abbrev Z6:ME:=
  (mOp pIx (zc 1) (zc 0))
abbrev V3:MG:=
  (gNm 8)
abbrev Y5:MS:=
  (zY (yX 9 (mOp CA (zh kM (zb (mSl pSl (zc 5) bW (kK (mOp zJ (mC (.i 1)) (mOp zX (zc 4) (mC (.i 11)))))) zk)) (mOp Ke (mSl pSl (zc 5) (kK (mC (.i 11))) bW) (mOp zX (zc 8) (mC (.i 2))))))
  (zY (yX 10 (mOp zX (mOp Yv (zc 6) (mC (.i 4))) (zh QR (zb (zc 9) zk))))
  (zY (uY 9 (zc 10) (mOp zX (mOp zJ (mOp pIx (zc 9) (zc 10)) (zc 8)) (mC (.i 36))))
  (zY (sIf (UB (z0 (mOp (vD false) (mOp zX (zc 6) (mC (.i 4))) (mC (.i 1)))) (z0 (mOp pLe (zc 2) (mC (.i 12))))) (yX 9 (mSl Gb (zc 5) bW (kK (mOp zJ (mC (.i 1)) (zc 8))))) z1)
  (zY (sIf (UB (z0 (mOp (vD false) (mOp zX (zc 6) (mC (.i 4))) (mC (.i 2)))) (z0 (mOp pLe (zc 2) (mC (.i 12))))) (yX 9 (mSl Gb (zc 5) bW (kK (mOp d_ (zc 2) (zc 8))))) z1)
  (c9 7 (O7 ib (mC (.s "")) (mLC (yr (zc 9)) [none,some 3] Z4 Z5 Z6))))))))
abbrev ba:MS:=
  (zY (yX 3 (mC (.s "abcdefghijklmnopqrstuvwxyz0123456789")))
  (zY (yX 4 (mOp zX (zh zR (zb (zc 0) (zb (zc 1) zk))) (mC (.i 1000000007))))
  (zY (yX 5 (mLC (YA (zb (mC (.i 12)) zk)) [none,some 4] Ko Kp Kq))
  (zY (yX 6 (zh zO (zb (zc 0) (zb (mOp zJ (zc 1) (mC (.i 1))) (zb (mC (.i 65537)) zk)))))
  (zY (yX 7 (QP zk))
  (zY (JT (YA (zb (zc 2) zk)) V3 Y5)
  (jY (zc 7))))))))
def qB:List PV->Out PV:=wZ true 11 ba
abbrev Zg:MG:=
  (gNm 6)
abbrev Zh:MS:=
  (c9 5 (Yw (zb (mOp pIx (zc 2) (zc 6)) (zb (mOp pIx (zc 2) (mOp zX (mOp zJ (zc 6) (mC (.i 1))) (zc 3))) (zb (mOp zJ (mC (.i 1)) (mOp zX (zh zO (zb (zc 0) (zb (mOp zJ (zc 1) (zc 6)) (zb (mC (.i 65497)) zk)))) (zc 4))) zk)))))
abbrev Xr:MG:=
  (gNm 6)
abbrev Xs:MS:=
  (zY (yX 7 (zh zR (zb (zc 0) (zb (mOp zJ (zc 1) (zc 6)) zk))))
  (c9 5 (Yw (zb (mOp pIx (zc 2) (mOp zX (zc 7) (zc 3))) (zb (mOp pIx (zc 2) (mOp zX (mOp Yv (zc 7) (zc 3)) (zc 3))) (zb (mOp zJ (mC (.i 1)) (mOp zX (mOp Yv (zc 7) (mC (.i 25))) (zc 4))) zk))))))
abbrev dr:MS:=
  (zY (yX 3 (zh QR (zb (zc 2) zk)))
  (zY (yX 4 (mOp pIx (QP (zb (mC (.i 60)) (zb (mC (.i 60)) (zb (mC (.i 3)) (zb (mOp Ke (mC (.i 2)) (mOp aa (mC (.i 10)) (mC (.i 8)))) zk))))) (mOp zX (zh zO (zb (zc 0) (zb (zc 1) (zb (mC (.i 65521)) zk)))) (mC (.i 4)))))
  (zY (yX 5 (QP zk))
  (zY (sIf (z0 (mOp pGt (mOp zX (zh zO (zb (zc 0) (zb (mOp zJ (zc 1) (mC (.i 1))) (zb (mC (.i 65519)) zk)))) (mC (.i 3))) (mC (.i 0)))) (JT (YA (zb (zc 3) zk)) Zg Zh) z1)
  (zY (JT (YA (zb (mOp zX (zh zO (zb (zc 0) (zb (mOp zJ (zc 1) (mC (.i 2))) (zb (mC (.i 65479)) zk)))) (mC (.i 9))) zk)) Xr Xs)
  (jY (zc 5)))))))
def km:List PV->Out PV:=wZ true 8 dr
abbrev V4:MG:=
  (gNm 6)
abbrev V5:MS:=
  (zY (yX 7 (mC .n))
  (zY (sIf (z0 (mOp pGt (zc 6) (mC (.i 0)))) (yX 7 (mOp pIx (zc 5) (mOp zX (zh zO (zb (zc 0) (zb (mOp zJ (mOp zJ (zc 1) (mOp Ke (mC (.i 3)) (zc 6))) (mC (.i 1))) (zb (mC (.i 65479)) zk)))) (zc 6)))) z1)
  (c9 5 (zh kl (zb (zc 0) (zb (mOp zJ (zc 1) (mOp Ke (mC (.i 3)) (zc 6))) (zb (mOp pIx (zc 2) (zc 6)) (zb (zc 3) (zb (zc 4) (zb (zc 7) zk))))))))))
abbrev bb:MS:=
  (zY (yX 5 (QP zk))
  (zY (JT (YA (zb (zh QR (zb (zc 2) zk)) zk)) V4 V5)
  (jY (zc 5))))
def jD:List PV->Out PV:=wZ true 8 bb
abbrev Xt:MS:=
  (sIf (z0 (mOp pGt (zh QR (zb (zc 0) zk)) (zc 1))) (w4 3 ["most"] (zb (zc 1) zk)) z1)
def y_:List PV->Out PV:=wZ false 2 Xt
abbrev Qm:MG:=
  (gNm 1)
abbrev ju:MS:=
  (sIf (z0 (mOp (pIn true) (zc 1) (mC (.s "abcdefghijklmnopqrstuvwxyz0123456789")))) (w4 1 ["name"] (zb (zc 0) zk)) z1)
abbrev Kr:MS:=
  (zY (sIf (mOr (z0 (mOp pLt (zh QR (zb (zc 0) zk)) (mC (.i 1)))) (z0 (mOp pGt (zh QR (zb (zc 0) zk)) (mC (.i 12))))) (w4 1 ["name"] (zb (zc 0) zk)) z1)
  (zY (JT (ia (zc 0)) Qm ju)
  (jY (zc 0))))
def qR:List PV->Out PV:=wZ false 2 Kr
abbrev V6:MS:=
  (sIf (z0 (mOp (pIn true) (zc 0) (zc 1))) (w4 5 ["name"] (zb (zc 0) zk)) z1)
def yh:List PV->Out PV:=wZ false 2 V6
abbrev Qn:MS:=
  (zY (sIf (mOr (z0 (mOp pLt (zc 0) (zc 1))) (z0 (mOp pGt (zc 0) (mC (.i 1000000000))))) (w4 2 ["value"] (zb (zc 0) zk)) z1)
  (jY (zc 0)))
def zV:List PV->Out PV:=wZ false 2 Qn
abbrev Xu:MS:=
  (zY (sIf (z0 (mOp (pIn true) (zc 1) (QS [10] "by_name" (zc 0)))) (w4 7 ["name"] (zb (zc 1) zk)) z1)
  (jY (mOp pIx (QS [10] "by_name" (zc 0)) (zc 1))))
def zo:List PV->Out PV:=wZ false 2 Xu
abbrev yC:ME:=
  (Yw (zb (mOp pIx (zc 0) (mC (.i 3))) (zb (mOp pIx (zc 0) (mC (.i 4))) (zb (mOp pIx (zc 0) (mC (.i 0))) zk))))
abbrev Xv:HMG:=
  (hgN 4)
abbrev Xw:HMS:=
  (vH (hIf (hPT [false,true,true,true,true] (UB (z0 (mOp pLt (mOp zX (zc 2) (mC (.i 3))) (mC (.i 2)))) (mOr (z0 (mOp (vD false) (zc 3) (QP zk))) (z0 (zh yM (zb (mOp pIx (zc 3) (mUn oC (mC (.i 1)))) (zb (zc 4) (zb (zc 1) zk)))))))) (O3 (QW 3) (QW 4)) Vf)
  (vz 2 (hP [false,false,true] (mOp Yv (zc 2) (mC (.i 3))))))
abbrev Xx:MG:=
  (gNm 0)
abbrev iI:MT:=
  Cz
abbrev Xy:ME:=
  (mOp pIx (zc 0) (mC (.i 0)))
abbrev du:HMS:=
  (vH (vz 3 (hF [] (QP zk)))
  (vH (CS (pd (x3 1 yC) (ZE (QW 0) CL)) Xv Xw)
  (mO (hFV [false,false,false,true] (mLC (yr (zc 3)) [none] Xx iI Xy)))))
def Kb:List HV->AH->HX HV:=Bz 5 du
abbrev Zi:MS:=
  (zY (jB (zh qR (zb (zc 0) zk)))
  (zY (sIf (z0 (mOp (pIn false) (zc 0) (zc 1))) (w4 4 ["name"] (zb (zc 0) zk)) z1)
  (jY (zc 0))))
def z4:List PV->Out PV:=wZ false 2 Zi
abbrev Ks:MS:=
  (zY (jB (zh yh (zb (zc 1) (zb (QS [11] "places" (zc 0)) zk))))
  (zY (jB (zh yh (zb (zc 2) (zb (QS [11] "places" (zc 0)) zk))))
  (jY (NW (mOp pIx (QS [11] "lengths" (zc 0)) (zc 1)) (zc 2)))))
def zu:List PV->Out PV:=wZ false 3 Ks
abbrev wG:MG:=
  (gNm 2)
abbrev wH:MS:=
  (jB (jg [(10,zo)] "trip" (zc 0) (zb (zc 2) zk)))
abbrev V7:MS:=
  (JT (yr (zc 1)) wG wH)
def qC:List PV->Out PV:=wZ false 3 V7
abbrev Kt:MG:=
  (gTp 3 (Qg (gNm 2) (Qg (gNm 3) (Qg (gNm 4) u6))))
abbrev kE:MS:=
  (zY (jB (zh yh (zb (zc 2) (zb (zc 0) zk))))
  (zY (jB (zh yh (zb (zc 3) (zb (zc 0) zk))))
  (jB (zh zV (zb (zc 4) (zb (mC (.i 1)) zk))))))
abbrev Xz:MS:=
  (JT (yr (zc 1)) Kt kE)
def jH:List PV->Out PV:=wZ false 5 Xz
abbrev XA:MS:=
  (zY (jB (zh z4 (zb (mOp pIx (zc 1) (mC (.i 0))) (zb (zc 2) zk))))
  (zY (yX 3 (jg [(11,zu)] "length" (zc 0) (zb (mOp pIx (zc 1) (mC (.i 1))) (zb (mOp pIx (zc 1) (mC (.i 2))) zk))))
  (zY (jB (zh zV (zb (mOp pIx (zc 1) (mC (.i 3))) (zb (mC (.i 0)) zk))))
  (zY (jB (zh zV (zb (mOp pIx (zc 1) (mC (.i 4))) (zb (mC (.i 0)) zk))))
  (zY (jB (zh zV (zb (mOp pIx (zc 1) (mC (.i 5))) (zb (mC (.i 0)) zk))))
  (zY (sIf (z0 (mOp pLe (mOp pIx (zc 1) (mC (.i 4))) (mOp pIx (zc 1) (mC (.i 3))))) (w4 8 ["name"] (zb (mOp pIx (zc 1) (mC (.i 0))) zk)) z1)
  (zY (sIf (z0 (mOp (tL false) (zc 3) (mC .n))) (w4 6 ["origin","goal"] (zb (mOp pIx (zc 1) (mC (.i 1))) (zb (mOp pIx (zc 1) (mC (.i 2))) zk))) z1)
  (sIf (z0 (mOp pLt (mOp d_ (mOp pIx (zc 1) (mC (.i 4))) (mOp pIx (zc 1) (mC (.i 3)))) (zc 3))) (w4 9 ["name"] (zb (mOp pIx (zc 1) (mC (.i 0))) zk)) z1))))))))
def jb:List PV->Out PV:=wZ false 4 XA
abbrev M8:MS:=
  (zY (yX 3 (jg [(10,zo)] "trip" (zc 0) (zb (zc 1) zk)))
  (zY (yX 4 (jg [(10,zo)] "trip" (zc 0) (zb (zc 2) zk)))
  (zY (yX 5 (jg [(11,zu)] "length" (QS [10] "roads" (zc 0)) (zb (mOp pIx (zc 3) (mC (.i 2))) (zb (mOp pIx (zc 4) (mC (.i 1))) zk))))
  (zY (sIf (z0 (mOp (tL false) (zc 5) (mC .n))) (jY (mC .n)) z1)
  (jY (mOp d_ (mOp d_ (mOp pIx (zc 4) (mC (.i 3))) (mOp pIx (zc 3) (mC (.i 4)))) (zc 5)))))))
def sJ:List PV->Out PV:=wZ false 6 M8
abbrev bc:MS:=
  (sIf (z0 (mOp (tL false) (jg [(11,zu)] "length" (zc 0) (zb (zc 1) (zb (zc 2) zk))) (mC .n))) (w4 6 ["origin","goal"] (zb (zc 1) (zb (zc 2) zk))) z1)
def qD:List PV->Out PV:=wZ false 3 bc
abbrev XB:MG:=
  (gNm 6)
abbrev XE:MS:=
  (zY (yX 7 (jg [(10,zo)] "trip" (zc 0) (zb (zc 6) zk)))
  (zY (yX 8 (mOp zJ (zc 3) (jg [(11,zu)] "length" (QS [10] "roads" (zc 0)) (zb (zc 4) (zb (mOp pIx (zc 7) (mC (.i 1))) zk)))))
  (zY (c9 5 (Yw (zb (mC (.s "way")) (zb (zc 3) (zb (zc 8) zk)))))
  (zY (c9 5 (Yw (zb (mC (.s "wait")) (zb (zc 8) (zb (mOp pIx (zc 7) (mC (.i 3))) zk)))))
  (zY (c9 5 (Yw (zb (mC (.s "trip")) (zb (mOp pIx (zc 7) (mC (.i 3))) (zb (mOp pIx (zc 7) (mC (.i 4))) zk)))))
  (zY (yX 3 (mOp pIx (zc 7) (mC (.i 4))))
  (yX 4 (mOp pIx (zc 7) (mC (.i 2))))))))))
abbrev dv:MS:=
  (zY (yX 3 (mOp d_ (mOp pIx (jg [(10,zo)] "trip" (zc 0) (zb (mOp pIx (zc 2) (mC (.i 0))) zk)) (mC (.i 3))) (jg [(11,zu)] "length" (QS [10] "roads" (zc 0)) (zb (zc 1) (zb (mOp pIx (jg [(10,zo)] "trip" (zc 0) (zb (mOp pIx (zc 2) (mC (.i 0))) zk)) (mC (.i 1))) zk)))))
  (zY (yX 4 (zc 1))
  (zY (yX 5 (QP zk))
  (zY (JT (yr (zc 2)) XB XE)
  (zY (c9 5 (Yw (zb (mC (.s "way")) (zb (zc 3) (zb (mOp zJ (zc 3) (jg [(11,zu)] "length" (QS [10] "roads" (zc 0)) (zb (zc 4) (zb (zc 1) zk)))) zk)))))
  (jY (zc 5)))))))
def kn:List PV->Out PV:=wZ true 9 dv
abbrev Qo:MG:=
  (gNm 2)
abbrev jv:MS:=
  (zY (jB (zh z4 (zb (zc 2) (zb (zc 1) zk))))
  (Gg 1 (zc 2) (mC (.b true))))
abbrev Ku:MS:=
  (zY (yX 1 r8)
  (JT (yr (zc 0)) Qo jv))
def qS:List PV->Out PV:=wZ false 3 Ku
abbrev jR:HMG:=
  (hgN 3)
abbrev ql:HMS:=
  (vH (so (hP [true,true,false,true] (zh jb (zb (zc 1) (zb (zc 3) (zb (QS [10] "by_name" (zc 0)) zk))))))
  (HQ (Md [10] "by_name" (QW 0)) (hP [false,false,false,true] (mOp pIx (zc 3) (mC (.i 0)))) (QW 3)))
abbrev wI:MG:=
  (gNm 0)
abbrev wJ:MT:=
  Cz
abbrev wK:ME:=
  (mOp pIx (zc 0) (mC (.i 0)))
abbrev vN:HMS:=
  (vH (so (hP [false,false,true] (zh y_ (zb (zc 2) (zb (mC (.i 40)) zk)))))
  (vH (e_ [10] "roads" (QW 0) (QW 1))
  (vH (e_ [10] "by_name" (QW 0) (hF [] r8))
  (vH (b9 [false,false,true] (yr (zc 2)) jR ql)
  (e_ [10] "order" (QW 0) (hP [false,false,true] (mLC (yr (pb zG (zb (zc 2) zk))) [none] wI wJ wK)))))))
def qE:List HV->AH->HX HV:=Bz 4 vN
abbrev pw:MS:=
  (zY (yX 3 (zh sJ (zb (zc 0) (zb (zc 1) (zb (zc 2) zk)))))
  (jY (gY (mOp (tL true) (zc 3) (mC .n)) (mOp pGe (zc 3) (mC (.i 0))))))
def Y6:List PV->Out PV:=wZ false 4 pw
abbrev Jk:MG:=
  (gNm 0)
abbrev Jl:MT:=
  Cz
abbrev Jm:ME:=
  (Yw (zb (zc 0) (zb (zh yO (zb (zc 0) (zb (zc 1) zk))) zk)))
abbrev Zj:MS:=
  (zY (jB (zh y_ (zb (zc 1) (zb (mC (.i 12)) zk))))
  (zY (jB (zh y_ (zb (zc 2) (zb (mC (.i 60)) zk))))
  (zY (jB (zh qS (zb (zc 1) zk)))
  (zY (jB (zh jH (zb (zc 1) (zb (zc 2) zk))))
  (zY (mF 0 [11] "places" (zh kM (zb (zc 1) zk)))
  (zY (mF 0 [11] "ways" (zh kM (zb (zc 2) zk)))
  (mF 0 [11] "lengths" (zh h9 (zb (mLC (yr (zc 1)) [none,some 2] Jk Jl Jm) zk)))))))))
def qr:List PV->Out PV:=OR 11 2 Zj
abbrev qM:MG:=
  (gTp 2 (Qg (gNm 2) (Qg (gNm 3) u6)))
abbrev qN:MS:=
  (sIf (Ci (z0 (zh Y6 (zb (zc 0) (zb (zc 2) (zb (zc 3) zk)))))) (w4 12 ["first","second"] (zb (zc 2) (zb (zc 3) zk))) z1)
abbrev Kv:MS:=
  (zY (jB (zh qC (zb (zc 0) (zb (zc 1) zk))))
  (JT (N5 (zb (zc 1) (zb (mSl pSl (zc 1) (kK (mC (.i 1))) bW) zk))) qM qN))
def yy:List PV->Out PV:=wZ false 4 Kv
abbrev bf:MS:=
  (zY (jB (zh yh (zb (zc 1) (zb (jg [(10,y8),(11,yx)] "names" (QS [10] "roads" (zc 0)) zk) zk))))
  (jB (zh yy (zb (zc 0) (zb (zc 2) zk)))))
def yR:List PV->Out PV:=wZ false 3 bf
abbrev V8:MS:=
  (zY (jB (zh yR (zb (zc 0) (zb (zc 1) (zb (zc 2) zk)))))
  (sIf (z0 (mOp pGt (zh QR (zb (zc 2) zk)) (mC (.i 0)))) (zY (jB (zh qD (zb (QS [10] "roads" (zc 0)) (zb (zc 1) (zb (mOp pIx (jg [(10,zo)] "trip" (zc 0) (zb (mOp pIx (zc 2) (mC (.i 0))) zk)) (mC (.i 1))) zk)))))
  (jB (zh qD (zb (QS [10] "roads" (zc 0)) (zb (mOp pIx (jg [(10,zo)] "trip" (zc 0) (zb (mOp pIx (zc 2) (mUn oC (mC (.i 1)))) zk)) (mC (.i 2))) (zb (zc 1) zk)))))) z1))
def yi:List PV->Out PV:=wZ false 3 V8
abbrev dw:MG:=
  (gNm 0)
abbrev dy:MT:=
  (z0 (mOp pLt (mOp pIx (zc 0) (mC (.i 1))) (mOp pIx (zc 0) (mC (.i 2)))))
abbrev dz:ME:=
  (zc 0)
abbrev Ai:MS:=
  (zY (jB (zh yi (zb (zc 0) (zb (zc 1) (zb (zc 2) zk)))))
  (zY (sIf (z0 (mOp (vD false) (zh QR (zb (zc 2) zk)) (mC (.i 0)))) (jY (QP zk)) z1)
  (jY (mLC (yr (zh kn (zb (zc 0) (zb (zc 1) (zb (zc 2) zk))))) [none] dw dy dz))))
def jc:List PV->Out PV:=wZ true 3 Ai
abbrev XF:HMS:=
  (vH (vz 3 (hP [] (QP zk)))
  (vH (Mr [1,2,3,4,5,6,7,8,9,12] (vz 3 (hF [true,true,true] (hX jc (zb (zc 0) (zb (zc 1) (zb (zc 2) zk)))))) 4 (vH (vz 5 (hP [false,false,false,false,true] (QP (zb (mUn (Cr [(.exc 1,false),(.exc 2,false),(.exc 3,false),(.exc 4,false),(.exc 5,true),(.exc 6,false),(.exc 7,false),(.exc 8,false),(.exc 9,false),(.exc 12,false)]) (zc 4)) (zb (mUn (Cr [(.exc 1,false),(.exc 2,false),(.exc 3,false),(.exc 4,false),(.exc 5,false),(.exc 6,false),(.exc 7,true),(.exc 8,false),(.exc 9,false),(.exc 12,false)]) (zc 4)) (zb (mUn (Cr [(.exc 1,false),(.exc 2,false),(.exc 3,false),(.exc 4,false),(.exc 5,false),(.exc 6,false),(.exc 7,false),(.exc 8,false),(.exc 9,false),(.exc 12,true)]) (zc 4)) (zb (mUn (Cr [(.exc 1,false),(.exc 2,false),(.exc 3,false),(.exc 4,false),(.exc 5,false),(.exc 6,true),(.exc 7,false),(.exc 8,false),(.exc 9,false),(.exc 12,false)]) (zc 4)) zk)))))))
  (vH (hIf (hPT [false,false,false,false,false,true] (z0 (mOp (vD true) (xu (zc 5) (mC (.b true))) (mC (.i 1))))) (mO (hP [] (Yw (zb (mC (.s "refused otherwise")) zk)))) Vf)
  (vH (hIf (hPT [false,false,false,false,false,true] (z0 (mOp pIx (zc 5) (mC (.i 0))))) (mO (hP [false,false,false,false,true] (Yw (zb (mC (.s "NoPlace")) (zb (mE [1,4,5,7,8,9] "name" (zc 4)) zk))))) Vf)
  (vH (hIf (hPT [false,false,false,false,false,true] (z0 (mOp pIx (zc 5) (mC (.i 1))))) (mO (hP [false,false,false,false,true] (Yw (zb (mC (.s "NoTrip")) (zb (mE [1,4,5,7,8,9] "name" (zc 4)) zk))))) Vf)
  (vH (hIf (hPT [false,false,false,false,false,true] (z0 (mOp pIx (zc 5) (mC (.i 2))))) (mO (hP [false,false,false,false,true] (Yw (zb (mC (.s "Unlinked")) (zb (mE [12] "first" (zc 4)) (zb (mE [12] "second" (zc 4)) zk)))))) Vf)
  (mO (hP [false,false,false,false,true] (Yw (zb (mC (.s "NoWay")) (zb (mE [6] "origin" (zc 4)) (zb (mE [6] "goal" (zc 4)) zk))))))))))))
  (mO (P8 (ZE (hP [] (mC (.s "told"))) (ZE (QW 3) CL))))))
def z8:List HV->AH->HX HV:=Bz 6 XF
abbrev fE:HMG:=
  (hgN 8)
abbrev UR:HMS:=
  (HQ (QW 7) (hP [false,false,false,false,false,false,false,false,true] (mOp pIx (zc 8) (mC (.i 0)))) (QW 8))
abbrev Zk:HMG:=
  (hgN 16)
abbrev Zl:HMS:=
  (hIf (NU (hPT [false,false,false,true,false,false,false,true,false,false,true,false,true,false,true,false,true] (z0 (zh yg (zb (zh (vOf z8) (zb (zc 12) (zb (zc 16) (zb (zc 14) zk)))) (zb (zh y9 (zb (zc 16) (zb (zc 10) (zb (zc 7) (zb (zc 3) zk))))) zk)))))) (mO (hP [] (mC (.b false)))) Vf)
abbrev E8:HMS:=
  (vH (vz 1 (hP [true] (zh qB (zb (zc 0) (zb (mC (.i 0)) (zb (mOp zJ (mC (.i 2)) (mOp zX (zh zO (zb (zc 0) (zb (mC (.i 2)) (zb (mC (.i 65449)) zk)))) (mC (.i 4)))) zk))))))
  (vH (vz 2 (hP [true,true] (zh km (zb (zc 0) (zb (mC (.i 3)) (zb (zc 1) zk))))))
  (vH (vz 3 (hP [false,true,true] (zh qA (zb (zc 1) (zb (zc 2) zk)))))
  (vH (vz 4 (hP [true] (zh HP (zb (mOp zX (zh zO (zb (zc 0) (zb (mC (.i 11)) (zb (mC (.i 65521)) zk)))) (mC (.i 4))) (zb (mOp Yv (mOp d_ (zh eD (zb (zh QR (zb (zc 0) zk)) (zb (mC (.i 55)) zk))) (mC (.i 11))) (mC (.i 3))) zk)))))
  (vH (vz 5 (hP [true,false,false,false,true] (zh qB (zb (zc 0) (zb (mC (.i 11)) (zb (zc 4) zk))))))
  (vH (vz 6 (hP [true,true,false,true,false,true] (zh jD (zb (zc 0) (zb (mC (.i 13)) (zb (zc 5) (zb (zc 1) (zb (zc 3) zk))))))))
  (vH (vz 7 (hF [] r8))
  (vH (b9 [false,false,false,false,false,false,true] (yr (zc 6)) fE UR)
  (vH (vz 9 (hP [true,true] (mOp pIx (zc 1) (mOp zX (zh zO (zb (zc 0) (zb (mC (.i 56)) (zb (mC (.i 65537)) zk)))) (zh QR (zb (zc 1) zk))))))
  (vH (vz 10 (h_ Kb (ZE (QW 6) (ZE (QW 3) (ZE (hP [true] (mOp zX (zh zR (zb (zc 0) (zb (mC (.i 57)) zk))) (mOp aa (mC (.i 3)) (mC (.i 14))))) CL)))))
  (vH (vz 11 (hP [true] (mOp zX (zh zO (zb (zc 0) (zb (mC (.i 58)) (zb (mC (.i 65519)) zk)))) (mC (.i 12)))))
  (vH (hIf (hPT [false,false,false,false,false,false,false,false,false,false,false,true] (z0 (U_ pLe pLe (mC (.i 1)) (zc 11) (mC (.i 3))))) (vz 10 (hP [true,false,false,false,false,true,false,false,false,false,true,true] (zh ja (zb (zc 10) (zb (zc 5) (zb (mOp d_ (zc 11) (mC (.i 1))) (zb (zh zO (zb (zc 0) (zb (mC (.i 59)) (zb (mC (.i 65497)) zk)))) zk))))))) Vf)
  (vH (hIf (hPT [false,false,false,false,false,false,false,false,false,false,false,true] (z0 (mOp (vD false) (zc 11) (mC (.i 4))))) (vz 9 (hP [false,true] (zh yN (zb (zc 1) zk)))) Vf)
  (vH (vz 12 (hP [false,true,true,false,false,false,true] (zh (mkV 10 qE) (zb (zh qr (zb (zh kM (zb (zc 1) zk)) (zb (zh kM (zb (zc 2) zk)) zk))) (zb (zh kM (zb (zc 6) zk)) zk)))))
  (vH (vz 13 (hWm [false,false,false,true,false,false,false,false,false,true,true,false,false,false,false,false,false] [false,false,false,true,false,false,false,true,false,true,true] (zh y9 (zb (zc 9) (zb (zc 10) (zb (zc 7) (zb (zc 3) zk)))))))
  (vH (vz 14 (hP [false,false,false,false,false,false,false,false,false,false,true] (zh kM (zb (zc 10) zk))))
  (vH (vz 15 (h_ z8 (ZE (QW 12) (ZE (QW 9) (ZE (QW 14) CL)))))
  (vH (hIf (hPT [false,false,false,false,false,false,false,false,false,false,true,false,false,true,true,true] (mOr (Ci (z0 (zh yg (zb (zc 15) (zb (zc 13) zk))))) (z0 (mOp (vD true) (zc 14) (zc 10))))) (mO (hP [] (mC (.b false)))) Vf)
  (vH (hIf (hPT [false,false,false,false,false,false,false,false,false,false,false,false,false,false,false,true] (z0 (mOp (vD false) (mOp pIx (zc 15) (mC (.i 0))) (mC (.s "told"))))) (O4 (hIx (QW 15) (hP [] (mC (.i 1))))) Vf)
  (vH (b9 [false,true] (yr (zc 1)) Zk Zl)
  (mO (hP [false,true,false,false,false,false,false,false,false,true,false,false,true,true,true] (gY (zh yg (zb (zh (vOf z8) (zb (zc 12) (zb (zc 9) (zb (zc 14) zk)))) (zb (zc 13) zk))) (mOp (vD false) (zh jc (zb (zc 12) (zb (mOp pIx (zc 1) (mC (.i 0))) (zb (QP zk) zk)))) (QP zk)))))))))))))))))))))))))
def E9:List HV->AH->HX HV:=Bz 17 E8
def qF(T:Txt K mg a):qd P w K mg base (CXe P w) 1 a.zR a.Wb ["_law_script","_law_k"] (lsp (WW K a) false [true,true] zR):=
 zE (ms:=Y3) (S':=[1,1]) (Sb:=[]) (Sc:=[]) T.yw.F cf rfl rfl rfl (by decide) λc A b s H E d=>
  (zf (qi (yT bX bY (ev 1) (j4 rfl T.Yp (za (ev 0) ze)) (yW _))
    (zm (yQ (ix d (ev 0) (ev 1))))
    z6)
   (zm (yQ ei)))
def fF(T:Txt K mg a):qd P w K mg base (CXe P w) 1 a.qA a.Wc ["_law_names_here","_law_ways_here"] (lsp (WW K a) true [true,true] qA):=
 zE (ms:=VX) (S':=[1,1,0,0,0,0,0,0,0]) (Sb:=[]) (Sc:=[]) T.jh.F yd rfl rfl rfl (by decide) λd A c s H E b=>
  (zf (vU (i:=2) yd.nd rfl (.inl rfl) CT)
   (zf (jo (zD ⟨rfl,rfl⟩) rfl (vy (Yn (pv 0))) (gn 3 yd.nd)
    (zm (mR (qu b) (pv 2) (za (zl (pv 3)) (za (zl (pv 3)) ze)) ei)))
   (zf (jo (zD ⟨rfl,rfl⟩) rfl (vy (Yn (pv 1))) (oO (n:=3) rfl (vV (gn 4 yd.nd) (vV (gn 5 yd.nd) (vV (gn 6 yd.nd) oN QU) QU) QU))
    (zm (mR (qu b) (pv 2) (za (zl (pv 4)) (za (zl (pv 5)) ze)) (oJ rfl rfl T.sC (za (ev 6) (za (xY (qu b) (ev 2) (za (zl (pv 4)) (za (zl (pv 5)) ze)) (ev 6) ⟨rfl,rfl,rfl,rfl⟩) ze))))))
   (zf (jo (zD ⟨rfl,rfl⟩) rfl (vy (Yn (pv 0))) (gn 7 yd.nd)
    (zm (jo (zD ⟨rfl,rfl⟩) rfl (vy (Yn (pv 0))) (gn 4 yd.nd)
    (zm (jo (zD ⟨rfl,rfl⟩) rfl (vy (Yn (pv 0))) (gn 5 yd.nd)
    (zm (qi (TWM.tm (QQ (xO (qu b) (za (zl (pv 4)) (za (zl (pv 7)) ze)) (ev 2)) (ZA (xO (qu b) (za (zl (pv 7)) (za (zl (pv 5)) ze)) (ev 2)))))
    (zf (se 8 yd.nd (zt zB zC (ay (qu b) (ev 2) (za (zl (pv 4)) (za (zl (pv 7)) ze))) (ay (qu b) (ev 2) (za (zl (pv 7)) (za (zl (pv 5)) ze)))))
   (zm (mR (qu b) (pv 2) (za (zl (pv 4)) (za (zl (pv 5)) ze)) (oJ rfl rfl T.sC (za (ev 8) (za (xY (qu b) (ev 2) (za (zl (pv 4)) (za (zl (pv 5)) ze)) (ev 8) ⟨rfl,rfl,rfl,rfl⟩) ze))))))
    z6)))))))
   (zm (Vb (pv 2)))))))
def XG(T:Txt K mg a):qd P w K mg base (CXe P w) 1 a.yM a.XR ["_law_one","_law_other","_law_lengths_here"] (lsp (WW K a) false [true,true,true] yM):=
 zE (ms:=Xo) (S':=[1,1,1,0]) (Sb:=[]) (Sc:=[]) T.kQ.F VL rfl rfl rfl (by decide) λd A c s H E b=>
  (zf (se 3 VL.nd (qp (za (ix b (ev 0) ei) (za (ix b (ev 1) ei) ze))))
   (zm (yQ (uJ (MB (qu b) (ev 3) (ev 2)) (uI (oB rE rV (zt zB zC (ix b (ev 0) ei) (My (qu b) (ev 2) (ev 3))) (ix b (ev 1) ei) (yW _)))))))
def cI(T:Txt K mg a):qd P w K mg base (CXe P w) 1 a.Z8 a.Yb ["self","most"] (xl a.qo ["most"]):=by
 refine T.cu.okX aG (λi H Q E h=>by obtain⟨e,d,rfl,b,_⟩:=h;rw[S0,b];rfl) λf A c s H i Q E j h=>?_;obtain⟨e,d,rfl,b,g,k⟩:=h
 match d,b with
 |[v],_=>exact⟨_,kY (k7 (pv 0) (pv 1) rfl),_,rfl,_,rfl,e,a.qo,.none,rfl,T.Yq,T.aW,.inl ⟨g,k⟩⟩
def Kw(T:Txt K mg a):qd P w K mg base (CXe P w) 1 a.Z9 a.Yc ["self","name"] (xl a.qa ["name"]):=by
 refine T.cz.okX aH (λi H Q E h=>by obtain⟨e,d,rfl,b,_⟩:=h;rw[S0,b];rfl) λf A c s H i Q E j h=>?_;obtain⟨e,d,rfl,b,g,k⟩:=h
 match d,b with
 |[v],_=>exact⟨_,kY (k7 (pv 0) (pv 1) rfl),_,rfl,_,rfl,e,a.qa,.none,rfl,T.jO,T.aV,.inl ⟨g,k⟩⟩
def iJ(T:Txt K mg a):qd P w K mg base (CXe P w) 1 a.Jr a.Ju ["self","name"] (xl a.jT ["name"]):=by
 refine T.iu.okX ff (λi H Q E h=>by obtain⟨e,d,rfl,b,_⟩:=h;rw[S0,b];rfl) λf A c s H i Q E j h=>?_;obtain⟨e,d,rfl,b,g,k⟩:=h
 match d,b with
 |[v],_=>exact⟨_,kY (k7 (pv 0) (pv 1) rfl),_,rfl,_,rfl,e,a.jT,.none,rfl,T.Je,T.fu,.inl ⟨g,k⟩⟩
def cJ(T:Txt K mg a):qd P w K mg base (CXe P w) 1 a.Z_ a.Yd ["self","name"] (xl a.zT ["name"]):=by
 refine T.cA.okX aI (λi H Q E h=>by obtain⟨e,d,rfl,b,_⟩:=h;rw[S0,b];rfl) λf A c s H i Q E j h=>?_;obtain⟨e,d,rfl,b,g,k⟩:=h
 match d,b with
 |[v],_=>exact⟨_,kY (k7 (pv 0) (pv 1) rfl),_,rfl,_,rfl,e,a.zT,.none,rfl,T.kT,T.aX,.inl ⟨g,k⟩⟩
def Ui(T:Txt K mg a):qd P w K mg base (CXe P w) 1 a.vn a.vo ["self","value"] (xl a.yo ["value"]):=by
 refine T.Ue.okX WX (λi H Q E h=>by obtain⟨e,d,rfl,b,_⟩:=h;rw[S0,b];rfl) λf A c s H i Q E j h=>?_;obtain⟨e,d,rfl,b,g,k⟩:=h
 match d,b with
 |[v],_=>exact⟨_,kY (k7 (pv 0) (pv 1) rfl),_,rfl,_,rfl,e,a.yo,.none,rfl,T.kh,T.VR,.inl ⟨g,k⟩⟩
def bg(T:Txt K mg a):qd P w K mg base (CXe P w) 1 a.wO a.wR ["self","name"] (xl a.yD ["name"]):=by
 refine T.aR.okX Uc (λi H Q E h=>by obtain⟨e,d,rfl,b,_⟩:=h;rw[S0,b];rfl) λf A c s H i Q E j h=>?_;obtain⟨e,d,rfl,b,g,k⟩:=h
 match d,b with
 |[v],_=>exact⟨_,kY (k7 (pv 0) (pv 1) rfl),_,rfl,_,rfl,e,a.yD,.none,rfl,T.jG,T.Uh,.inl ⟨g,k⟩⟩
def XH(T:Txt K mg a):qd P w K mg base (CXe P w) 1 a.Js a.Jv ["self","origin","goal"] (xl a.yp ["origin","goal"]):=by
 refine T.iy.okX fg (λo H Q E h=>by obtain⟨e,n,rfl,l,_⟩:=h;rw[S0,l];rfl) λr A i s H o Q E y h=>?_;obtain⟨e,n,rfl,l,m,k⟩:=h
 match n,l with
 |[v,u],_=>
  have j:∀{c},H c=none->c≠e:=λh z=>by rw[z,m]at h;cases h
  exact⟨_,Uy (k7 (pv 0) (pv 1) rfl) (kY (k7 (pv 0) (pv 2) rfl)),_,rfl,_,rfl,e,a.yp,.none,rfl,T.ZS,T.aY,.inl ⟨m,λc g=>⟨_,rfl,_,rfl,e,a.yp,.none,rfl,T.ZS,T.fB,.inr ⟨c,[(("origin":Str),v)],by rw[zg],by rw[zi (j g),zg],j g,(show 1<1000 by decide),by
   have q:=k c g;have x:Vx ("goal":Str) u [(("origin":Str),v)]=[(("origin":Str),v),(("goal":Str),u)]:=rfl;rw[x];have p:∀{A B C:HO},upd (upd (upd H c A) e B) c C=upd (upd H c C) e B:=λ{A B C}=>funext λb=>by
    by_cases f:b=c
    .subst f;rw[zg,zi (j g),zg]
    .rw[zi f];by_cases d:b=e
     .subst d;rw[zg,zg]
     .rw[zi d,zi d,zi f,zi f]
   rw[p];exact q⟩⟩⟩⟩
def cK(T:Txt K mg a):qd P w K mg base (CXe P w) 1 a.Ya a.Yf ["self","name"] (xl a.qb ["name"]):=by
 refine T.cD.okX aL (λi H Q E h=>by obtain⟨e,d,rfl,b,_⟩:=h;rw[S0,b];rfl) λf A c s H i Q E j h=>?_;obtain⟨e,d,rfl,b,g,k⟩:=h
 match d,b with
 |[v],_=>exact⟨_,kY (k7 (pv 0) (pv 1) rfl),_,rfl,_,rfl,e,a.qb,.none,rfl,T.kU,T.a8,.inl ⟨g,k⟩⟩
def Uj(T:Txt K mg a):qd P w K mg base (CXe P w) 1 a.zG a.Qq ["trip"] (lsp (WW K a) false [true] zG):=
 zE (ms:=Qk) (S':=[1]) (Sb:=[]) (Sc:=[]) T.qJ.F WZ rfl rfl rfl (by decide) λd A c s H E b=>
  (zm (yQ (qp (za (ix b (ev 0) (z7 (zy (v:=.int 3) rfl T.ZR ⟨_,rfl⟩))) (za (ix b (ev 0) (z7 (zy (v:=.int 4) rfl T.vJ ⟨_,rfl⟩))) (za (ix b (ev 0) (z7 (zy (v:=.int 0) rfl T.Xm ⟨_,rfl⟩))) ze))))))
def nh(T:Txt K mg a):qd P w K mg base (CXe P w) 1 a.kj a.bG ["_law_row_here","_law_home","_law_lengths_here"] (lsp (WW K a) true [true,false,true] kj):=
 zE (ms:=a9) (S':=[1,0,1,0,0,0,0,0]) (Sb:=[]) (Sc:=[]) T.kf.F yY rfl rfl rfl (by decide) λd A c s H E b=>
  (zf (vU (i:=3) yY.nd rfl (.inl rfl) (jn ze))
   (zf (se 4 yY.nd (zl (pv 1)))
   (zf (se 5 yY.nd (VA Vv))
   (zf (jo (zD ⟨rfl,rfl⟩) rfl (vy (Yn (pv 0))) (gn 6 yY.nd)
    (zf (se 7 yY.nd (ay (qu b) (ev 2) (za (zl (pv 4)) (za (ix b (ev 6) ei) ze))))
   (zf (qi (yT n8 oF (ev 5) (VA Vv) (yW _))
    (zm (se 5 yY.nd (zt QK QM (ix b (ev 6) ei) (ev 7))))
    z6)
   (zf (qi (yT gw gX (ev 7) ei (yW _))
    (zm (qH (pv 3) (qp (za (qg qY) (za (zl (pv 5)) (za (zt zB zC (ev 5) (ev 7)) ze))))))
    z6)
   (zf (qi (yT bX bY (zt zB zC (ev 5) (ev 7)) (ix b (ev 6) ei) (yW _))
    (zm (qH (pv 3) (qp (za (qg qY) (za (zt zB zC (ev 5) (ev 7)) (za (ix b (ev 6) ei) ze))))))
    z6)
   (zf (qH (pv 3) (qp (za (qg qY) (za (ix b (ev 6) ei) (za (ix b (ev 6) ei) ze)))))
   (zf (se 4 yY.nd (ix b (ev 6) ei))
   (zm (se 5 yY.nd (ix b (ev 6) ei))))))))))
   (zf (qi (TWM.tm (QQ (mz b.units (ev 0) (FM.em (jn ze))) (ZA (yT gw gX (ay (qu b) (ev 2) (za (zl (pv 4)) (za (zl (pv 1)) ze))) ei (yW _)))))
    (zm (qH (pv 3) (qp (za (qg qY) (za (zl (pv 5)) (za (zt zB zC (ev 5) (ay (qu b) (ev 2) (za (zl (pv 4)) (za (zl (pv 1)) ze)))) ze))))))
    z6)
   (zm (Vb (pv 3))))))))
def fG(T:Txt K mg a):qd P w K mg base (CXe P w) 1 a.Qa a.Qb ["self","name"] (xl a.z_ ["name"]):=by
 refine T.fj.okX cj (λi H Q E h=>by obtain⟨e,d,rfl,b,_⟩:=h;rw[S0,b];rfl) λf A c s H i Q E j h=>?_;obtain⟨e,d,rfl,b,g,k⟩:=h
 match d,b with
 |[v],_=>exact⟨_,kY (k7 (pv 0) (pv 1) rfl),_,rfl,_,rfl,e,a.z_,.none,rfl,T.Ze,T.cF,.inl ⟨g,k⟩⟩
def bh(T:Txt K mg a):qd P w K mg base (CXe P w) 1 a.wQ a.wU ["self","first","second"] (xl a.zz ["first","second"]):=by
 refine T.aT.okX Ud (λo H Q E h=>by obtain⟨e,n,rfl,l,_⟩:=h;rw[S0,l];rfl) λr A i s H o Q E y h=>?_;obtain⟨e,n,rfl,l,m,k⟩:=h
 match n,l with
 |[v,u],_=>
  have j:∀{c},H c=none->c≠e:=λh z=>by rw[z,m]at h;cases h
  exact⟨_,Uy (k7 (pv 0) (pv 1) rfl) (kY (k7 (pv 0) (pv 2) rfl)),_,rfl,_,rfl,e,a.zz,.none,rfl,T.jj,T.W3,.inl ⟨m,λc g=>⟨_,rfl,_,rfl,e,a.zz,.none,rfl,T.jj,T.VU,.inr ⟨c,[(("first":Str),v)],by rw[zg],by rw[zi (j g),zg],j g,(show 1<1000 by decide),by
   have q:=k c g;have x:Vx ("second":Str) u [(("first":Str),v)]=[(("first":Str),v),(("second":Str),u)]:=rfl;rw[x];have p:∀{A B C:HO},upd (upd (upd H c A) e B) c C=upd (upd H c C) e B:=λ{A B C}=>funext λb=>by
    by_cases f:b=c
    .subst f;rw[zg,zi (j g),zg]
    .rw[zi f];by_cases d:b=e
     .subst d;rw[zg,zg]
     .rw[zi d,zi d,zi f,zi f]
   rw[p];exact q⟩⟩⟩⟩
def fH(T:Txt K mg a):qd P w K mg base (CXe P w) 1 a.yx a.Qc ["self"] (lsp (WW K a) true [true] yx):=
 zE (ms:=VZ) (S':=[1]) (Sb:=[]) (Sc:=[]) T.fm ck rfl rfl rfl (by decide) λc A b s H E d=>
  (zm (eE (vF rfl rfl T.Qh (za (vR (ev 0) (fa ⟨T.qW,T.jP⟩ fz)) ze))))
def fI(T:Txt K mg a):qd P w K mg base (CXe P w) 1 a.y8 a.Qd ["self"] (lsp (WW K a) true [true] y8):=
 zE (ms:=V0) (S':=[1]) (Sb:=[]) (Sc:=[]) T.fq cn rfl rfl rfl (by decide) λc A b s H E d=>
  (zm (eE (vF rfl rfl T.Qh (za (vR (ev 0) (fa ⟨T.z9,T.Kl⟩ fz)) ze))))
def Kx(T:Txt K mg a):qd P w K mg base (CXe P w) 1 a.yN a.KA ["_law_names_here"] (lsp (WW K a) false [true] yN):=
 zE (ms:=Km) (S':=[1,0]) (Sb:=[]) (Sc:=[]) T.jq.F Q9 rfl rfl rfl (by decide) λc A b s H E d=>
  (zf (jo (zD ⟨rfl,rfl⟩) rfl (Vc rfl T.YN (za (zt zB zC (j4 rfl T.Yp (za (ev 0) ze)) ei) ze)) (gn 1 Q9.nd)
    (zm (qi (JS (qu d) (zt zB zC (qg qY) (xN rfl T.Dg (za (ev 1) ze))) (ev 0))
    (zm (yQ (zt zB zC (qg qY) (xN rfl T.Dg (za (ev 1) ze)))))
    z6)))
   (zm (yQ (qg qY))))
def cL(T:Txt K mg a):qd P w K mg base (CXe P w) 1 a.yO a.KG ["origin","ways"] (lsp (WW K a) true [true,true] yO):=
 zE (ms:=Kn) (S':=[1,1,0,0,0,0,0,0]) (Sb:=[]) (Sc:=[]) T.qQ.F yf rfl rfl rfl (by decide) λd A c s H E b=>
  (zf (vU (i:=2) yf.nd rfl (.inl rfl) (O6 (ev 0) ei))
   (zf (se 3 yf.nd (Ua X8))
   (zf (Cy (zD ⟨rfl,rfl⟩) (Ym (ev 3))
    (zf (se 3 yf.nd (Ua X8))
   (zm (jo (zD ⟨rfl,rfl⟩) rfl (vy (Yn (pv 1))) (oO (n:=3) rfl (vV (gn 4 yf.nd) (vV (gn 5 yf.nd) (vV (gn 6 yf.nd) oN QU) QU) QU))
    (zm (qi (Lu (qu b) (ev 4) (ev 2))
    (zf (se 7 yf.nd (zt zB zC (ix b (ev 2) (ev 4)) (ev 6)))
   (zm (qi (TWM.tm (mq (JS (qu b) (ev 5) (ev 2)) (c8 (yT bX bY (ev 7) (ix b (ev 2) (ev 5)) (yW _)))))
    (zf (Eo (qu b) (pv 2) (ev 5) (zl (pv 7)))
   (zm (se 3 yf.nd (Ua X8))))
    z6)))
    z6))))))
   (zm (Vb (pv 2))))))
def Vq(T:Txt K mg a):qd P w K mg base (CXe P w) 1 a.yg a.bK ["_law_found","_law_due_here"] (lsp (WW K a) false [true,true] yg):=
 zE (ms:=a_) (S':=[1,1,0]) (Sb:=[]) (Sc:=[]) T.kg.F Xl rfl rfl rfl (by decide) λcdv A outer s H E hr=>
  (zf (qi (mz hr.units (ev 0) (ev 1))
    (zm (yQ (Ua X8)))
    z6)
   (zf (qi (mz hr.units (ix hr (ev 1) ei) (qg qY))
    (zm (yQ (Ua X8)))
    z6)
   (zf (qi (gZ (Ym (Xj rfl T.yK (ix hr (ev 0) ei) (dU rfl T.Qh PyProof.Rows.Boot.«list» (v:=.ty "list") rfl) rfl ⟨⟨trivial,T.Jh⟩,trivial⟩)))
    (zm (yQ (Ua X8)))
    z6)
   (zf (jo (zD ⟨rfl,rfl⟩) rfl (vy (EM.en (ix hr (ev 0) ei))) (gn 2 Xl.nd)
    (zm (qi (TWM.tm (mq (gZ (Ym (Xj rfl T.yK (ev 2) (dU rfl T.m8 PyProof.Rows.Boot.«tuple» (v:=.ty "tuple") rfl) rfl ⟨⟨trivial,T.ZT⟩,trivial⟩))) (mq (Ym (Xj rfl T.yK (ix hr (ev 2) ei) (dU rfl T.ph PyProof.Rows.Boot.«bool» (v:=.ty "bool") rfl) rfl ⟨⟨trivial,T.Zf⟩,⟨⟨trivial,T.YT⟩,trivial⟩⟩)) (c8 (Ym (Xj rfl T.yK (ix hr (ev 2) ei) (dU rfl T.ph PyProof.Rows.Boot.«bool» (v:=.ty "bool") rfl) rfl ⟨⟨trivial,T.Zf⟩,⟨⟨trivial,T.YT⟩,trivial⟩⟩))))))
    (zm (yQ (Ua X8)))
    z6)))
   (zm (yQ (Ua X8)))))))
def jd(T:Txt K mg a):qd P w K mg base (CXe P w) 2 a.zO a.i7 ["_law_script","_law_k","_law_prime"] (lsp (WW K a) false [true,true,true] zO):=
 zE (ms:=iG) (S':=[1,1,1]) (Sb:=[]) (Sc:=[]) T.yZ.F sA rfl rfl rfl (by decide) λc A b s H E d=>
  (zm (yQ (zt zK zL (zt QN QO (zt zK zL (ec (qF T) d T.yw zI (za (ev 0) (za (ev 1) ze))) ei) ei) (ev 2))))
def sL(T:Txt K mg a):qd P w K mg base (CXe P w) 2 a.kl a.dM ["_law_script","_law_at","_law_name","_law_places","_law_lengths_here","_law_ahead"] (lsp (WW K a) false [true,true,false,true,true,true] kl):=
 zE (ms:=dq) (S':=[1,1,0,1,1,1,0,0,0,0,0,0,0,0]) (Sb:=[]) (Sc:=[]) T.J7.F yE rfl rfl rfl (by decide) λd A c s H E b=>
  (zf (se 6 yE.nd (ec (qF T) b T.yw zI (za (ev 0) (za (ev 1) ze))))
   (zf (se 7 yE.nd (ec (qF T) b T.yw zI (za (ev 0) (za (EM.weak (zt zB zC (ev 1) ei)) ze))))
   (zf (se 8 yE.nd (ec (qF T) b T.yw zI (za (ev 0) (za (EM.weak (zt zB zC (ev 1) ei)) ze))))
   (zf (se 9 yE.nd (ix b (ev 3) (zt zK zL (ev 6) (j4 rfl T.Yp (za (ev 3) ze)))))
   (zf (se 10 yE.nd (ix b (ev 3) (zt zK zL (zt Zy Zz (ev 6) ei) (j4 rfl T.Yp (za (ev 3) ze)))))
   (zf (qi (VG (qu b) (za (zl (pv 9)) (za (zl (pv 10)) ze)) (ev 4))
    (zm (se 10 yE.nd (zl (pv 9))))
    z6)
   (zf (se 11 yE.nd (ix b (FM.em (jn (za ei (za (zt zK zL (ev 8) ei) (za (zt zK zL (ev 7) ei) (za (zt zK zL (ev 8) (zt c5 WE ei ei)) ze)))))) (zt zK zL (zt Zy Zz (ev 6) ei) ei)))
   (zf (se 12 yE.nd (El rfl rfl T.Df (za ei (za (zt zB zC (ay (qu b) (ev 4) (za (zl (pv 9)) (za (zl (pv 10)) ze))) (ev 11)) ze))))
   (zf (se 13 yE.nd (ix b (FM.em (jn (za (zt zK zL (ev 7) ei) (za (zt zK zL (ev 7) ei) (za (zt zK zL (ev 7) (zt c5 WE ei ei)) ze))))) (zt zK zL (zt Zy Zz (ev 6) ei) ei)))
   (zf (qi (TWM.tm (QQ (bZ b.units (zt zK zL (zt Zy Zz (ev 6) ei) ei) ei) (QQ (yT t8 uH (ev 5) (VA Vv) (yW _)) (ZA (xO (qu b) (za (ix b (ev 5) ei) (za (zl (pv 9)) ze)) (ev 4))))))
    (zm (se 13 yE.nd (zt QK QM (zt zB zC (zt zB zC (ix b (ev 5) ei) (ay (qu b) (ev 4) (za (ix b (ev 5) ei) (za (zl (pv 9)) ze)))) (zt zK zL (ev 7) ei)) ei)))
    z6)
   (zf (se 13 yE.nd (oJ rfl rfl T.sC (za (ev 13) (za (zt QK QM (zt c5 WE ei ei) (ev 12)) ze))))
   (zm (yQ (qp (za (zl (pv 2)) (za (zl (pv 9)) (za (zl (pv 10)) (za (zl (pv 13)) (za (zt zB zC (ev 13) (ev 12)) (za (zt zK zL (zt Zy Zz (ev 8) ei) (zt zB zC (zt c5 WE ei ei) ei)) ze))))))))))))))))))))
def iK(T:Txt K mg a):qd P w K mg base (CXe P w) 2 a.y9 a.i8 ["_law_home","_law_row_here","_law_by","_law_lengths_here"] (lsp (WW K a) false [false,true,true,true] y9):=
 zE (ms:=iH) (S':=[0,1,1,1,0,0]) (Sb:=[]) (Sc:=[]) T.Jc.F W0 rfl rfl rfl (by decide) λd A c s H E b=>
  (zf (qi (VG (qu b) (za (zl (pv 0)) (za (zl (pv 0)) ze)) (ev 3))
    (zm (yQ (qp (za (qg qY) (za (zl (pv 0)) ze)))))
    z6)
   (zf (jo (zD ⟨rfl,rfl⟩) rfl (vy (Yn (pv 1))) (gn 4 W0.nd)
    (zm (qi (JS (qu b) (ev 4) (ev 2))
    (zm (yQ (qp (za (qg qY) (za (zl (pv 4)) ze)))))
    z6)))
   (zf (jo (zD ⟨rfl,rfl⟩) rfl (Vc rfl T.YN (za (zt QK QM (j4 rfl T.Yp (za (ev 1) ze)) ei) ze)) (gn 5 W0.nd)
    (zm (qi (gZ (Ym (ec (XG T) b T.kQ zI (za (EM.weak (ix b (ev 2) (ix b (ev 1) (ev 5)))) (za (EM.weak (ix b (ev 2) (ix b (ev 1) (zt zB zC (ev 5) ei)))) (za (ev 3) ze))))))
    (zm (yQ (qp (za (qg qY) (za (ix b (ev 1) (ev 5)) (za (ix b (ev 1) (zt zB zC (ev 5) ei)) ze))))))
    z6)))
   (zf (qi (TWM.tm (QQ (mz b.units (ev 1) (FM.em (jn ze))) (ZA (VG (qu b) (za (zl (pv 0)) (za (ix b (ix b (ev 2) (ix b (ev 1) ei)) ei) ze)) (ev 3)))))
    (zm (yQ (qp (za (qg qY) (za (zl (pv 0)) (za (ix b (ix b (ev 2) (ix b (ev 1) ei)) ei) ze))))))
    z6)
   (zf (qi (TWM.tm (QQ (mz b.units (ev 1) (FM.em (jn ze))) (ZA (VG (qu b) (za (ix b (ix b (ev 2) (ix b (ev 1) (Ce n6 oE ei))) ei) (za (zl (pv 0)) ze)) (ev 3)))))
    (zm (yQ (qp (za (qg qY) (za (ix b (ix b (ev 2) (ix b (ev 1) (Ce n6 oE ei))) ei) (za (zl (pv 0)) ze))))))
    z6)
   (zm (yQ (qp (za (qg qY) (za (FM.em (Yz (nh T) (rm b) rfl T.kf.g T.kf.k T.kf.b zI (za (EM.weak (FM.em (rY ["_law_name","_law_by"] [none,some 2] [0,1] rfl (by kernel_rfl) (WI (ev 1)) (λ_=>(QT (i:=0) (show List.Nodup (["_law_name","_law_by"]:List Str)from by decide +kernel) rfl (.inl rfl))) (λ_=>de) (λ_=>(ix b (ev 1) (ev 0)))))) (za (zl (pv 0)) (za (ev 3) ze))))) ze))))))))))
def iL(T:Txt K mg a):qd P w K mg base (CXe P w) 2 a.ja a.XU ["_law_row_here","_law_names_here","_law_way","_law_cell"] (lsp (WW K a) false [false,true,true,true] ja):=
 zE (ms:=Xq) (S':=[0,1,1,1,0]) (Sb:=[]) (Sc:=[]) T.Zb.F VO rfl rfl rfl (by decide) λd A c s H E b=>
  (zf (se 4 VO.nd (zt zK zL (ev 3) (zt zB zC (j4 rfl T.Yp (za (ev 0) ze)) ei)))
   (zf (qi (bZ b.units (ev 2) ei)
    (zm (yQ (zt zB zC (zt zB zC (vE (ev 0) vS (vT (ev 4))) (FM.em (jn (za (ec (Kx T) b T.jq zI (za (ev 1) ze)) ze)))) (vE (ev 0) (vT (ev 4)) vS))))
    z6)
   (zf (qi (TWM.tm (QQ (bZ b.units (ev 2) ei) (ZA (yT bX bY (zt zB zC (ev 4) ei) (j4 rfl T.Yp (za (ev 0) ze)) (yW _)))))
    (zm (yQ (zt zB zC (zt zB zC (vE (ev 0) vS (vT (ev 4))) (FM.em (jn (za (ix b (ev 0) (zt zB zC (ev 4) ei)) (za (ix b (ev 0) (ev 4)) ze))))) (vE (ev 0) (vT (zt zB zC (ev 4) ei)) vS))))
    z6)
   (zf (qi (TWM.tm (QQ (bZ b.units (ev 2) ei) (ZA (yT bX bY (ev 4) (j4 rfl T.Yp (za (ev 0) ze)) (yW _)))))
    (zm (yQ (zt zB zC (zt zB zC (vE (ev 0) vS (vT (ev 4))) (FM.em (jn (za (ix b (ev 0) (ev 4)) ze)))) (vE (ev 0) (vT (ev 4)) vS))))
    z6)
   (zm (yQ (zl (pv 0))))))))
def bj(T:Txt K mg a):qd P w K mg base (CXe P w) 3 a.qB a.bD ["_law_script","_law_at","_law_many"] (lsp (WW K a) true [true,true,true] qB):=
 zE (ms:=ba) (S':=[1,1,1,0,0,0,0,0,0,0,0]) (Sb:=[]) (Sc:=[]) T.qz.F yA rfl rfl rfl (by decide) λd A c s H E b=>
  (zf (uX (i:=3) yA.nd rfl (by first|exact .inl rfl|exact .inr rfl) (qg qY))
   (zf (uX (i:=4) yA.nd rfl (by first|exact .inl rfl|exact .inr rfl) (zt zK zL (ec (qF T) b T.yw zI (za (ev 0) (za (ev 1) ze))) ei))
   (zf (OQ (i:=5) ["_law_j","_law_cell"] [none,some 4] [0,0] yA.nd rfl rfl rfl (by kernel_rfl) (Vc rfl T.YN (za ei ze)) (λ_=>(QT (i:=0) (show List.Nodup (["_law_j","_law_cell"]:List Str)from by decide +kernel) rfl (.inl rfl))) (λ_=>de) (λ_=>(zt zK zL (zt zK zL (zt zB zC (zt QN QO (ev 1) ei) (zt QN QO (zt QN QO ei (ev 0)) (ev 0))) ei) ei)))
   (zf (se 6 yA.nd (ec (jd T) b T.yZ zI (za (ev 0) (za (EM.weak (zt zB zC (ev 1) ei)) (za (EM.weak ei) ze)))))
   (zf (vU (i:=7) yA.nd rfl (.inl rfl) (jn ze))
   (zf (jo (zD ⟨rfl,rfl⟩) rfl (Vc rfl T.YN (za (ev 2) ze)) (gn 8 yA.nd)
    (Ge (S1:=[1,1,1,0,0,0,0,2,0,2,0]) 9 (zf (vU (i:=9) yA.nd rfl (.inl rfl) (LP (by exact(FM.em (vF rfl rfl T.Qh (za (vE (ev 5) vS (vT (zt zB zC ei (zt zK zL (ev 4) ei)))) ze)))) (by exact(zt QN QO (vE (ev 5) (vT ei) vS) (zt zK zL (ev 8) ei)))))
   (zf (se 10 yA.nd (zt zK zL (zt Zy Zz (ev 6) ei) (j4 rfl T.Yp (za (ev 9) ze))))
   (zf (Gh (pv 9) (ev 10) (zt zK zL (zt zB zC (ix b (ev 9) (ev 10)) (ev 8)) ei))
   (zf (qi (TWM.tm (QQ (bZ b.units (zt zK zL (ev 6) ei) ei) (ZA (yT rE rV (ev 2) ei (yW _)))))
    (zm (vU (i:=9) yA.nd rfl (.inl rfl) (oM (ev 5) vS (vT (zt zB zC ei (ev 8))))))
    z6)
   (zf (qi (TWM.tm (QQ (bZ b.units (zt zK zL (ev 6) ei) ei) (ZA (yT rE rV (ev 2) ei (yW _)))))
    (zm (vU (i:=9) yA.nd rfl (.inl rfl) (oM (ev 5) vS (vT (zt QK QM (ev 2) (ev 8))))))
    z6)
   (zm (qH (pv 7) (GB (qg qY) (FM.em (rY ["_law_x","_law_some"] [none,some 3] [0,0] rfl (by kernel_rfl) (WI (ev 9)) (λ_=>(QT (i:=0) (show List.Nodup (["_law_x","_law_some"]:List Str)from by decide +kernel) rfl (.inl rfl))) (λ_=>de) (λ_=>(ix b (ev 1) (ev 0)))))))))))))))
   (zm (Vb (pv 7)))))))))
def sO(T:Txt K mg a):qd P w K mg base (CXe P w) 3 a.km a.dJ ["_law_script","_law_at","_law_names_here"] (lsp (WW K a) true [true,true,true] km):=
 zE (ms:=dr) (S':=[1,1,1,0,0,0,0,0]) (Sb:=[]) (Sc:=[]) T.vP.F jC rfl rfl rfl (by decide) λd A c s H E b=>
  (zf (se 3 jC.nd (j4 rfl T.Yp (za (ev 2) ze)))
   (zf (se 4 jC.nd (ix b (FM.em (jn (za ei (za ei (za ei (za (zt QN QO ei (zt c5 WE ei ei)) ze)))))) (zt zK zL (ec (jd T) b T.yZ zI (za (ev 0) (za (ev 1) (za (EM.weak ei) ze)))) ei)))
   (zf (vU (i:=5) jC.nd rfl (.inl rfl) (jn ze))
   (zf (qi (yT gw gX (zt zK zL (ec (jd T) b T.yZ zI (za (ev 0) (za (EM.weak (zt zB zC (ev 1) ei)) (za (EM.weak ei) ze)))) ei) ei (yW _))
    (zm (jo (zD ⟨rfl,rfl⟩) rfl (Vc rfl T.YN (za (ev 3) ze)) (gn 6 jC.nd)
    (zm (qH (pv 5) (qp (za (ix b (ev 2) (ev 6)) (za (ix b (ev 2) (zt zK zL (zt zB zC (ev 6) ei) (ev 3))) (za (zt zB zC ei (zt zK zL (ec (jd T) b T.yZ zI (za (ev 0) (za (EM.weak (zt zB zC (ev 1) (ev 6))) (za (EM.weak ei) ze)))) (ev 4))) ze))))))))
    z6)
   (zf (jo (zD ⟨rfl,rfl⟩) rfl (Vc rfl T.YN (za (zt zK zL (ec (jd T) b T.yZ zI (za (ev 0) (za (EM.weak (zt zB zC (ev 1) ei)) (za (EM.weak ei) ze)))) ei) ze)) (gn 6 jC.nd)
    (zf (se 7 jC.nd (ec (qF T) b T.yw zI (za (ev 0) (za (EM.weak (zt zB zC (ev 1) (ev 6))) ze))))
   (zm (qH (pv 5) (qp (za (ix b (ev 2) (zt zK zL (ev 7) (ev 3))) (za (ix b (ev 2) (zt zK zL (zt Zy Zz (ev 7) (ev 3)) (ev 3))) (za (zt zB zC ei (zt zK zL (zt Zy Zz (ev 7) ei) (ev 4))) ze))))))))
   (zm (Vb (pv 5))))))))
def nj(T:Txt K mg a):qd P w K mg base (CXe P w) 3 a.jD a.bE ["_law_script","_law_at","_law_names_here","_law_places","_law_lengths_here"] (lsp (WW K a) true [true,true,true,true,true] jD):=
 zE (ms:=bb) (S':=[1,1,1,1,1,0,0,0]) (Sb:=[]) (Sc:=[]) T.ke.F kN rfl rfl rfl (by decide) λd A c s H E b=>
  (zf (vU (i:=5) kN.nd rfl (.inl rfl) (jn ze))
   (zf (jo (zD ⟨rfl,rfl⟩) rfl (Vc rfl T.YN (za (j4 rfl T.Yp (za (ev 2) ze)) ze)) (gn 6 kN.nd)
    (zf (se 7 kN.nd (VA Vv))
   (zf (qi (yT gw gX (ev 6) ei (yW _))
    (zm (se 7 kN.nd (ix b (ev 5) (zt zK zL (ec (jd T) b T.yZ zI (za (ev 0) (za (EM.weak (zt zB zC (zt zB zC (ev 1) (zt QN QO ei (ev 6))) ei)) (za (EM.weak ei) ze)))) (ev 6)))))
    z6)
   (zm (qH (pv 5) (ec (sL T) b T.J7 zI (za (ev 0) (za (EM.weak (zt zB zC (ev 1) (zt QN QO ei (ev 6)))) (za (ix b (ev 2) (ev 6)) (za (ev 3) (za (ev 4) (za (ev 7) ze))))))))))))
   (zm (Vb (pv 5)))))
def Jn(T:Txt K mg a):qd P w K mg base (CXe P w) 3 a.y_ a.XS ["things","most"] (lsp (WW K a) false [true,false] y_):=
 zE (ms:=Xt) (S':=[1,0]) (Sb:=[]) (Sc:=[]) T.jF.F fe rfl rfl rfl (by decide) λd A b s H E e=>
  (zm (qi (yT gw gX (j4 rfl T.Yp (za (ev 0) ze)) (ev 1) (yW _))
    (zm (jr (c:=3) rfl T.Ad T.Yq (cI T) (rm e) rfl T.aN T.cy (za (zl (pv 1)) ze)))
    z6))
def cM(T:Txt K mg a):qd P w K mg base (CXe P w) 3 a.qR a.Ky ["name"] (lsp (WW K a) false [false] qR):=
 zE (ms:=Kr) (S':=[0,0]) (Sb:=[]) (Sc:=[]) T.kB.F Q8 rfl rfl rfl (by decide) λe A d s H E b=>
  (zf (qi (TWM.tm (mq (yT bX bY (j4 rfl T.Yp (za (ev 0) ze)) ei (yW _)) (c8 (yT gw gX (j4 rfl T.Yp (za (ev 0) ze)) (z7 (zy (v:=.int 12) rfl T.ZQ ⟨_,rfl⟩)) (yW _)))))
    (zm (jr (c:=1) rfl T.iE T.jO (Kw T) (rm b) rfl T.VP T.Kj (za (zl (pv 0)) ze)))
    z6)
   (zf (jo (zD ⟨rfl,rfl⟩) rfl (Ml (ev 0)) (gn 1 Q8.nd)
    (zm (qi (JS (qu b) (ev 1) (qg (zy (v:=.str "abcdefghijklmnopqrstuvwxyz0123456789") rfl T.Q_ ⟨_,rfl⟩)))
    (zm (jr (c:=1) rfl T.iE T.jO (Kw T) (rm b) rfl T.VP T.Kj (za (zl (pv 0)) ze)))
    z6)))
   (zm (yQ (zl (pv 0))))))
def jS(T:Txt K mg a):qd P w K mg base (CXe P w) 3 a.yh a.Wd ["name","places"] (lsp (WW K a) false [false,true] yh):=
 zE (ms:=V6) (S':=[0,1]) (Sb:=[]) (Sc:=[]) T.y4.F cg rfl rfl rfl (by decide) λe A b s H E d=>
  (zm (qi (JS (qu d) (ev 0) (ev 1))
    (zm (jr (c:=5) rfl T.Ae T.kT (cJ T) (rm d) rfl T.VQ T.cB (za (zl (pv 0)) ze)))
    z6))
def jw(T:Txt K mg a):qd P w K mg base (CXe P w) 3 a.zV a.Qp ["value","least"] (lsp (WW K a) false [false,true] zV):=
 zE (ms:=Qn) (S':=[0,1]) (Sb:=[]) (Sc:=[]) T.yF.F WY rfl rfl rfl (by decide) λd A b s H E e=>
  (zf (qi (TWM.tm (mq (yT bX bY (ev 0) (ev 1) (yW _)) (c8 (yT gw gX (ev 0) (z7 (zy (v:=.int 1000000000) rfl T.mW ⟨_,rfl⟩)) (yW _)))))
    (zm (jr (c:=2) rfl T.m9 T.kh (Ui T) (rm e) rfl T.Vp T.Ug (za (zl (pv 0)) ze)))
    z6)
   (zm (yQ (zl (pv 0)))))
def qt(T:Txt K mg a):qd P w K mg base (CXe P w) 3 a.zo a.Jx ["self","name"] (lsp (WW K a) false [true,false] zo):=
 zE (ms:=Xu) (S':=[1,0]) (Sb:=[]) (Sc:=[]) T.iB fh rfl rfl rfl (by decide) λe A d s H E b=>
  (zf (qi (JS (qu b) (ev 1) (vR (ev 0) (fa ⟨T.z9,T.qK⟩ fz)))
    (zm (jr (c:=7) rfl T.Dk T.Ze (fG T) (rm b) rfl T.UM T.fk (za (zl (pv 1)) ze)))
    z6)
   (zm (yQ (ix b (vR (ev 0) (fa ⟨T.z9,T.qK⟩ fz)) (ev 1)))))
def sP(T:Txt K mg a)(d:EJ base mg a.Hv a.Hw):qd P w K mg base (CXe P w) 4 a.i6 a.bF ["_law_trips_here","_law_lengths_here","_law_pick"] (hsp (WW K a) 3 Kb):=
 GP (ms:=du) T.kR.F T.pq J3 rfl rfl rfl λA c s H E b=>
  (zH (hse 3 J3.nd (hf (jn ze)))
   (zH (GD (zD ⟨rfl,rfl⟩) rfl (C8 (wk:=true) (k:=0) (N:=["_law_trip_here"]) rfl d rfl rfl rfl (kX (by decide +kernel)) (λj e g s u=>.of_eq rfl) (λf e A c s H h Q E b q=>C6 rfl rfl (by decide) (qp (za (ix b (ev 0) ei) (za (ix b (ev 0) ei) (za (ix b (ev 0) ei) ze)))) q) (rm b) rfl T.UN (YD (j6 (pv 0)) oY)) (eV (i:=4) J3.nd rfl (.inl rfl))
    (zH (b7 (By (S:=[0,0,0,0,0]) (fr:=false) [false,true,true,true,true] (TWM.tm (QQ (yT bX bY (zt zK zL (ev 2) ei) ei (yW _)) (ZA (TWM.tm (mq (bZ b.units (ev 3) (FM.em (jn ze))) (c8 (Ym (ec (XG T) b T.kQ zI (za (EM.weak (ix b (ev 3) (Ce n6 oE ei))) (za (ev 4) (za (ev 1) ze))))))))))))
    (qx (xH (j6 (pv 3)) (j6 (pv 4))))
    ZF)
   (qx (hse 2 J3.nd (hp (zt Zy Zz (ev 2) ei))))))
   (qx (Kh (Pg (S:=[0,0,0,0,0]) (fr:=false) [false,false,false,true] (rY ["_law_trip_here"] [none] [0] rfl (by kernel_rfl) (WI (ev 3)) (λ_=>(QT (i:=0) (show List.Nodup (["_law_trip_here"]:List Str)from by decide +kernel) rfl (.inl rfl))) (λ_=>de) (λ_=>(ix b (ev 0) ei))))))))
def Zm(T:Txt K mg a):qd P w K mg base (CXe P w) 4 a.z4 a.Zp ["name","had"] (lsp (WW K a) false [false,true] z4):=
 zE (ms:=Zi) (S':=[0,1]) (Sb:=[]) (Sc:=[]) T.y3.F Vn rfl rfl rfl (by decide) λe A d s H E b=>
  (zf (yP (ec (cM T) b T.kB zI (za (zl (pv 0)) ze)))
   (zf (qi (Lu (qu b) (ev 0) (ev 1))
    (zm (jr (c:=4) rfl T.GW T.Je (iJ T) (rm b) rfl T.mZ T.iw (za (zl (pv 0)) ze)))
    z6)
   (zm (yQ (zl (pv 0))))))
def qT(T:Txt K mg a):qd P w K mg base (CXe P w) 4 a.zu a.Ye ["self","origin","goal"] (lsp (WW K a) false [true,false,false] zu):=
 zE (ms:=Ks) (S':=[1,0,0]) (Sb:=[]) (Sc:=[]) T.cC aJ rfl rfl rfl (by decide) λd A c s H E b=>
  (zf (yP (ec (jS T) b T.y4 zI (za (zl (pv 1)) (za (EM.weak (vR (ev 0) (fa ⟨T.qW,T.jP⟩ fz))) ze))))
   (zf (yP (ec (jS T) b T.y4 zI (za (zl (pv 2)) (za (EM.weak (vR (ev 0) (fa ⟨T.qW,T.jP⟩ fz))) ze))))
   (zm (yQ (Mm (qu b) (ix b (vR (ev 0) (fa ⟨T.qW,T.Qj⟩ fz)) (ev 1)) (ev 2) ⟨rfl,rfl,rfl,rfl⟩)))))
def fJ(T:Txt K mg a):qd P w K mg base (CXe P w) 4 a.qC a.We ["table","names"] (lsp (WW K a) false [true,true] qC):=
 zE (ms:=V7) (S':=[1,1,0]) (Sb:=[]) (Sc:=[]) T.vL.F Ki rfl rfl rfl (by decide) λc A b s H E d=>
  (zm (jo (zD ⟨rfl,rfl⟩) rfl (vy (Yn (pv 1))) (gn 2 Ki.nd)
    (zm (yP (jL (fr:=false) (ws:=[false]) (tab:=[(10,zo)]) (ev 0) (al ⟨_,_,_,_,T.z9,T.y6,qt T,(rm d),T.qq⟩) zI (za (zl (pv 2)) ze))))))
def iM(T:Txt K mg a):qd P w K mg base (CXe P w) 4 a.jH a.XW ["places","ways"] (lsp (WW K a) false [true,true] jH):=
 zE (ms:=Xz) (S':=[1,1,0,0,0]) (Sb:=[]) (Sc:=[]) T.Zc.F vI rfl rfl rfl (by decide) λd A c s H E b=>
  (zm (jo (zD ⟨rfl,rfl⟩) rfl (vy (Yn (pv 1))) (oO (n:=3) rfl (vV (gn 2 vI.nd) (vV (gn 3 vI.nd) (vV (gn 4 vI.nd) oN QU) QU) QU))
    (zf (yP (ec (jS T) b T.y4 zI (za (zl (pv 2)) (za (ev 0) ze))))
   (zf (yP (ec (jS T) b T.y4 zI (za (zl (pv 3)) (za (ev 0) ze))))
   (zm (yP (ec (jw T) b T.yF zI (za (zl (pv 4)) (za (EM.weak ei) ze)))))))))
def iN(T:Txt K mg a):qd P w K mg base (CXe P w) 5 a.jb a.XT ["roads","trip","had"] (lsp (WW K a) false [true,true,true] jb):=
 zE (ms:=XA) (S':=[1,1,1,0]) (Sb:=[]) (Sc:=[]) T.Za.F VM rfl rfl rfl (by decide) λe A d s H E b=>
  (zf (yP (ec (Zm T) b T.y3 zI (za (ix b (ev 1) (z7 (zy (v:=.int 0) rfl T.Xm ⟨_,rfl⟩))) (za (ev 2) ze))))
   (zf (se 3 VM.nd (jL (fr:=false) (ws:=[false,false]) (tab:=[(11,zu)]) (ev 0) (al ⟨_,_,_,_,T.qW,T.qk,qT T,(rm b),T.qP⟩) zI (za (ix b (ev 1) (z7 (zy (v:=.int 1) rfl T.w_ ⟨_,rfl⟩))) (za (ix b (ev 1) (z7 (zy (v:=.int 2) rfl T.aM ⟨_,rfl⟩))) ze))))
   (zf (yP (ec (jw T) b T.yF zI (za (ix b (ev 1) (z7 (zy (v:=.int 3) rfl T.ZR ⟨_,rfl⟩))) (za (EM.weak ei) ze))))
   (zf (yP (ec (jw T) b T.yF zI (za (ix b (ev 1) (z7 (zy (v:=.int 4) rfl T.vJ ⟨_,rfl⟩))) (za (EM.weak ei) ze))))
   (zf (yP (ec (jw T) b T.yF zI (za (ix b (ev 1) (z7 (zy (v:=.int 5) rfl T.mX ⟨_,rfl⟩))) (za (EM.weak ei) ze))))
   (zf (qi (yT rE rV (ix b (ev 1) (z7 (zy (v:=.int 4) rfl T.vJ ⟨_,rfl⟩))) (ix b (ev 1) (z7 (zy (v:=.int 3) rfl T.ZR ⟨_,rfl⟩))) (yW _))
    (zm (jr (c:=8) rfl T.sG T.jG (bg T) (rm b) rfl T.W2 T.aS (za (ix b (ev 1) (z7 (zy (v:=.int 0) rfl T.Xm ⟨_,rfl⟩))) ze)))
    z6)
   (zf (qi (yT n8 oF (ev 3) (VA Vv) (yW _))
    (zm (jr (c:=6) rfl T.Af T.ZS (XH T) (rm b) rfl T.aO T.Xn (za (ix b (ev 1) (z7 (zy (v:=.int 1) rfl T.w_ ⟨_,rfl⟩))) (za (ix b (ev 1) (z7 (zy (v:=.int 2) rfl T.aM ⟨_,rfl⟩))) ze))))
    z6)
   (zm (qi (yT bX bY (zt QK QM (ix b (ev 1) (z7 (zy (v:=.int 4) rfl T.vJ ⟨_,rfl⟩))) (ix b (ev 1) (z7 (zy (v:=.int 3) rfl T.ZR ⟨_,rfl⟩)))) (ev 3) (yW _))
    (zm (jr (c:=9) rfl T.Ah T.kU (cK T) (rm b) rfl T.aQ T.cE (za (ix b (ev 1) (z7 (zy (v:=.int 0) rfl T.Xm ⟨_,rfl⟩))) ze)))
    z6)))))))))
def Pj(T:Txt K mg a):qd P w K mg base (CXe P w) 5 a.sJ a.Nz ["table","one","other"] (lsp (WW K a) false [true,false,false] sJ):=
 zE (ms:=M8) (S':=[1,0,0,0,0,0]) (Sb:=[]) (Sc:=[]) T.Dh.F pf rfl rfl rfl (by decide) λd A c s H E b=>
  (zf (se 3 pf.nd (jL (fr:=false) (ws:=[false]) (tab:=[(10,zo)]) (ev 0) (al ⟨_,_,_,_,T.z9,T.y6,qt T,(rm b),T.qq⟩) zI (za (zl (pv 1)) ze)))
   (zf (se 4 pf.nd (jL (fr:=false) (ws:=[false]) (tab:=[(10,zo)]) (ev 0) (al ⟨_,_,_,_,T.z9,T.y6,qt T,(rm b),T.qq⟩) zI (za (zl (pv 2)) ze)))
   (zf (se 5 pf.nd (jL (fr:=false) (ws:=[false,false]) (tab:=[(11,zu)]) (vR (ev 0) (fa ⟨T.z9,T.yL⟩ fz)) (al ⟨_,_,_,_,T.qW,T.qk,qT T,(rm b),T.qP⟩) zI (za (ix b (ev 3) (z7 (zy (v:=.int 2) rfl T.aM ⟨_,rfl⟩))) (za (ix b (ev 4) (z7 (zy (v:=.int 1) rfl T.w_ ⟨_,rfl⟩))) ze))))
   (zf (qi (yT n8 oF (ev 5) (VA Vv) (yW _))
    (zm (yQ (VA Vv)))
    z6)
   (zm (yQ (zt QK QM (zt QK QM (ix b (ev 4) (z7 (zy (v:=.int 3) rfl T.ZR ⟨_,rfl⟩))) (ix b (ev 3) (z7 (zy (v:=.int 4) rfl T.vJ ⟨_,rfl⟩)))) (ev 5))))))))
def bo(T:Txt K mg a):qd P w K mg base (CXe P w) 5 a.qD a.bI ["roads","origin","goal"] (lsp (WW K a) false [true,false,false] qD):=
 zE (ms:=bc) (S':=[1,0,0]) (Sb:=[]) (Sc:=[]) T.v7.F ir rfl rfl rfl (by decide) λe A b s H E d=>
  (zm (qi (yT n8 oF (jL (fr:=false) (ws:=[false,false]) (tab:=[(11,zu)]) (ev 0) (al ⟨_,_,_,_,T.qW,T.qk,qT T,(rm d),T.qP⟩) zI (za (zl (pv 1)) (za (zl (pv 2)) ze))) (VA Vv) (yW _))
    (zm (jr (c:=6) rfl T.Af T.ZS (XH T) (rm d) rfl T.aO T.Xn (za (zl (pv 1)) (za (zl (pv 2)) ze))))
    z6))
def sQ(T:Txt K mg a):qd P w K mg base (CXe P w) 5 a.kn a.dN ["table","home","names"] (lsp (WW K a) true [true,false,true] kn):=
 zE (ms:=dv) (S':=[1,0,1,0,0,0,0,0,0]) (Sb:=[]) (Sc:=[]) T.vQ.F qy rfl rfl rfl (by decide) λd A c s H E b=>
  (zf (se 3 qy.nd (zt QK QM (ix b (jL (fr:=false) (ws:=[false]) (tab:=[(10,zo)]) (ev 0) (al ⟨_,_,_,_,T.z9,T.y6,qt T,(rm b),T.qq⟩) zI (za (ix b (ev 2) ei) ze)) (z7 (zy (v:=.int 3) rfl T.ZR ⟨_,rfl⟩))) (jL (fr:=false) (ws:=[false,false]) (tab:=[(11,zu)]) (vR (ev 0) (fa ⟨T.z9,T.yL⟩ fz)) (al ⟨_,_,_,_,T.qW,T.qk,qT T,(rm b),T.qP⟩) zI (za (zl (pv 1)) (za (ix b (jL (fr:=false) (ws:=[false]) (tab:=[(10,zo)]) (ev 0) (al ⟨_,_,_,_,T.z9,T.y6,qt T,(rm b),T.qq⟩) zI (za (ix b (ev 2) ei) ze)) (z7 (zy (v:=.int 1) rfl T.w_ ⟨_,rfl⟩))) ze)))))
   (zf (se 4 qy.nd (zl (pv 1)))
   (zf (vU (i:=5) qy.nd rfl (.inl rfl) (jn ze))
   (zf (jo (zD ⟨rfl,rfl⟩) rfl (vy (Yn (pv 2))) (gn 6 qy.nd)
    (zf (se 7 qy.nd (jL (fr:=false) (ws:=[false]) (tab:=[(10,zo)]) (ev 0) (al ⟨_,_,_,_,T.z9,T.y6,qt T,(rm b),T.qq⟩) zI (za (zl (pv 6)) ze)))
   (zf (se 8 qy.nd (zt zB zC (ev 3) (jL (fr:=false) (ws:=[false,false]) (tab:=[(11,zu)]) (vR (ev 0) (fa ⟨T.z9,T.yL⟩ fz)) (al ⟨_,_,_,_,T.qW,T.qk,qT T,(rm b),T.qP⟩) zI (za (zl (pv 4)) (za (ix b (ev 7) (z7 (zy (v:=.int 1) rfl T.w_ ⟨_,rfl⟩))) ze)))))
   (zf (qH (pv 5) (qp (za (qg (zy (v:=.str "way") rfl T.De ⟨_,rfl⟩)) (za (zl (pv 3)) (za (zl (pv 8)) ze)))))
   (zf (qH (pv 5) (qp (za (qg (zy (v:=.str "wait") rfl T.Aa ⟨_,rfl⟩)) (za (zl (pv 8)) (za (ix b (ev 7) (z7 (zy (v:=.int 3) rfl T.ZR ⟨_,rfl⟩))) ze)))))
   (zf (qH (pv 5) (qp (za (qg (zy (v:=.str "trip") rfl T.x_ ⟨_,rfl⟩)) (za (ix b (ev 7) (z7 (zy (v:=.int 3) rfl T.ZR ⟨_,rfl⟩))) (za (ix b (ev 7) (z7 (zy (v:=.int 4) rfl T.vJ ⟨_,rfl⟩))) ze)))))
   (zf (se 3 qy.nd (ix b (ev 7) (z7 (zy (v:=.int 4) rfl T.vJ ⟨_,rfl⟩))))
   (zm (se 4 qy.nd (ix b (ev 7) (z7 (zy (v:=.int 2) rfl T.aM ⟨_,rfl⟩))))))))))))
   (zf (qH (pv 5) (qp (za (qg (zy (v:=.str "way") rfl T.De ⟨_,rfl⟩)) (za (zl (pv 3)) (za (zt zB zC (ev 3) (jL (fr:=false) (ws:=[false,false]) (tab:=[(11,zu)]) (vR (ev 0) (fa ⟨T.z9,T.yL⟩ fz)) (al ⟨_,_,_,_,T.qW,T.qk,qT T,(rm b),T.qP⟩) zI (za (zl (pv 4)) (za (zl (pv 1)) ze)))) ze)))))
   (zm (Vb (pv 5))))))))
def cN(T:Txt K mg a):qd P w K mg base (CXe P w) 5 a.qS a.KD ["places"] (lsp (WW K a) false [true] qS):=
 zE (ms:=Ku) (S':=[1,2,0]) (Sb:=[]) (Sc:=[]) T.kD.F v5 rfl rfl rfl (by decide) λd A b s H E c=>
  (zf (vU (i:=1) v5.nd rfl (.inl rfl) mH)
   (zm (jo (zD ⟨rfl,rfl⟩) rfl (vy (Yn (pv 0))) (gn 2 v5.nd)
    (zf (yP (ec (Zm T) c T.y3 zI (za (zl (pv 2)) (za (ev 1) ze))))
   (zm (Eo (qu c) (pv 1) (ev 2) (Ua X8)))))))
def fK(T:Txt K mg a):qd P w K mg base (CXe P w) 6 a.Jt a.Jw ["self","roads","trips"] (hsp (WW K a) 3 qE):=
 xI (ms:=vN) T.iz VN rfl rfl rfl λd A c s H E b=>
  (zH (xG (hp (ec (Jn T) b T.jF zI (za (ev 2) (za (z7 (zy (v:=.int 40) rfl T.Ja ⟨_,rfl⟩)) ze)))))
   (zH (xX (j6 (pv 0)) (j6 (pv 1)) (fa ⟨T.z9,T.yL⟩ fz))
   (zH (xX (j6 (pv 0)) (hf mH) (fa ⟨T.z9,T.qK⟩ fz))
   (zH (mP (S:=[0,0,0,0]) (fr:=false) [false,false,true] (zD ⟨rfl,rfl⟩) rfl (vy (EM.en (zl (pv 2)))) (eV (i:=3) VN.nd rfl (.inl rfl))
    (zH (xG (hp (ec (iN T) b T.Za zI (za (ev 1) (za (ev 3) (za (EM.weak (vR (ev 0) (fa ⟨T.z9,T.qK⟩ fz))) ze))))))
   (qx (EB (qu b) (Me (j6 (pv 0)) (fa ⟨T.z9,T.qK⟩ fz)) (hp (ix b (ev 3) (z7 (zy (v:=.int 0) rfl T.Xm ⟨_,rfl⟩)))) (j6 (pv 3))))))
   (qx (xX (j6 (pv 0)) (hp (FM.em (rY ["trip"] [none] [0] rfl (by kernel_rfl) (WI (FM.em (C0 (wk:=true) (Uj T) (rm b) T.qJ.b rfl T.UN rfl T.qJ.g (za (ev 2) ze)))) (λ_=>(QT (i:=0) (show List.Nodup (["trip"]:List Str)from by decide +kernel) rfl (.inl rfl))) (λ_=>de) (λ_=>(ix b (ev 0) (z7 (zy (v:=.int 0) rfl T.Xm ⟨_,rfl⟩))))))) (fa ⟨T.z9,T.Kl⟩ fz)))))))
def Dp(T:Txt K mg a):qd P w K mg base (CXe P w) 6 a.Y6 a.p7 ["table","one","other"] (lsp (WW K a) false [true,false,false] Y6):=
 zE (ms:=pw) (S':=[1,0,0,0]) (Sb:=[]) (Sc:=[]) T.UO.F ip rfl rfl rfl (by decide) λc A b s H E d=>
  (zf (se 3 ip.nd (ec (Pj T) d T.Dh zI (za (ev 0) (za (zl (pv 1)) (za (zl (pv 2)) ze)))))
   (zm (yQ (uJ (oB t8 uH (ev 3) (VA Vv) (yW _)) (uI (oB Oj OK (ev 3) ei (yW _)))))))
def iO(T:Txt K mg a):qd P w K mg base (CXe P w) 6 a.qr a.Jy ["self","places","ways"] (NR (WW K a) 11 [true,true] qr):=
 xk (ms:=Zj) (S':=[2,1,1]) (Sb:=[]) (Sc:=[]) (n:=2) T.iC fi rfl rfl rfl (by decide) rfl λd A c s H E b=>
  (zf (yP (ec (Jn T) b T.jF zI (za (ev 1) (za (z7 (zy (v:=.int 12) rfl T.YM ⟨_,rfl⟩)) ze))))
   (zf (yP (ec (Jn T) b T.jF zI (za (ev 2) (za (z7 (zy (v:=.int 60) rfl T.Vo ⟨_,rfl⟩)) ze))))
   (zf (yP (ec (cN T) b T.kD zI (za (ev 1) ze)))
   (zf (yP (ec (iM T) b T.Zc zI (za (ev 1) (za (ev 2) ze))))
   (zf (uZ (i:=0) (pv 0) (FM.em (vF rfl rfl T.Qh (za (ev 1) ze))) (fa ⟨T.qW,T.jP⟩ fz))
   (zf (uZ (i:=0) (pv 0) (FM.em (vF rfl rfl T.Qh (za (ev 2) ze))) (fa ⟨T.qW,T.fD⟩ fz))
   (zm (uZ (i:=0) (pv 0) (FM.em (CH rfl rfl T.Ab (za (FM.em (rY ["place","ways"] [none,some 2] [0,1] rfl (by kernel_rfl) (WI (ev 1)) (λ_=>(QT (i:=0) (show List.Nodup (["place","ways"]:List Str)from by decide +kernel) rfl (.inl rfl))) (λ_=>de) (λ_=>(qp (za (zl (pv 0)) (za (FM.em (Yz (cL T) (rm b) rfl T.qQ.g T.qQ.k T.qQ.b IV (za (ev 0) (za (ev 1) ze)))) ze)))))) ze))) (fa ⟨T.qW,T.Qj⟩ fz)))))))))
def cO(T:Txt K mg a):qd P w K mg base (CXe P w) 7 a.yy a.Kz ["table","names"] (lsp (WW K a) false [true,true] yy):=
 zE (ms:=Kv) (S':=[1,1,0,0]) (Sb:=[]) (Sc:=[]) T.kC.F vZ rfl rfl rfl (by decide) λe A d s H E b=>
  (zf (yP (ec (fJ T) b T.vL zI (za (ev 0) (za (ev 1) ze))))
   (zm (jo (zD ⟨rfl,rfl⟩) rfl (GK rfl T.GV (Yn (pv 1)) (EM.en (vE (ev 1) (vT ei) vS))) (oO (n:=2) rfl (vV (gn 2 vZ.nd) (vV (gn 3 vZ.nd) oN QU) QU))
    (zm (qi (gZ (Ym (ec (Dp T) b T.UO zI (za (ev 0) (za (zl (pv 2)) (za (zl (pv 3)) ze))))))
    (zm (jr (c:=12) rfl T.sI T.jj (bh T) (rm b) rfl T.J6 T.aU (za (zl (pv 2)) (za (zl (pv 3)) ze))))
    z6)))))
def nq(T:Txt K mg a):qd P w K mg base (CXe P w) 8 a.yR a.bH ["table","home","names"] (lsp (WW K a) false [true,false,true] yR):=
 zE (ms:=bf) (S':=[1,0,1]) (Sb:=[]) (Sc:=[]) T.YO.F iq rfl rfl rfl (by decide) λf A c s H E b=>
  (zf (yP (ec (jS T) b T.y4 zI (za (zl (pv 1)) (za (EM.weak (FM.em (Cp (tab:=[(10,y8),(11,yx)]) (vR (ev 0) (fa ⟨T.z9,T.yL⟩ fz)) (λK h ⟨q,d,g,e⟩=>by
    simp only[List.mem_cons,List.not_mem_nil,or_false]at d;rcases d with rfl|rfl<;>subst g e
    .exact⟨_,_,_,_,T.z9,T.cG,fI T,(rm b),T.ft⟩
    .exact⟨_,_,_,_,T.qW,T.cH,fH T,(rm b),T.fo⟩) zI))) ze))))
   (zm (yP (ec (cO T) b T.kC zI (za (ev 0) (za (ev 2) ze))))))
def fL(T:Txt K mg a):qd P w K mg base (CXe P w) 9 a.yi a.Wf ["table","home","names"] (lsp (WW K a) false [true,false,true] yi):=
 zE (ms:=V8) (S':=[1,0,1]) (Sb:=[]) (Sc:=[]) T.vM.F cq rfl rfl rfl (by decide) λd A c s H E b=>
  (zf (yP (ec (nq T) b T.YO zI (za (ev 0) (za (zl (pv 1)) (za (ev 2) ze)))))
   (zm (qi (yT gw gX (j4 rfl T.Yp (za (ev 2) ze)) ei (yW _))
    (zf (yP (ec (bo T) b T.v7 zI (za (EM.weak (vR (ev 0) (fa ⟨T.z9,T.yL⟩ fz))) (za (zl (pv 1)) (za (ix b (jL (fr:=false) (ws:=[false]) (tab:=[(10,zo)]) (ev 0) (al ⟨_,_,_,_,T.z9,T.y6,qt T,(rm b),T.qq⟩) zI (za (ix b (ev 2) ei) ze)) (z7 (zy (v:=.int 1) rfl T.w_ ⟨_,rfl⟩))) ze)))))
   (zm (yP (ec (bo T) b T.v7 zI (za (EM.weak (vR (ev 0) (fa ⟨T.z9,T.yL⟩ fz))) (za (ix b (jL (fr:=false) (ws:=[false]) (tab:=[(10,zo)]) (ev 0) (al ⟨_,_,_,_,T.z9,T.y6,qt T,(rm b),T.qq⟩) zI (za (ix b (ev 2) (Ce n6 oE ei)) ze)) (z7 (zy (v:=.int 2) rfl T.aM ⟨_,rfl⟩))) (za (zl (pv 1)) ze)))))))
    z6)))
def Aj(T:Txt K mg a):qd P w K mg base (CXe P w) 10 a.jc a.Ba ["table","home","names"] (lsp (WW K a) true [true,false,true] jc):=
 zE (ms:=Ai) (S':=[1,0,1]) (Sb:=[]) (Sc:=[]) T.YQ.F Dd rfl rfl rfl (by decide) λd A c s H E b=>
  (zf (yP (ec (fL T) b T.vM zI (za (ev 0) (za (zl (pv 1)) (za (ev 2) ze)))))
   (zf (qi (bZ b.units (j4 rfl T.Yp (za (ev 2) ze)) ei)
    (zm (eE (jn ze)))
    z6)
   (zm (eE (rY ["part"] [none] [0] rfl (by kernel_rfl) (WI (FM.em (Yz (sQ T) (rm b) rfl T.vQ.g T.vQ.k T.vQ.b zI (za (ev 0) (za (zl (pv 1)) (za (ev 2) ze)))))) (λ_=>(QT (i:=0) (show List.Nodup (["part"]:List Str)from by decide +kernel) rfl (.inl rfl))) (λ_=>(LM (yT bX bY (ix b (ev 0) (z7 (zy (v:=.int 1) rfl T.mY ⟨_,rfl⟩))) (ix b (ev 0) (z7 (zy (v:=.int 2) rfl T.GU ⟨_,rfl⟩))) (yW _)))) (λ_=>(zl (pv 0))))))))
def Jo(T:Txt K mg a):qd P w K mg base (CXe P w) 11 a.bC a.bJ ["_law_table","_law_home","_law_row_here"] (hsp (WW K a) 3 z8):=
 xI (ms:=XF) T.yG.F kO rfl rfl rfl λd A c s H E b=>
  (zH (hse 3 kO.nd (hp (FM.em (jn ze))))
   (zH (Ms (j:=4) ⟨rfl,rfl⟩ (Mq (i:=3) kO.nd rfl (.inl rfl) (R8 (S:=TL) (fr:=false) [true,true,true] (Aj T) (rm b) rfl T.YQ.g T.YQ.k T.YQ.b (za (ev 0) (za (zl (pv 1)) (za (ev 2) ze))))) rfl T.Jb kO.nd rfl (.inl rfl) (λe=>(zH (hse 5 kO.nd (hp (FM.em (jn (za (Xj rfl T.yK (ev 4) (zy rfl T.VQ (v:=.ref _) rfl) rfl ⟨⟨⟨T.jO,T.J8⟩,T.v8⟩,⟨⟨⟨T.kh,T.Zd⟩,T.v9⟩,⟨⟨⟨T.Yq,T.J9⟩,T.v_⟩,⟨⟨⟨T.Je,T.UP⟩,T.wa⟩,⟨⟨⟨T.kT,T.J_⟩,T.wb⟩,⟨⟨⟨T.ZS,T.UQ⟩,T.wc⟩,⟨⟨⟨T.Ze,T.VT⟩,T.wd⟩,⟨⟨⟨T.jG,T.YR⟩,T.we⟩,⟨⟨⟨T.kU,T.Ka⟩,T.wg⟩,⟨⟨⟨T.jj,T.YS⟩,T.vc⟩,trivial⟩⟩⟩⟩⟩⟩⟩⟩⟩⟩) (za (Xj rfl T.yK (ev 4) (zy rfl T.UM (v:=.ref _) rfl) rfl ⟨⟨⟨T.jO,T.J8⟩,T.ZU⟩,⟨⟨⟨T.kh,T.Zd⟩,T.ZV⟩,⟨⟨⟨T.Yq,T.J9⟩,T.ZW⟩,⟨⟨⟨T.Je,T.UP⟩,T.ZX⟩,⟨⟨⟨T.kT,T.J_⟩,T.ZY⟩,⟨⟨⟨T.ZS,T.UQ⟩,T.ZZ⟩,⟨⟨⟨T.Ze,T.VT⟩,T.Z0⟩,⟨⟨⟨T.jG,T.YR⟩,T.Z1⟩,⟨⟨⟨T.kU,T.Ka⟩,T.Z2⟩,⟨⟨⟨T.jj,T.YS⟩,T.wj⟩,trivial⟩⟩⟩⟩⟩⟩⟩⟩⟩⟩) (za (Xj rfl T.yK (ev 4) (zy rfl T.J6 (v:=.ref _) rfl) rfl ⟨⟨⟨T.jO,T.J8⟩,T.vd⟩,⟨⟨⟨T.kh,T.Zd⟩,T.ve⟩,⟨⟨⟨T.Yq,T.J9⟩,T.vf⟩,⟨⟨⟨T.Je,T.UP⟩,T.vg⟩,⟨⟨⟨T.kT,T.J_⟩,T.vh⟩,⟨⟨⟨T.ZS,T.UQ⟩,T.vi⟩,⟨⟨⟨T.Ze,T.VT⟩,T.vj⟩,⟨⟨⟨T.jG,T.YR⟩,T.vk⟩,⟨⟨⟨T.kU,T.Ka⟩,T.vm⟩,⟨⟨⟨T.jj,T.YS⟩,T.ki⟩,trivial⟩⟩⟩⟩⟩⟩⟩⟩⟩⟩) (za (Xj rfl T.yK (ev 4) (zy rfl T.aO (v:=.ref _) rfl) rfl ⟨⟨⟨T.jO,T.J8⟩,T.YU⟩,⟨⟨⟨T.kh,T.Zd⟩,T.YV⟩,⟨⟨⟨T.Yq,T.J9⟩,T.YW⟩,⟨⟨⟨T.Je,T.UP⟩,T.YX⟩,⟨⟨⟨T.kT,T.J_⟩,T.YY⟩,⟨⟨⟨T.ZS,T.UQ⟩,T.YZ⟩,⟨⟨⟨T.Ze,T.VT⟩,T.Y0⟩,⟨⟨⟨T.jG,T.YR⟩,T.Y1⟩,⟨⟨⟨T.kU,T.Ka⟩,T.Y2⟩,⟨⟨⟨T.jj,T.YS⟩,T.Z3⟩,trivial⟩⟩⟩⟩⟩⟩⟩⟩⟩⟩) ze))))))))
   (zH (b7 (By (S:=TL) (fr:=false) [false,false,false,false,false,true] (mz b.units (xw (ev 5) (Ua X8)) ei))
    (qx (Kh (hp (qp (za (qg qY) ze)))))
    ZF)
   (zH (b7 (By (S:=TL) (fr:=false) [false,false,false,false,false,true] (Ym (Cj (have h:=qu b;h) (ev 5) ei)))
    (qx (Kh (hp (qp (za (qg qY) (za (WH (ev 4) (fa ⟨T.jO,T.Jd⟩ (fa ⟨T.Je,T.VS⟩ (fa ⟨T.kT,T.Jf⟩ (fa ⟨T.Ze,T.Kk⟩ (fa ⟨T.jG,T.Qi⟩ (fa ⟨T.kU,T.Jg⟩ fz))))))) ze))))))
    ZF)
   (zH (b7 (By (S:=TL) (fr:=false) [false,false,false,false,false,true] (Ym (Cj (have h:=qu b;h) (ev 5) ei)))
    (qx (Kh (hp (qp (za (qg qY) (za (WH (ev 4) (fa ⟨T.jO,T.Jd⟩ (fa ⟨T.Je,T.VS⟩ (fa ⟨T.kT,T.Jf⟩ (fa ⟨T.Ze,T.Kk⟩ (fa ⟨T.jG,T.Qi⟩ (fa ⟨T.kU,T.Jg⟩ fz))))))) ze))))))
    ZF)
   (zH (b7 (By (S:=TL) (fr:=false) [false,false,false,false,false,true] (Ym (Cj (have h:=qu b;h) (ev 5) ei)))
    (qx (Kh (hp (qp (za (qg qY) (za (WH (ev 4) (fa ⟨T.jj,T.W4⟩ fz)) (za (WH (ev 4) (fa ⟨T.jj,T.VW⟩ fz)) ze)))))))
    ZF)
   (qx (Kh (hp (qp (za (qg qY) (za (WH (ev 4) (fa ⟨T.ZS,T.aZ⟩ fz)) (za (WH (ev 4) (fa ⟨T.ZS,T.fC⟩ fz)) ze))))))))))))) (fa T.sD (fa T.iF (fa T.sE (fa T.Di (fa T.sF (fa T.Dj (fa T.Ag (fa T.m_ (fa T.sH (fa T.ng fz)))))))))))
   (qx (Kh (Mb (YD (hp (qg qY)) (YD (j6 (pv 3)) oY)))))))
def M9(T:Txt K mg a)(e:EJ base mg a.Hv a.Hw):qd P w K mg base (CXe P w) 12 a.Ny a.NB ["_law_script"] (hsp (WW K a) 1 E9):=
 xI (ms:=E8) T.Ac.F jN rfl rfl rfl λf A d s H E b=>
  (zH (hse 1 jN.nd (hp (FM.em (Yz (bj T) (rm b) rfl T.qz.g T.qz.k T.qz.b zI (za (ev 0) (za (EM.weak ei) (za (EM.weak (zt zB zC ei (zt zK zL (ec (jd T) b T.yZ zI (za (ev 0) (za (EM.weak ei) (za (EM.weak ei) ze)))) ei))) ze)))))))
   (zH (hse 2 jN.nd (hp (FM.em (Yz (sO T) (rm b) rfl T.vP.g T.vP.k T.vP.b zI (za (ev 0) (za (EM.weak ei) (za (ev 1) ze)))))))
   (zH (hse 3 jN.nd (hp (FM.em (Yz (fF T) (rm b) rfl T.jh.g T.jh.k T.jh.b zI (za (ev 1) (za (ev 2) ze))))))
   (zH (hse 4 jN.nd (hp (El rfl rfl T.Df (za (zt zK zL (ec (jd T) b T.yZ zI (za (ev 0) (za (EM.weak ei) (za (EM.weak ei) ze)))) ei) (za (zt Zy Zz (zt QK QM (oJ rfl rfl T.sC (za (j4 rfl T.Yp (za (ev 0) ze)) (za ei ze))) ei) ei) ze)))))
   (zH (hse 5 jN.nd (hp (FM.em (Yz (bj T) (rm b) rfl T.qz.g T.qz.k T.qz.b zI (za (ev 0) (za (EM.weak ei) (za (ev 4) ze)))))))
   (zH (hse 6 jN.nd (hp (FM.em (Yz (nj T) (rm b) rfl T.ke.g T.ke.k T.ke.b zI (za (ev 0) (za (EM.weak ei) (za (ev 5) (za (ev 1) (za (ev 3) ze)))))))))
   (zH (hse 7 jN.nd (hf mH))
   (zH (mP (S:=TN) (fr:=false) [false,false,false,false,false,false,true] (zD ⟨rfl,rfl⟩) rfl (vy (EM.en (zl (pv 6)))) (eV (i:=8) jN.nd rfl (.inl rfl))
    (qx (EB (qu b) (j6 (pv 7)) (hp (ix b (ev 8) ei)) (j6 (pv 8)))))
   (zH (hse 9 jN.nd (hp (ix b (ev 1) (zt zK zL (ec (jd T) b T.yZ zI (za (ev 0) (za (EM.weak ei) (za (EM.weak ei) ze)))) (j4 rfl T.Yp (za (ev 1) ze))))))
   (zH (hse 10 jN.nd (xF (sP T e) (rm b) rfl T.kR.g T.kR.k T.kR.b zI (YD (j6 (pv 6)) (YD (j6 (pv 3)) (YD (hp (zt zK zL (ec (qF T) b T.yw zI (za (ev 0) (za (EM.weak ei) ze))) (zt c5 WE ei ei))) oY))) (WM (WM (WM EA)))))
   (zH (hse 11 jN.nd (hp (zt zK zL (ec (jd T) b T.yZ zI (za (ev 0) (za (EM.weak ei) (za (EM.weak ei) ze)))) ei)))
   (zH (b7 (By (S:=TN) (fr:=false) [false,false,false,false,false,false,false,false,false,false,false,true] (Cg rE rE rV rV ei (ev 11) ei))
    (qx (hse 10 jN.nd (hp (ec (iL T) b T.Zb zI (za (zl (pv 10)) (za (ev 5) (za (EM.weak (zt QK QM (ev 11) ei)) (za (EM.weak (ec (jd T) b T.yZ zI (za (ev 0) (za (EM.weak ei) (za (EM.weak ei) ze))))) ze))))))))
    ZF)
   (zH (b7 (By (S:=TN) (fr:=false) [false,false,false,false,false,false,false,false,false,false,false,true] (bZ b.units (ev 11) ei))
    (qx (hse 9 jN.nd (hp (ec (Kx T) b T.jq zI (za (ev 1) ze)))))
    ZF)
   (zH (hse 12 jN.nd (hp (C3 (c:=10) T.Dl (fK T) (rm b) rfl T.m4 T.iA zI (za (FM.em (Ga (c:=11) T.Dm (iO T) (rm b) rfl T.m7 T.iD zI (za (EM.weak (FM.em (vF rfl rfl T.Qh (za (ev 1) ze)))) (za (EM.weak (FM.em (vF rfl rfl T.Qh (za (ev 2) ze)))) ze)))) (za (FM.em (vF rfl rfl T.Qh (za (ev 6) ze))) ze)) rfl rfl)))
   (zH (hse 13 jN.nd (Ph (fr:=false) [false,false,false,true,false,false,false,false,false,true,true,false,false,false,false,false,false] [false,false,false,true,false,false,false,true,false,true,true] (ec (iK T) b T.Jc zI (za (zl (pv 9)) (za (ev 10) (za (ev 7) (za (ev 3) ze)))))))
   (zH (hse 14 jN.nd (hp (FM.em (vF rfl rfl T.Qh (za (ev 10) ze)))))
   (zH (hse 15 jN.nd (xF (Jo T) (rm b) rfl T.yG.g T.yG.k T.yG.b zI (YD (j6 (pv 12)) (YD (j6 (pv 9)) (YD (j6 (pv 14)) oY))) (WM (WM (WM EA)))))
   (zH (b7 (By (S:=TN) (fr:=false) [false,false,false,false,false,false,false,false,false,false,true,false,false,true,true,true] (TWM.tm (mq (gZ (Ym (ec (Vq T) b T.kg zI (za (ev 15) (za (ev 13) ze))))) (c8 (mz b.units (ev 14) (ev 10))))))
    (qx (Kh (hp (Ua X8))))
    ZF)
   (zH (b7 (By (S:=TN) (fr:=false) [false,false,false,false,false,false,false,false,false,false,false,false,false,false,false,true] (bZ b.units (ix b (ev 15) ei) (qg qY)))
    (qx (CM (O2 (qu b) (j6 (pv 15)) (hp ei))))
    ZF)
   (zH (mP (S:=TN) (fr:=false) [false,true] (zD ⟨rfl,rfl⟩) rfl (vy (EM.en (zl (pv 1)))) (eV (i:=16) jN.nd rfl (.inl rfl))
    (qx (b7 (Mc (By (S:=TN) (fr:=false) [false,false,false,true,false,false,false,true,false,false,true,false,true,false,true,false,true] (Ym (ec (Vq T) b T.kg zI (za (EM.weak (mD (fr:=false) (xJ (ws:=[true,true,true]) (Jo T) rfl) (rm b) rfl T.yG.g T.yG.k T.yG.b zI (za (ev 12) (za (ev 16) (za (ev 14) ze))))) (za (EM.weak (ec (iK T) b T.Jc zI (za (zl (pv 16)) (za (ev 10) (za (ev 7) (za (ev 3) ze)))))) ze))))))
    (qx (Kh (hp (Ua X8))))
    ZF)))
   (qx (Kh (hp (uJ (ec (Vq T) b T.kg zI (za (EM.weak (mD (fr:=false) (xJ (ws:=[true,true,true]) (Jo T) rfl) (rm b) rfl T.yG.g T.yG.k T.yG.b zI (za (ev 12) (za (ev 9) (za (ev 14) ze))))) (za (ev 13) ze))) (uI (ON b.units (FM.em (Yz (Aj T) (rm b) rfl T.YQ.g T.YQ.k T.YQ.b zI (za (ev 12) (za (ix b (ev 1) ei) (za (EM.weak (FM.em (jn ze))) ze))))) (FM.em (jn ze))))))))))))))))))))))))))))
def zq(d:a ρ=.ok x)(c:b ρ=.ok y)(h:f x y=.ok z):mOp f a b ρ=.ok z:=by unfold mOp;rw[d,okb,c,okb,h]
def zx(h:ms ρ=.ok xs)(a:f xs=.ok x):zh f ms ρ=.ok x:=by unfold zh;rw[h,okb,a]
def zp(b:a ρ=.ok x)(h:ms ρ=.ok xs):zb a ms ρ=.ok (x::xs):=by unfold zb;rw[b,okb,h,okb]
def sR(h:ms ρ=.ok xs)(a:xs.length<=sizeLine):QP ms ρ=.ok (.l xs):=by unfold QP;rw[h,okb,if_pos a]
def wX(b:a ρ=.ok (.i x))(c:0<n):mOp zX a (mC (.i n)) ρ=.ok (.i (x % n)):=zq b rfl (kL c)
def nr(b:a ρ=.ok (.i x))(c:0<n)(d:n<1073741824):mOp Yv a (mC (.i n)) ρ=.ok (.i (x / n)):=zq b rfl (Er c d)
def GX(h:ρ[i]?=some (some (.i x)))(a:0<d)(b:d<1073741824)(c:0<n):mOp zX (mOp Yv (zc i) (mC (.i d))) (mC (.i n)) ρ=.ok (.i (x / d % n)):=
 wX (nr (by unfold zc;rw[h]) a b) c
def XI(b:a ρ=.ok (.i x)):z0 (mOp (vD false) a (mC (.i n))) ρ=.ok (decide (x=n)):=by unfold z0;rw[zq (z:=.b (decide (x=n))) b rfl (OT.trans (by rw[a1T]))];rfl
def XJ(b:a ρ=.ok (.i x)):z0 (mOp pGt a (mC (.i n))) ρ=.ok (decide (x>n)):=by unfold z0;rw[zq (z:=.b (decide (x>n))) b rfl rfl];rfl
def wL(d:a ρ=.ok x)(c:b ρ=.ok y):UB a b ρ=.ok (x&&y):=by
 unfold UB;rw[d,okb];cases x
 .rfl
 .rw[if_pos rfl,c];rfl
def yc(h:c ρ=.ok x):sIf c a b ρ=if x=true then a ρ else b ρ:=by unfold sIf;rw[h,okb]
def wY(h:m ρ=.ok x):jY m ρ=.ok (.rt x):=by unfold jY;rw[h,okb]
def E_(b:a ρ=.ok (.i x)):z0 (mOp pLt a (mC (.i n))) ρ=.ok (decide (x<n)):=by unfold z0;rw[zq (z:=.b (decide (x<n))) b rfl rfl];rfl
def z5(h:m ρ=.ok (.b b)):z0 m ρ=.ok b:=by unfold z0;rw[h];rfl
def nt(d:a ρ=.ok x)(c:b ρ=.ok y):mOr a b ρ=.ok (x||y):=by
 unfold mOr;rw[d,okb];cases x
 .rw[if_neg T7,c];rfl
 .rfl
def dA(b:a ρ=.ok x):Ci a ρ=.ok (!x):=by unfold Ci;rw[b,okb]
def nu(d:a ρ=.ok (.b x))(c:b ρ=.ok (.b y)):gY a b ρ=.ok (.b (x&&y)):=by
 unfold gY;rw[d,okb];show(Out.ok x).bind _=_;rw[okb];cases x
 .rfl
 .rw[if_pos rfl,c];rfl
def Pk(e:a ρ=.ok (.i x))(d:b ρ=.ok (.i y))(f:c ρ=.ok (.i z)):U_ pLe pLe a b c ρ=.ok (.b (decide (x<=y)&&decide (y<=z))):=by
 unfold U_;rw[e,okb,d,okb,show pLe (.i x) (.i y)=.ok (.b (decide (x<=y)))from rfl,okb];show(Out.ok (decide (x<=y))).bind _=_;rw[okb];cases decide (x<=y)
 .rfl
 .rw[if_pos rfl,f,okb];rfl
def sz5{z:Str}(h:z.length<=100000):z.length<=sizeLine:=a0o h (by decide)
def signs_at(h:m ρ=.ok (.s z)):ia m ρ=.ok (z.cps.toList.map λc=>PV.s ⟨#[c]⟩):=by unfold ia;rw[h,okb];rfl
def Yr(h:ms ρ=.ok xs)(a:xs.length<=sizeLine):Yw ms ρ=.ok (.t xs):=by unfold Yw;rw[h,okb,if_pos a]
def bp(c:a ρ=.ok false):UB a b ρ=.ok false:=by unfold UB;rw[c,okb];rfl
def px(b:a ρ=.ok (.s x)):z0 (mOp (vD n) a (mC (.s y))) ρ=.ok (xor n (decide (x=y))):=z5 (zq b rfl OU)
def zS(h:p ρ G=.nx ρ' G')(a:q ρ' G'=o):vH p q ρ G=o:=by unfold vH;rw[h];exact a
def GY(h:p ρ G=.rt x G'):vH p q ρ G=.rt x G':=by unfold vH;rw[h]
def nv(h:c ρ G=.ok false G'):hIf c p q ρ G=q ρ G':=by unfold hIf;rw[h];rfl
def Dq(h:c ρ G=.ok true G'):hIf c p q ρ G=p ρ G':=by unfold hIf;rw[h];rfl
def dB(a:Ub bs ρ=some r)(c:m r=.ok b):hPT bs m ρ G=.ok b G:=by unfold hPT;rw[a];dsimp only;rw[c]
def fO(a:Ub bs ρ=none)(c:Ve G bs ρ=some r)(d:m r=.ok b):hPT bs m ρ G=.ok b G:=by unfold hPT;rw[a,c];dsimp only;rw[d]
def fP(a:Ub bs ρ=some r)(b:m r=.ok x):hP bs m ρ G=.ok (.v x) G:=by unfold hP;rw[a];dsimp only;rw[b]
def qU(h:m ρ G=.ok x G'):vz i m ρ G=.nx (ρ.set i (some x)) G':=by unfold vz;rw[h];rfl
def Ak(h:m ρ G=.ok x G'):mO m ρ G=.rt x G':=by unfold mO;rw[h];rfl
def N7:Ve G bs []=some []:=by cases bs<;>rfl
def Rn(h:Ve G [] ρ=some r):Ve G [] (a::ρ)=some (none::r):=by show(Ve G [] ρ).map _=_;rw[h];rfl
def Z7(h:Ve G bs ρ=some r):Ve G (false::bs) (a::ρ)=some (none::r):=by show(Ve G bs ρ).map _=_;rw[h];rfl
def fQ(a:vG G 8 x=some y)(h:Ve G bs ρ=some r):Ve G (true::bs) (some x::ρ)=some (some y::r):=by show(vG G 8 x).bind _=_;rw[a,h];rfl
def R_(h:a.length+b.length<=n)(c:n<=100000):zJ (.s a) (.s b)=.ok (.s (a++b)):=by have:a.length+b.length<=sizeLine:=a0o (a0o h c) (by decide);unfold zJ;simp only[this,if_true]
def ny(a:0<=i)(b:i<xs.length):pIx (.l xs) (.i i)=.ok (xs[i.toNat]'(by omega)):=by rw[OS,xm a,T4 (by omega)];rfl
def oh{xs:Sn}{i:Int}(a:0<=i)(b:i<xs.length):∃y∈xs,pIx (.l (xs.map .s)) (.i i)=.ok (.s y):=
 ⟨xs[i.toNat]'(by omega),a0N _,by rw[ny a (by rw[v4];exact b),a0K]⟩
def Al{xs:SS}{i:Int}(a:0<=i)(b:i<xs.length):∃y∈xs,pIx (.l (xs.map .i)) (.i i)=.ok (.i y):=
 ⟨xs[i.toNat]'(by omega),a0N _,by rw[ny a (by rw[v4];exact b),a0K]⟩
def any_map{b c d:Type}[DecidableEq b]{f:c->d}{kvs:List (b×c)}{k:b}:(kvs.map λp=>(p.1,f p.2)).any (λa=>decide (a.1=k))=kvs.any (λa=>decide (a.1=k)):=by rw[List.any_map];rfl
def pA{b a c:Type}[DecidableEq b]{f:a->c}{kvs:List (b×a)}{k:b}{x:a}:dput (kvs.map λp=>(p.1,f p.2)) k (f x)=(dput kvs k x).map λp=>(p.1,f p.2):=by
 unfold dput;rw[any_map];split
 .rw[a0U,a0U];refine a1r λp _=>?_;show(if p.1=k then(p.1,f x)else(p.1,f p.2))=((if p.1=k then(p.1,x)else p).1,f (if p.1=k then(p.1,x)else p).2);split<;>rfl
 .rw[a0m];rfl
def iP{b c d:Type}[DecidableEq b]{f:c->d}:∀{a:List (b×c)}{k:b},zP (a.map λp=>(p.1,f p.2)) k=(zP a k).map f
 |[],_=>rfl
 | (j,u)::a,k=>by rw[T2,yz,yz,iP];split<;>rfl
abbrev Wy:=Str×Str×Int
abbrev Ht:=List (Key×Int)
abbrev sk(z:Str):Key:=Sum.inr z
def wP(w:Wy):PV:=.t [.s w.1,.s w.2.1,.i w.2.2]
def hD(h:Ht):List (Key×PV):=h.map λp=>(p.1,.i p.2)
def Am:zP (hD h) k=(zP h k).map .i:=iP
def M_:dput (hD h) k (.i v)=hD (dput h k v):=pA
def Na:(hD h).length=h.length:=v4 _
def rlx(u:Ht×Bool)(w:Wy):Ht×Bool:=
 match zP u.1 (sk w.1)with
 |none=>u
 |some x=>match zP u.1 (sk w.2.1)with
  |none=>(dput u.1 (sk w.2.1) (x+w.2.2),true)
  |some y=>if x+w.2.2<y then(dput u.1 (sk w.2.1) (x+w.2.2),true)else u
def GZ(h:Ht):Nat:=(h.map λp=>p.2.toNat).sum
def Sup(V:List Wy)(o:Str)(h:Ht):Prop:=∀g y,zP h g=some y->g=sk o\/∃w∈V,sk w.2.1=g/\∃x,zP h (sk w.1)=some x/\x+w.2.2<=y
structure sS(V:List Wy)(K:Ti)(o:Str)(h:Ht):Prop where
 sup:Sup V o h
 nd:(h.map (·.1)).Nodup
 sub:∀k∈h.map (·.1),k∈K
 pos:∀k x,zP h k=some x->0<=x
 own:zP h (sk o)=some 0
def US(h:Ht)(w:Wy):Prop:=∀x,zP h (sk w.1)=some x->∃y,zP h (sk w.2.1)=some y/\y<=x+w.2.2
def G0(K:Ti)(h' h:Ht):Prop:=Prod.Lex (·<·) (·<·) (K.length-h'.length,GZ h') (K.length-h.length,GZ h)
def V9{f:Type}[DecidableEq f]:∀{a b:List f},a.Nodup->(∀x∈a,x∈b)->a.length<=b.length
 |[],b,_,_=>a0y _
 |x::a,b,j,h=>by have d:=h x S4;obtain⟨g,i⟩:=a04.mp j;have:=V9 (a:=a) (b:=b.erase x) i λy c=>(List.mem_erase_of_ne (show y≠x from λe=>g (e▸c))).mpr (h y (S6 _ c));rw[List.length_erase_of_mem d]at this;have l:0<b.length:=List.length_pos_of_mem d;rw[S0];omega
def sS.len{V:List Wy}{K:Ti}{o:Str}{h:Ht}(i:sS V K o h):h.length<=K.length:=by
 have:=V9 i.nd i.sub
 rwa [v4]at this
def An{k:Key}{v:Int}:∀{h:Ht}{y:Int},(h.map (·.1)).Nodup->zP h k=some y->v.toNat<y.toNat->GZ (h.map λa=>if a.1=k then(a.1,v)else a)<GZ h
 |[],y,_,e,_=>by cases e
 | (j,x)::h,y,g,e,b=>by
  rw[yz]at e;obtain⟨d,f⟩:=a04.mp g;by_cases c:j=k
  .subst c;rw[if_pos rfl]at e;cases e;have:(h.map λa=>if a.1=j then(a.1,v)else a)=h:=by
    conv=>rhs;rw[<- List.map_id h]
    refine a1r λp hp=>?_;rw[if_neg (show ¬p.1=j from λz=>d (a0P.mpr ⟨p,hp,z⟩))];rfl
   unfold GZ;rw[T2,this,if_pos rfl,T2,T2,a14,a14];exact Nat.add_lt_add_right b _
  .rw[if_neg c]at e;have:=An f e b;unfold GZ at this ⊢;rw[T2,if_neg c,T2,T2,a14,a14];exact Nat.add_lt_add_left this _
def Sup.put{V:List Wy}{o:Str}{h:Ht}{w:Wy}{x:Int}(i:Sup V o h)(m:w∈V)(q:1<=w.2.2)(d:zP h (sk w.1)=some x)(f:∀y,zP h (sk w.2.1)=some y->x+w.2.2<y):Sup V o (dput h (sk w.2.1) (x+w.2.2)):=by
 have n:¬sk w.2.1=sk w.1:=λc=>by rw[<- c]at d;have:=f x d;omega
 intro g y e;rw[w8]at e;split at e
 .rename_i c;cases e;refine .inr ⟨w,m,c,x,?_,a1d _⟩;rw[w8,if_neg n];exact d
 .rcases i g y e with r|⟨l,b,p,j,a,le⟩
  .exact .inl r
  .refine .inr ⟨l,b,p,?_⟩;rw[w8];split
   .rename_i c;rw[<- c]at a;have:=f j a;exact⟨_,rfl,by omega⟩
   .exact⟨j,a,le⟩
def Fb{V:List Wy}{K:Ti}{o:Str}{u:Ht×Bool}{w:Wy}(i:sS V K o u.1)(m:w∈V)(p:sk w.2.1∈K)(l:1<=w.2.2):sS V K o (rlx u w).1/\((rlx u w=u/\US u.1 w)\/((rlx u w).2=true/\G0 K (rlx u w).1 u.1)):=by
 unfold rlx;cases f:zP u.1 (sk w.1)with
 |none=>exact⟨i,.inl ⟨rfl,λx e=>by rw[f]at e;cases e⟩⟩
 |some x=>
  have s:=i.pos _ _ f;dsimp only;cases b:zP u.1 (sk w.2.1)with
  |none=>
   have h:sS V K o (dput u.1 (sk w.2.1) (x+w.2.2)):=by
    refine⟨i.sup.put m l f (λy e=>by rw[b]at e;cases e),dm i.nd,λk d=>?_,λk y e=>?_,?_⟩
    .rw[VJ,b]at d;rcases a0B.mp d with d|d
     .exact i.sub k d
     .rw[a0j.mp d];exact p
    .rw[w8]at e;split at e
     .cases e;omega
     .exact i.pos k y e
    .rw[w8];split
     .rename_i z;rw[z]at b;rw[i.own]at b;cases b
     .exact i.own
   refine⟨h,.inr ⟨rfl,.left _ _ ?_⟩⟩;have r:=h.len;have:(dput u.1 (sk w.2.1) (x+w.2.2)).length=u.1.length+1:=by have:=a0F List.length (VJ (a:=u.1) (k:=sk w.2.1) (v:=x+w.2.2));rw[b,v4]at this;rw[this];simp
   dsimp only at r ⊢;omega
  |some y=>
   dsimp only;by_cases c:x+w.2.2<y
   .rw[if_pos c];have d:(zP u.1 (sk w.2.1)).isSome=true:=by rw[b];rfl
    have h:sS V K o (dput u.1 (sk w.2.1) (x+w.2.2)):=by
     refine⟨i.sup.put m l f (λz e=>by rw[b]at e;cases e;exact c),dm i.nd,λk g=>?_,λk z e=>?_,?_⟩
     .rw[VJ,if_pos d]at g;exact i.sub k g
     .rw[w8]at e;split at e
      .cases e;omega
      .exact i.pos k z e
     .rw[w8];split
      .rename_i z;rw[z,i.own]at b;cases b;omega
      .exact i.own
    refine⟨h,.inr ⟨rfl,?_⟩⟩;have q:dput u.1 (sk w.2.1) (x+w.2.2)=u.1.map λj=>if j.1=sk w.2.1 then(j.1,x+w.2.2)else j:=by unfold dput;rw[w6,if_pos d]
    have n:=An (v:=x+w.2.2) i.nd b (by omega);unfold G0;dsimp only;rw[q,v4];exact .right _ n
   .rw[if_neg c];exact⟨i,.inl ⟨rfl,λz e=>by rw[f]at e;cases e;exact⟨y,b,by omega⟩⟩⟩
def sT(d:G0 K a b)(e:G0 K b c):G0 K a c:=by unfold G0 at *;rw[Prod.lex_def]at *;dsimp only at *;omega
def pB{V:List Wy}{K:Ti}{o:Str}:∀{W:List Wy}{u:Ht×Bool},sS V K o u.1->(∀w∈W,w∈V/\sk w.2.1∈K/\1<=w.2.2)->sS V K o (W.foldl rlx u).1/\((W.foldl rlx u=u/\∀w∈W,US u.1 w)\/((W.foldl rlx u).2=true/\G0 K (W.foldl rlx u).1 u.1))
 |[],u,i,_=>⟨i,.inl ⟨rfl,λw h=>by cases h⟩⟩
 |w::W,u,i,hW=>by
  obtain⟨v,g,m⟩:=hW w S4;obtain⟨j,n⟩:=Fb (u:=u) (w:=w) i v g m;obtain⟨p,a⟩:=pB (W:=W) (u:=rlx u w) j λc h=>hW c (S6 _ h);refine⟨p,?_⟩;rw[a1j];rcases n with⟨s,r⟩|⟨l,e⟩
  .rw[s]at a ⊢;rcases a with⟨b,d⟩|a
   .refine .inl ⟨b,λc h=>?_⟩;rcases a0f.mp h with rfl|h
    .exact r
    .exact d c h
   .exact .inr a
  .rcases a with⟨b,d⟩|⟨q,f⟩
   .rw[b];exact .inr ⟨l,e⟩
   .exact .inr ⟨q,sT f e⟩
def G4(r:Tw):Prop:=∃a b c d,r=[a,b,c,d]
abbrev hSt(o:Str)(W:List Wy)(h:Ht)(b:Bool)(r:Tw):Sto:=[some (.s o),some (.l (W.map wP)),some (.d (hD h)),some (.b b)]++r
def Ao(b:a ρ=.ok (.s z))(c:zc i ρ=.ok (.d (hD h))):z0 (mOp (pIn n) a (zc i)) ρ=.ok (xor n (zP h (sk z)).isSome):=by refine z5 (zq b c ?_);show Out.ok (PV.b (xor n (zP (hD h) (sk z)).isSome))=_;rw[Am,a06]
def Fc(b:a ρ=.ok (.s z))(c:zc i ρ=.ok (.d (hD h)))(d:zP h (sk z)=some x):mOp pIx (zc i) a ρ=.ok (.i x):=by refine zq c b ?_;show kW (zP (hD h) (sk z))=_;rw[Am,d];rfl
def Fd(c:a ρ=.ok true):mOr a b ρ=.ok true:=by unfold mOr;rw[c,okb];rfl
def G5{o:Str}{W:List Wy}{h:Ht}{b:Bool}{w:Wy}{a7:SR}(q:h.length<100000):∃g,js [some (.s o),some (.l (W.map wP)),some (.d (hD h)),some (.b b),some (.s w.1),some (.s w.2.1),some (.i w.2.2),a7]=.ok (.nx [some (.s o),some (.l (W.map wP)),some (.d (hD (rlx (h,b) w).1)),some (.b (rlx (h,b) w).2),some (.s w.1),some (.s w.2.1),some (.i w.2.2),g]):=by
 have e:=yc (ρ:=[some (.s o),some (.l (W.map wP)),some (.d (hD h)),some (.b b),some (.s w.1),some (.s w.2.1),some (.i w.2.2),a7]) (a:=zY (yX 7 (mOp zJ (mOp pIx (zc 2) (zc 4)) (zc 6))) (sIf (mOr (z0 (mOp (pIn true) (zc 5) (zc 2))) (z0 (mOp pLt (zc 7) (mOp pIx (zc 2) (zc 5))))) (zY (Gg 2 (zc 5) (zc 7)) (yX 3 (mC (.b true)))) z1)) (b:=z1) (Ao (n:=false) (a:=zc 4) (i:=2) rfl rfl);unfold rlx;dsimp only;cases j:zP h (sk w.1)with
 |none=>rw[j]at e;exact⟨a7,e⟩
 |some x=>
  rw[j]at e;have put:∀{d:Sto},d=[some (.s o),some (.l (W.map wP)),some (.d (hD h)),some (.b b),some (.s w.1),some (.s w.2.1),some (.i w.2.2),some (.i (x+w.2.2))]->zY (Gg 2 (zc 5) (zc 7)) (yX 3 (mC (.b true))) d=.ok (.nx [some (.s o),some (.l (W.map wP)),some (.d (hD (dput h (sk w.2.1) (x+w.2.2)))),some (.b true),some (.s w.1),some (.s w.2.1),some (.i w.2.2),some (.i (x+w.2.2))]):=λ{d} l=>by subst l;refine zd ⟨[some (.s o),some (.l (W.map wP)),some (.d (hD (dput h (sk w.2.1) (x+w.2.2)))),some (.b true),some (.s w.1),some (.s w.2.1),some (.i w.2.2),some (.i (x+w.2.2))].set 3 (some (.b b)),?_,rfl⟩;show(if(hD h).length<sizeLine then Out.ok (Fw.nx [some (.s o),some (.l (W.map wP)),some (.d (dput (hD h) (sk w.2.1) (.i (x+w.2.2)))),some (.b b),some (.s w.1),some (.s w.2.1),some (.i w.2.2),some (.i (x+w.2.2))])else .wall)=_;rw[if_pos (by rw[Na];exact T8 q (by decide)),M_];rfl
  have p:yX 7 (mOp zJ (mOp pIx (zc 2) (zc 4)) (zc 6)) [some (.s o),some (.l (W.map wP)),some (.d (hD h)),some (.b b),some (.s w.1),some (.s w.2.1),some (.i w.2.2),a7]=.ok (.nx [some (.s o),some (.l (W.map wP)),some (.d (hD h)),some (.b b),some (.s w.1),some (.s w.2.1),some (.i w.2.2),some (.i (x+w.2.2))]):=yt (zq (Fc rfl rfl j) rfl rfl);refine⟨some (.i (x+w.2.2)),e.trans ?_⟩;show zY _ _ _=_;refine zd ⟨_,p,?_⟩;cases f:zP h (sk w.2.1)with
  |none=>refine(yc (Fd ((Ao (n:=true) (a:=zc 5) (i:=2) rfl rfl).trans (by rw[f];rfl)))).trans ?_;exact put rfl
  |some y=>
   dsimp only;have t:=yc (ρ:=[some (.s o),some (.l (W.map wP)),some (.d (hD h)),some (.b b),some (.s w.1),some (.s w.2.1),some (.i w.2.2),some (.i (x+w.2.2))]) (a:=zY (Gg 2 (zc 5) (zc 7)) (yX 3 (mC (.b true)))) (b:=z1) (nt (x:=false) ((Ao (n:=true) (a:=zc 5) (i:=2) rfl rfl).trans (by rw[f];rfl)) (z5 (m:=mOp pLt (zc 7) (mOp pIx (zc 2) (zc 5))) (b:=decide (x+w.2.2<y)) (zq rfl (Fc rfl rfl f) rfl)));refine t.trans ?_;by_cases c:x+w.2.2<y
   .rw[if_pos c,T5 c];exact put rfl
   .rw[if_neg c,a0a c];rfl
def pC{K:Ti}{o:Str}{W:List Wy}(n:K.length<=1000)(hW:∀w∈W,sk w.2.1∈K/\1<=w.2.2):∀{V:List Wy}{u:Ht×Bool}{r:Tw},(∀w∈V,w∈W)->sS W K o u.1->G4 r->∃a,G4 a/\vO Ql js (V.map wP) (hSt o W u.1 u.2 r)=.ok (.nx (hSt o W (V.foldl rlx u).1 (V.foldl rlx u).2 a))
 |[],u,r,_,_,j=>⟨r,j,rfl⟩
 |w::V,u,r,l,i,j=>by obtain⟨y,x,v,c,rfl⟩:=j;obtain⟨d,e⟩:=G5 (o:=o) (W:=W) (h:=u.1) (b:=u.2) (w:=w) (a7:=c) (a1g (a0o i.len n) (by decide));obtain⟨g,m⟩:=hW w (l w S4);obtain⟨p,_⟩:=Fb (u:=u) (w:=w) i (l w S4) g m;obtain⟨a,f,q⟩:=pC n hW (V:=V) (u:=rlx u w) (r:=[some (.s w.1),some (.s w.2.1),some (.i w.2.2),d]) (λs h=>l s (S6 _ h)) p ⟨_,_,_,_,rfl⟩;refine⟨a,f,?_⟩;rw[a1j,<- q];show(js [some (.s o),some (.l (W.map wP)),some (.d (hD u.1)),some (.b u.2),some (.s w.1),some (.s w.2.1),some (.i w.2.2),c]).bind _=_;rw[e];rfl
def Fe(l:K.length<=1000)(hW:∀w∈W,sk w.2.1∈K/\1<=w.2.2)(h:Ht)(i:sS W K o h)(r:Tw)(v:G4 r):∃n a j,sS W K o a/\(∀w∈W,US a w)/\j5 jt yV n (hSt o W h true r)=.ok (.nx (hSt o W a false j)):=by
 obtain⟨c,f,y⟩:=pC (o:=o) l hW (V:=W) (u:=(h,false)) (λw h=>h) i v;obtain⟨m,s⟩:=pB (W:=W) (u:=(h,false)) i λw h=>⟨h,hW w h⟩;have x:yV (hSt o W h true r)=.ok (.nx (hSt o W (W.foldl rlx (h,false)).1 (W.foldl rlx (h,false)).2 c)):=zd ⟨hSt o W h false r,rfl,qV (ye rfl) y⟩;have one:∀{n d},j5 jt yV n (hSt o W (W.foldl rlx (h,false)).1 (W.foldl rlx (h,false)).2 c)=d->j5 jt yV (n+1) (hSt o W h true r)=d:=λ{n d} e=>by show(yV (hSt o W h true r)).bind _=_;rw[x];exact e
 rcases s with⟨p,g⟩|⟨q,b⟩
 .refine⟨2,h,c,i,g,one ?_⟩;rw[p];rfl
 .obtain⟨n,a,j,z,g,e⟩:=Fe l hW (W.foldl rlx (h,false)).1 m c f;refine⟨n+1,a,j,z,g,one ?_⟩;rw[q];exact e
termination_by (K.length-h.length,GZ h)
decreasing_by exact b
def fR(o:Str)(W:List Wy)(h:Ht):Prop:=sS W (sk o::W.map λw=>sk w.2.1) o h/\∀w∈W,US h w
def dC(p:W.length<=100)(b:∀w∈W,1<=w.2.2):∃h,fR o W h/\yO [.s o,.l (W.map wP)]=.ok (.d (hD h)):=by
 have l:sS W (sk o::W.map λw=>sk w.2.1) o [(sk o,0)]:=by
  refine⟨λg y e=>?_,a04.mpr ⟨by simp,List.nodup_nil⟩,λk d=>?_,λk x e=>?_,?_⟩
  .rw[yz]at e;split at e
   .rename_i c;exact .inl c.symm
   .cases e
  .rw[a0j.mp d];exact S4
  .rw[yz]at e;split at e
   .cases e;exact a1d _
   .cases e
  .rw[yz,if_pos rfl]
 obtain⟨n,f,m,i,j,e⟩:=Fe (o:=o) (W:=W) (K:=sk o::W.map λw=>sk w.2.1) (by rw[S0,v4];omega) (λw a=>⟨S6 _ (a0P.mpr ⟨w,a,rfl⟩),b w a⟩) [(sk o,0)] l [none,none,none,none] ⟨_,_,_,_,rfl⟩;refine⟨f,⟨i,j⟩,zM ?_⟩;exact zd ⟨_,rfl,zd ⟨hSt o W [(sk o,0)] true [none,none,none,none],rfl,zd ⟨_,xn e (by intro z;cases z),rfl⟩⟩⟩
abbrev signs:Str:="abcdefghijklmnopqrstuvwxyz0123456789"
def bq:signs.length=36:=by decide +kernel
def sgn(r:Int):Str:=⟨#[(signs.cps.toList[r.toNat]?).getD 0]⟩
def Nb(b:0<=r)(d:r<36):pIx (.s signs) (.i r)=.ok (.s (sgn r)):=by
 unfold pIx;have c:signs.length<=sizeLine:=by rw[bq];decide
 simp only[c,if_true];have a:r.toNat<signs.cps.toList.length:=by have:=bq;unfold Str.length at this;simp;omega
 rw[xm b];unfold sgn;rw[T4 a];rfl
def G6:∀a:Fin 36,∀b:Fin 36,sgn (a.val:Int)=sgn (b.val:Int)->a=b:=by decide +kernel
def G7(a:0<=r)(c:r<36)(b:0<=s)(d:s<36)(h:sgn r=sgn s):r=s:=by
 have:=G6 ⟨r.toNat,by omega⟩ ⟨s.toNat,by omega⟩ (by
  show sgn (r.toNat:Int)=sgn (s.toNat:Int);rw[a2i a,a2i b];exact h)
 have:=a0F Fin.val this;simp only at this;omega
def str_inj{a b a' c:Str}(f:a.length=a'.length)(h:a++b=a'++c):a=a'/\b=c:=by have d:a.cps++b.cps=a'.cps++c.cps:=a0F Str.cps h;have:=Array.append_inj d f;obtain⟨x⟩:=a;obtain⟨y⟩:=b;obtain⟨i⟩:=a';obtain⟨g⟩:=c;obtain⟨d,e⟩:=this;exact⟨a0F Str.mk d,a0F Str.mk e⟩
def Sgs(z:Str):Prop:=∀c∈z.cps.toList,c∈signs.cps.toList
def Sgs.app(g:Sgs a)(f:Sgs b):Sgs (a++b):=λc d=>by have e:(a++b).cps.toList=a.cps.toList++b.cps.toList:=Array.toList_append;rw[e]at d;exact(a0B.mp d).elim (g c) (f c)
def Sgs.sgn{r:Int}(h0:0<=r)(h1:r<36):Sgs (sgn r):=λc hc=>by
 have hl:r.toNat<signs.cps.toList.length:=by have:=bq;unfold Str.length at this;simp;omega
 have e:(K51.sgn r).cps.toList=[signs.cps.toList[r.toNat]'hl]:=by show[(signs.cps.toList[r.toNat]?).getD 0]=_;rw[T4 hl];rfl
 rw[e]at hc;rw[a0j.mp hc];exact a0N hl
def Nm(z:Str):Prop:=(1<=z.length/\z.length<=12)/\Sgs z
def nodup_range{i:Type}{f:Nat->i}(h:∀j k,j<n->k<n->f j=f k->j=k):((List.range n).map f).Nodup:=by rw[a2r,List.pairwise_map];refine List.Pairwise.imp_of_mem ?_ (a2r.mp List.nodup_range);intro a b g d c e;exact c (h a b (a0Y.mp g) (a0Y.mp d) e)
def Pl(b:a ρ=.ok (.i n)):kK a ρ=.ok (some n):=by unfold kK;rw[b];rfl
def WOk(N:Sn)(W:List Wy):Prop:=∀w∈W,w.1∈N/\w.2.1∈N/\1<=w.2.2/\w.2.2<=1000000000
def Jp{a:Type}{f:a->PV}{xs:List a}:QR [.l (xs.map f)]=.ok (.i (xs.length:Int)):=by show Out.ok (PV.i ((xs.map f).length:Int))=_;rw[v4]
def W5{N:Sn}{s:Int}(h:0<N.length):∃z∈N,pIx (.l (N.map .s)) (.i (s % (N.length:Int)))=.ok (.s z):=
 oh (a0s _ (by omega)) (a0n _ (by omega))
def br{fr:Bool}{n:Nat}{ms:MS}{xs:SH}{ρ:Sto}(hf:fr=false)(h:ms (xs.map some++List.replicate (n-xs.length) none)=.ok (.nx ρ)):wZ fr n ms xs=.ok .n:=by subst hf;unfold wZ;rw[h];rfl
def yj(h:m ρ=.ok x):jB m ρ=.ok (.nx ρ):=by unfold jB;rw[h];rfl
def nA{x:PV}{n:Int}{k:Nat}(h:QR [x]=.ok (.i (k:Int)))(a:(k:Int)<=n):y_ [x,.i n]=.ok .n:=by refine br rfl ((yc (x:=false) (z5 (zq (zx (xs:=[x]) rfl h) rfl ?_))).trans (show _=Out.ok (Fw.nx [some x,some (.i n)])from rfl));show Out.ok (PV.b (decide ((k:Int)>n)))=_;rw[a0a (by omega)]
def Ap(h:Nm z):qR [.s z]=.ok (.s z):=by
 obtain⟨⟨l1,l2⟩,hs⟩:=h;have hl:QR [.s z]=.ok (.i z.length):=LU (sz5 (by omega));have loop:∀{cs:So}{o:SR},(∀c∈cs,c∈signs.cps.toList)->∃o',vO Qm ju (cs.map λc=>PV.s ⟨#[c]⟩) [some (.s z),o]=.ok (.nx [some (.s z),o']):=by
  intro cs
  induction cs with
  |nil=>intro o _;exact⟨o,rfl⟩
  |cons c cs ih=>
   intro o hc;obtain⟨o',e⟩:=ih (o:=some (.s ⟨#[c]⟩)) λx hx=>hc x (S6 _ hx);refine⟨o',?_⟩;have eb:ju [some (.s z),some (.s ⟨#[c]⟩)]=.ok (.nx [some (.s z),some (.s ⟨#[c]⟩)]):=by refine(yc (x:=false) (z5 (zq (x:=.s ⟨#[c]⟩) (y:=.s signs) rfl rfl ?_))).trans rfl;show Out.ok (PV.b (xor true (!(Builtin.Str.occurrences signs ⟨#[c]⟩ 0 signs.length 1).isEmpty)))=_;rw[StrLaws.found_one,T5 (hc c S4)];rfl
   show(ju [some (.s z),some (.s ⟨#[c]⟩)]).bind _=_;rw[eb];exact e
 obtain⟨o',e⟩:=loop (cs:=z.cps.toList) (o:=none) hs;refine zM (zd ⟨_,(yc (nt (x:=false) (y:=false) ((E_ (x:=(z.length:Int)) (zx (xs:=[.s z]) rfl hl)).trans (by rw[a0a (by omega)])) ((XJ (x:=(z.length:Int)) (zx (xs:=[.s z]) rfl hl)).trans (by rw[a0a (by omega)])))).trans (show _=Out.ok (Fw.nx [some (.s z),none])from rfl),zd ⟨_,qV (signs_at rfl) e,rfl⟩⟩)
def dD(P:Sn):List (Key×PV):=P.map λz=>(sk z,.b true)
def pD(h:z∉P):zP (dD P) (sk z)=none:=by
 cases e:zP (dD P) (sk z)with
 |none=>rfl
 |some x=>have:=JZ e;obtain⟨y,a,b⟩:=a0P.mp this;cases b;exact absurd a h
def Aq{N:Sn}(c:N.Nodup)(g:∀z∈N,Nm z)(m:N.length<=12):qS [.l (N.map .s)]=.ok .n:=by
 have loop:∀{R P:Sn}{o:SR},P++R=N->∃b a,vO Qo jv (R.map .s) [some (.l (N.map .s)),some (.d (dD P)),o]=.ok (.nx [some (.l (N.map .s)),some (.d (dD b)),a]):=by
  intro R
  induction R with
  |nil=>intro P o _;exact⟨P,o,rfl⟩
  |cons z R j=>
   intro P o e;obtain⟨b,a,i⟩:=j (P:=P++[z]) (o:=some (.s z)) (by rw[a0w];exact e);refine⟨b,a,?_⟩;have hz:z∉P:=λh=>by rw[<- e]at c;exact(a1E.mp c).2.2 z h z S4 rfl
   have d:z∈N:=by rw[<- e];exact a0c _ S4
   have hp:(dD P).length<=12:=by have:=a0F List.length e;rw[S9]at this;unfold dD;rw[v4];omega
   have en:z4 [.s z,.d (dD P)]=.ok (.s z):=by refine zM (zd ⟨_,yj (zx (xs:=[.s z]) rfl (Ap (g z d))),zd ⟨_,(yc (x:=false) (z5 (zq (x:=.s z) (y:=.d (dD P)) rfl rfl ?_))).trans (show _=Out.ok (Fw.nx [some (.s z),some (.d (dD P))])from rfl),rfl⟩⟩);show Out.ok (PV.b (xor false (zP (dD P) (sk z)).isSome))=_;rw[pD hz];rfl
   have l:dput (dD P) (sk z) (.b true)=dD (P++[z]):=by unfold dput;rw[w6,pD hz];unfold dD;rw[a0m];rfl
   have f:jv [some (.l (N.map .s)),some (.d (dD P)),some (.s z)]=.ok (.nx [some (.l (N.map .s)),some (.d (dD (P++[z]))),some (.s z)]):=by refine zd ⟨_,yj (zx (xs:=[.s z,.d (dD P)]) rfl en),?_⟩;show(if(dD P).length<sizeLine then Out.ok (Fw.nx [some (.l (N.map .s)),some (.d (dput (dD P) (sk z) (.b true))),some (.s z)])else .wall)=_;rw[if_pos (a1g hp (by decide)),l]
   show(jv [some (.l (N.map .s)),some (.d (dD P)),some (.s z)]).bind _=_;rw[f];exact i
 obtain⟨b,a,e⟩:=loop (R:=N) (P:=[]) (o:=none) rfl;exact br rfl (zd ⟨[some (.l (N.map .s)),some (.d (dD [])),none],rfl,qV (ye rfl) e⟩)
def Nc{z:Str}:∀{N:Sn},inP (.str z) (N.map .s)=some (decide (z∈N))
 |[]=>by rw[a0a (by simp)];rfl
 |y::N=>by
  show(match some (V.str y),inP (.str z) (N.map .s)with|some u,some b=>some (eqV u (.str z)||b)|_,_=>none)=_;rw[Nc (N:=N)];show some ((y==z)||decide (z∈N))=_;congr 1;by_cases c:y=z
  .subst c;rw[a1J,T5 S4];rfl
  .rw[a0E.mpr c,Bool.false_or];by_cases h:z∈N
   .rw[T5 h,T5 (S6 _ h)]
   .rw[a0a h,a0a λq=>(a0f.mp q).elim (λe=>c e.symm) h]
def G8{z:Str}{N:Sn}{n:Bool}:pIn n (.s z) (.l (N.map .s))=.ok (.b (xor n (decide (z∈N)))):=by show kW ((inP (.str z) (N.map .s)).map λb=>PV.b (xor n b))=_;rw[Nc];rfl
def kA{z:Str}{N:Sn}(h:z∈N):yh [.s z,.l (N.map .s)]=.ok .n:=
 br rfl ((yc (x:=false) (z5 (zq (x:=.s z) (y:=.l (N.map .s)) rfl rfl (G8.trans (by rw[T5 h];rfl))))).trans (show _=Out.ok (Fw.nx [some (.s z),some (.l (N.map .s))])from rfl))
def Ar(a:1<=m)(b:m<=1000000000):zV [.i m,.i 1]=.ok (.i m):=by refine zM (zd ⟨_,(yc (nt (x:=false) (y:=false) (z5 (zq (x:=.i m) (y:=.i 1) rfl rfl ?_)) ((XJ (x:=m) rfl).trans (by rw[a0a (by omega)])))).trans (show _=Out.ok (Fw.nx [some (.i m),some (.i 1)])from rfl),rfl⟩);show Out.ok (PV.b (decide (m<1)))=_;rw[a0a (by omega)]
def Dr(h:WOk N W):jH [.l (N.map .s),.l (W.map wP)]=.ok .n:=by
 have loop:∀{V:List Wy}{a b c:SR},(∀w∈V,w∈W)->∃d f g,vO Kt kE (V.map wP) [some (.l (N.map .s)),some (.l (W.map wP)),a,b,c]=.ok (.nx [some (.l (N.map .s)),some (.l (W.map wP)),d,f,g]):=by
  intro V
  induction V with
  |nil=>intro a b c _;exact⟨a,b,c,rfl⟩
  |cons w V o=>
   intro a b c i;obtain⟨l,m,p,n⟩:=h w (i w S4);obtain⟨d,f,g,e⟩:=o (a:=some (.s w.1)) (b:=some (.s w.2.1)) (c:=some (.i w.2.2)) λx q=>i x (S6 _ q);refine⟨d,f,g,?_⟩;have j:kE [some (.l (N.map .s)),some (.l (W.map wP)),some (.s w.1),some (.s w.2.1),some (.i w.2.2)]=.ok (.nx [some (.l (N.map .s)),some (.l (W.map wP)),some (.s w.1),some (.s w.2.1),some (.i w.2.2)]):=
    zd ⟨_,yj (zx (xs:=[.s w.1,.l (N.map .s)]) rfl (kA l)),zd ⟨_,yj (zx (xs:=[.s w.2.1,.l (N.map .s)]) rfl (kA m)),yj (zx (xs:=[.i w.2.2,.i 1]) rfl (Ar p n))⟩⟩
   show(kE [some (.l (N.map .s)),some (.l (W.map wP)),some (.s w.1),some (.s w.2.1),some (.i w.2.2)]).bind _=_;rw[j];exact e
 obtain⟨d,f,g,e⟩:=loop (V:=W) (a:=none) (b:=none) (c:=none) λw h=>h;exact br rfl (qV (ye rfl) e)
def lL(N:Sn)(F:Str->Ht):List (Key×PV):=N.map λz=>(sk z,.d (hD (F z)))
def roP(N:Sn)(W:List Wy)(F:Str->Ht):PV:=.o 11 [("places",.l (N.map .s)),("ways",.l (W.map wP)),("lengths",.d (lL N F))]
def Ds:∀{acc:SN},((acc++es).map (·.1)).Nodup->es.foldl (λacc kv=>dput acc kv.1 kv.2) acc=acc++es:=by
 induction es with
 |nil=>intro acc _;rw[a0h];rfl
 |cons e es ih=>
  intro acc nd;have hn:zP acc e.1=none:=by
   cases h:zP acc e.1 with
   |none=>rfl
   |some x=>have hm:e.1∈acc.map (·.1):=a0P.mpr ⟨_,JZ h,rfl⟩;rw[a0m,T2]at nd;exact absurd rfl ((a1E.mp nd).2.2 e.1 hm e.1 S4)
  have ed:dput acc e.1 e.2=acc++[e]:=by unfold dput;rw[w6,hn];rfl
  rw[a1j,ed,ih (by rw[a0w];exact nd),a0w];rfl
def Dt(c:N.Nodup):((lL N F).map (·.1)).Nodup:=by unfold lL;rw[a0U];exact List.Pairwise.map _ (λa b h e=>h (a1A e)) c
def G9(h:o∈N):zP (lL N F) (sk o)=some (.d (hD (F o))):=by
 induction N with
 |nil=>cases h
 |cons z N a=>
  unfold lL;rw[T2,yz];by_cases c:sk z=sk o
  .rw[if_pos c];rw[a1A c]
  .rw[if_neg c];exact a ((a0f.mp h).resolve_left λe=>c (by rw[e]))
def pE{F:Str->Ht}:∀{N:Sn},Gu (N.map λz=>.t [.s z,.d (hD (F z))])=some (lL N F)
 |[]=>rfl
 |z::N=>by show(Gu (N.map λz=>.t [.s z,.d (hD (F z))])).map ((sk z,PV.d (hD (F z)))::·)=_;rw[pE (N:=N)];rfl
def As(h:m (some (.o 11 fs)::r)=.ok v)(a:fs.length<1000):mF 0 [11] f m (some (.o 11 fs)::r)=.ok (.nx (some (.o 11 (Bv fs f v))::r)):=by unfold mF;rw[h];show(if 11∈[11]/\fs.length<1000 then Out.ok (Fw.nx (some (PV.o 11 (Bv fs f v))::r))else .wall)=_;rw[if_pos ⟨S4,a⟩]
structure ROk(N:Sn)(W:List Wy):Prop where
 len:N.length<=12
 nd:N.Nodup
 nm:∀z∈N,Nm z
 wl:W.length<=60
 ok:WOk N W
def nB(R:ROk N W):∃F:Str->Ht,∀z,fR z W (F z)/\yO [.s z,.l (W.map wP)]=.ok (.d (hD (F z))):=
 ⟨λz=>Classical.choose (dC (o:=z) (W:=W) (by have:=R.wl;omega) λw a=>(R.ok w a).2.2.1),λz=>a0z (dC (o:=z) (W:=W) (by have:=R.wl;omega) λw a=>(R.ok w a).2.2.1)⟩
def G_(R:ROk N W)(hF:∀z,yO [.s z,.l (W.map wP)]=.ok (.d (hD (F z)))):qr [.l (N.map .s),.l (W.map wP)]=.ok (roP N W F):=by
 have hl:=R.len;have hw:=R.wl;have ec:lcP Jk Jl Jm (N.map .s) [none,some (.l (W.map wP))] []=.ok (.l (N.map λz=>.t [.s z,.d (hD (F z))])):=by refine WJ PV.s (λz=>.t [.s z,.d (hD (F z))]) (λρ=>∃o,ρ=[o,some (.l (W.map wP))]) N [none,some (.l (W.map wP))] ⟨none,rfl⟩ (λz hz ρ ⟨o,ho⟩=>?_) (by omega);subst ho;exact⟨_,rfl,⟨_,rfl⟩,Yr (zp rfl (zp (zx (xs:=[.s z,.l (W.map wP)]) rfl (hF z)) rfl)) (T6 rfl)⟩
 have ed:h9 [.l (N.map λz=>.t [.s z,.d (hD (F z))])]=.ok (.d (lL N F)):=by show kW ((Gu (N.map λz=>.t [.s z,.d (hD (F z))])).map λes=>PV.d (oU es))=_;rw[pE];show Out.ok (PV.d (oU (lL N F)))=_;unfold oU;rw[Ds (acc:=[]) (by rw[a05];exact Dt R.nd)];rfl
 have e:Zj [some (.o 11 []),some (.l (N.map .s)),some (.l (W.map wP))]=.ok (.nx [some (roP N W F),some (.l (N.map .s)),some (.l (W.map wP))]):=by refine zd ⟨_,yj (zx (xs:=[.l (N.map .s),.i 12]) rfl (nA Jp (by omega))),zd ⟨_,yj (zx (xs:=[.l (W.map wP),.i 60]) rfl (nA Jp (by omega))),zd ⟨_,yj (zx (xs:=[.l (N.map .s)]) rfl (Aq R.nd R.nm hl)),zd ⟨_,yj (zx (xs:=[.l (N.map .s),.l (W.map wP)]) rfl (Dr R.ok)),zd ⟨_,As (v:=.l (N.map .s)) rfl (by decide),zd ⟨_,As (v:=.l (W.map wP)) rfl (T6 rfl),(As (v:=.d (lL N F)) (zx (zp (mJ (ye rfl) ec) rfl) ed) (T6 rfl)).trans ?_⟩⟩⟩⟩⟩⟩;rw[eI,ai (by decide +kernel),eI,ai (by decide +kernel),ai (by decide +kernel),eI];rfl
 show(match Zj [some (.o 11 []),some (.l (N.map .s)),some (.l (W.map wP))]with | .ok (.nx ρ)=>(match ρ[0]? with|some (some x)=>Out.ok x|_=>.wall) | .ok (.rt _)=>.wall | .ok (.bk _)=>.wall | .ok (.ct _)=>.wall | .exc c fs=>.exc c fs | .wall=>.wall)=_;rw[e];rfl
def Au(h:m ρ=.ok (roP N W F)):QS [11] "places" m ρ=.ok (.l (N.map .s))/\QS [11] "lengths" m ρ=.ok (.d (lL N F)):=by
 constructor
 .unfold QS;rw[h,okb];show(if 11∈[11]then kW (List.lookup ("places":Str) [("places",PV.l (N.map .s)),("ways",.l (W.map wP)),("lengths",.d (lL N F))])else .wall)=_;rw[if_pos S4,g_];rfl
 .unfold QS;rw[h,okb];show(if 11∈[11]then kW (List.lookup ("lengths":Str) [("places",PV.l (N.map .s)),("ways",.l (W.map wP)),("lengths",.d (lL N F))])else .wall)=_;rw[if_pos S4,j_ (by decide +kernel),j_ (by decide +kernel),g_];rfl
def fR.Ha(g:fR o W h)(e:zP h (sk z)=some y)(hz:z≠o):∃w∈W,w.2.1=z/\∃x,zP h (sk w.1)=some x/\x+w.2.2=y:=by
 rcases g.1.sup _ _ e with c|⟨w,b,a,x,d,le⟩
 .exact absurd (a1A c) hz
 .have a:=a1A a;obtain⟨j,f,i⟩:=g.2 w b x d;rw[a,e]at f;cases f;exact⟨w,b,a,x,d,by omega⟩
def Hb:Option Int->PV
 |none=>.n
 |some x=>.i x
def Nd(d:a ρ=.ok (.d (hD h)))(c:b ρ=.ok (.s z)):NW a b ρ=.ok (Hb (zP h (sk z))):=by unfold NW;rw[d,okb];show(b ρ).bind (GF (hD h))=_;rw[c,okb];show Out.ok ((zP (hD h) (sk z)).getD .n)=_;rw[Am];cases zP h (sk z)<;>rfl
def Sa(e:a ρ=.ok (.d (lL N F)))(c:b ρ=.ok (.s o))(d:o∈N):mOp pIx a b ρ=.ok (.d (hD (F o))):=by refine zq e c ?_;show kW (zP (lL N F) (sk o))=_;rw[G9 d];rfl
def W6(a:o∈N)(b:g∈N):zu [roP N W F,.s o,.s g]=.ok (Hb (zP (F o) (sk g))):=by have q:=Au (m:=zc 0) (ρ:=[some (roP N W F),some (.s o),some (.s g)]) (N:=N) (W:=W) (F:=F) rfl;exact zM (zd ⟨_,yj (zx (xs:=[.s o,.l (N.map .s)]) (zp rfl (zp q.1 rfl)) (kA a)),zd ⟨_,yj (zx (xs:=[.s g,.l (N.map .s)]) (zp rfl (zp q.1 rfl)) (kA b)),wY (Nd (Sa q.2 rfl a) rfl)⟩⟩)
def fS(ha:a ρ=.ok (roP N W F))(hm:ms ρ=.ok xs)(h1:(nm==("places":Str))=false)(h2:(nm==("ways":Str))=false)(h3:(nm==("lengths":Str))=false)(h:f (roP N W F::xs)=.ok x):jg [(11,f)] nm a ms ρ=.ok x:=by unfold jg;rw[ha,okb];show(if(List.lookup nm [("places",PV.l (N.map .s)),("ways",.l (W.map wP)),("lengths",.d (lL N F))]).isSome=true then Out.wall else(ms ρ).bind λxs=>f (roP N W F::xs))=_;rw[j_ h1,j_ h2,j_ h3,xq,if_neg (by intro z;cases z),hm,okb];exact h
def XM(a:ms ρ=.ok [.s x,.s y])(b:m ρ=.ok (.dt L)):z0 (eY n ms m) ρ=.ok (xor n (zP L [sk x,sk y]).isSome):=by refine z5 ?_;unfold eY;rw[a];show(m ρ).bind (inT n [sk x,sk y])=_;rw[b];rfl
def dE(b:m ρ=.ok (.dt L))(a:ms ρ=.ok [.s x,.s y])(e:zP L [sk x,sk y]=some v):ic m ms ρ=.ok (.i v):=by unfold ic;rw[b,okb,a,okb];show kW ((zP L [sk x,sk y]).map PV.i)=_;rw[e];rfl
abbrev Lst:=List (List Key×Int)
def Y7(h:0<=k):∃x:Int,zR [.sc ns,.i k]=.ok (.i x):=by
 suffices h:∃x:Int,Y3 [some (.sc ns),some (.i k)]=.ok (.rt (.i x))from h.imp λ_ e=>zM e
 have t:=yc (ρ:=[some (.sc ns),some (.i k)]) (a:=jY (mOp pIx (zc 0) (zc 1))) (b:=z1) (z5 (m:=mOp pLt (zc 1) (zh QR (zb (zc 0) zk))) (b:=decide (k<(ns.length:Int))) (zq rfl (zx (xs:=[.sc ns]) rfl rfl) rfl));by_cases c:k<ns.length
 .rw[T5 c]at t;have e:pIx (.sc ns) (.i k)=.ok (.i (ns[k.toNat]'(by omega))):=by show kW ((atI ns k).map PV.i)=_;rw[xm h,T4 (by omega)];rfl
  exact⟨_,j9 (t.trans (wY (zq rfl rfl e)))⟩
 .rw[a0a c]at t;exact⟨0,zd ⟨_,t,rfl⟩⟩
def wM(h:0<=k)(hp:0<p):∃x:Int,0<=x/\zO [.sc ns,.i k,.i p]=.ok (.i x):=by obtain⟨c,e⟩:=Y7 (ns:=ns) h;have b:=a0s c (show(1000000007:Int)≠0 by decide);have d:=a0n c (show(0:Int)<1000000007 by decide);have a:mOp zX (zh zR (zb (zc 0) (zb (zc 1) zk))) (mC (.i 1000000007)) [some (.sc ns),some (.i k),some (.i p)]=.ok (.i (c % 1000000007)):=wX (zx (xs:=[.sc ns,.i k]) rfl e) (by decide);exact⟨_,a0s _ (by omega),zM (wY (zq (zq a rfl (df (by omega) (by omega))) rfl (kL hp)))⟩
def pF(r:SS):Str:=⟨(r.map λi=>(signs.cps.toList[i.toNat]?).getD 0).toArray⟩
def V_:(pF r).length=r.length:=by show((r.map λi=>(signs.cps.toList[i.toNat]?).getD 0).toArray).size=_;rw[a0b,v4]
def Jq:pF (i::r)=sgn i++pF r:=by show(⟨((signs.cps.toList[i.toNat]?).getD 0::r.map λi=>(signs.cps.toList[i.toNat]?).getD 0).toArray⟩:Str)=⟨#[(signs.cps.toList[i.toNat]?).getD 0]++(r.map λi=>(signs.cps.toList[i.toNat]?).getD 0).toArray⟩;rw[List.toArray_cons]
def pG:∀{r c:SS},(∀i∈r,0<=i/\i<36)->(∀i∈c,0<=i/\i<36)->pF r=pF c->r=c
 |[],[],_,_,_=>rfl
 |[],_::_,_,_,h=>by have:=a0F Str.length h;rw[V_,V_]at this;cases this
 |_::_,[],_,_,h=>by have:=a0F Str.length h;rw[V_,V_]at this;cases this
 |i::r,j::c,e,f,h=>by rw[Jq,Jq]at h;obtain⟨a,b⟩:=str_inj (a:=sgn i) (a':=sgn j) rfl h;have l:=e i S4;have g:=f j S4;rw[G7 l.1 l.2 g.1 g.2 a,pG (λx d=>e x (S6 _ d)) (λx d=>f x (S6 _ d)) b]
def pH:∀{r:SS},(∀i∈r,0<=i/\i<36)->Sgs (pF r)
 |[],_=>λc b=>by have:(pF []).cps.toList=[]:=rfl;rw[this]at b;cases b
 |i::r,h=>by rw[Jq];have a:=h i S4;exact(Sgs.sgn a.1 a.2).app (pH λx d=>h x (S6 _ d))
def iQ:∀(r:SS)(a:Th),(r.map sgn).foldl (λb p=>b++(Str.ofString "").cps++p.cps) a=a++(pF r).cps
 |[],a=>by show a=a++#[];rw[a3w]
 |i::r,a=>by rw[T2,a1j,iQ r,Jq];show a++#[]++(sgn i).cps++(pF r).cps=a++((sgn i).cps++(pF r).cps);rw[a3w,a3l]
def Du:Txt.join "" (r.map sgn)=pF r:=by
 cases r with
 |nil=>rfl
 |cons i r=>show(⟨(r.map sgn).foldl (λa p=>a++(Str.ofString "").cps++p.cps) (sgn i).cps⟩:Str)=_;rw[iQ,Jq];rfl
def pJ:∀{r:SS},((r.map sgn).map (λt:Str=>t.length)).sum=r.length
 |[]=>rfl
 |i::r=>by rw[T2,T2,a14,pJ,S0];show 1+_=_;omega
def Hc(h:m ρ=.ok (.l ((r.map sgn).map .s)))(b:r.length<=1000):O7 ib (mC (.s "")) m ρ=.ok (.s (pF r)):=by
 show(m ρ).bind (ib "")=_;rw[h,okb];show(match xK ((r.map sgn).map .s)with
  |some (a:Sn)=>if(a.map (λt:Str=>t.length)).sum+a.length*("":Str).length<=16777216 then Out.ok (PV.s (Txt.join "" a))else .wall
  |none=>.wall)=_
 rw[o8];show(if _ then _ else _)=_;have z:("":Str).length=0:=rfl;rw[if_pos (by rw[pJ,z];omega),Du]
def pK{a:Type}{xs:List a}(h:0<=i):gp xs none (some i)=xs.take i.toNat:=by
 unfold gp;show List.take ((if i<0 then(i+(xs.length:Int)).toNat else min i.toNat xs.length)-0) (xs.drop 0)=_;rw[if_neg (by omega),Nat.sub_zero,List.drop_zero];by_cases c:i.toNat<=xs.length
 .rw[Nat.min_eq_left c]
 .rw[Nat.min_eq_right (by omega),a11 (S7 _),a11 (by omega)]
def fT{a:Type}{xs:List a}{i:Int}(h:0<=i)(b:i<=xs.length):gp xs (some i) none=xs.drop i.toNat:=by unfold gp;show List.take (xs.length-(if i<0 then(i+(xs.length:Int)).toNat else min i.toNat xs.length)) (xs.drop (if i<0 then(i+(xs.length:Int)).toNat else min i.toNat xs.length))=_;rw[if_neg (by omega),Nat.min_eq_left (by omega),a11 (by rw[a09];omega)]
def Zn(sg:SS)(c:Int)(k:Nat):List Int:=sg.take (1+c % 11).toNat++if k % 2=1 then sg.drop 11 else[]
def Hd(sg:SS)(c w:Int)(k:Nat):List Int:=(Zn sg c k).set (w / 4 % ((Zn sg c k).length:Int)).toNat ((((Zn sg c k)[(w / 4 % ((Zn sg c k).length:Int)).toNat]?).getD 0+k) % 36)
def rowOf(sg:SS)(c w:Int)(n k:Nat):List Int:=
 if w % 4=1/\n<=12 then sg.take (1+k)else if w % 4=2/\n<=12 then sg.take (n-k)else Hd sg c w k
def UT(h:sg.length=12):((Zn sg c k).length:Int)=1+c % 11+(k % 2:Nat):=by
 have a:=a0s c (show(11:Int)≠0 by decide);have b:=a0n c (show(0:Int)<11 by decide);unfold Zn;rw[S9,a0J,h];have:k % 2=0\/k % 2=1:=by omega
 rcases this with e|e
 .rw[if_neg (by omega)];show((min _ 12+0:Nat):Int)=_;omega
 .rw[if_pos e,a09,h];omega
def Dv(h:i∈Zn sg c k):i∈sg:=by
 unfold Zn at h;rcases a0B.mp h with h|h
 .exact a2e h
 .split at h
  .exact List.mem_of_mem_drop h
  .cases h
def Dw(h:j % 2=k % 2):Zn sg c j=Zn sg c k:=by unfold Zn;rw[h]
def pL(h:∀i∈sg,0<=i/\i<36):∀i∈rowOf sg c w n k,0<=i/\i<36:=λi a=>by
 unfold rowOf at a;split at a
 .exact h i (a2e a)
 .split at a
  .exact h i (a2e a)
  .rcases List.mem_or_eq_of_mem_set a with q|q
   .exact h i (Dv q)
   .rw[q];exact⟨a0s _ (by decide),a0n _ (by decide)⟩
def Av(h:sg.length=12)(b:k<n):1<=(rowOf sg c w n k).length/\(rowOf sg c w n k).length<=12:=by
 have a:=a0s c (show(11:Int)≠0 by decide);have d:=a0n c (show(0:Int)<11 by decide);have:=UT (c:=c) (k:=k) h;unfold rowOf;split
 .rw[a0J,h];omega
 .split
  .rw[a0J,h];omega
  .unfold Hd;rw[a0v];omega
def He(h:sg.length=12)(x:n<=16)(v:j<n)(q:k<n)(e:rowOf sg c w n j=rowOf sg c w n k):j=k:=by
 have m:=a0s c (show(11:Int)≠0 by decide);have y:=a0n c (show(0:Int)<11 by decide);have i:=UT (c:=c) (k:=j) h;have z:=UT (c:=c) (k:=k) h;unfold rowOf at e;have a:=a0F List.length e;by_cases f:w % 4=1/\n<=12
 .rw[if_pos f,if_pos f,a0J,a0J,h]at a;omega
 .rw[if_neg f,if_neg f]at a e;by_cases b:w % 4=2/\n<=12
  .rw[if_pos b,if_pos b,a0J,a0J,h]at a;omega
  .rw[if_neg b,if_neg b]at a e;unfold Hd at a e;rw[a0v,a0v]at a;have p:j % 2=k % 2:=by omega
   rw[Dw (sg:=sg) (c:=c) p]at e i;have u:=a0s (w / 4) (show((Zn sg c k).length:Int)≠0 by omega);have o:=a0n (w / 4) (show(0:Int)<((Zn sg c k).length:Int) by omega);have g:(w / 4 % ((Zn sg c k).length:Int)).toNat<(Zn sg c k).length:=by omega
   generalize(w / 4 % ((Zn sg c k).length:Int)).toNat=s at e g;have d:=a0F (λl:List Int=>l[s]?) e;replace d:((Zn sg c k).set s ((((Zn sg c k)[s]?).getD 0+(j:Int)) % 36))[s]?=((Zn sg c k).set s ((((Zn sg c k)[s]?).getD 0+(k:Int)) % 36))[s]?:=d;rw[a0l g,a0l g]at d;have r:=a0x d;omega
def nC(sg:SS)(c w:Int)(n k:Nat):List Str:=(List.range k).map λk=>pF (rowOf sg c w n k)
def mulL(c:0<=b)(d:b<=1)(a:xs.length<=100):Ke (.l xs) (.i b)=.ok (.l (List.replicate b.toNat xs).flatten):=by
 have:b.toNat=0\/b.toNat=1:=by omega
 exact if_pos ⟨by omega,by omega,a0o (m:=100) (by rcases this with e|e<;>rw[e]<;>omega) (by decide)⟩
def pM(h:ρ[i]?=some (some (.l xs)))(b:m ρ=.ok y)(a:xs.length<100000):c9 i m ρ=.ok (.nx (ρ.set i (some (.l (xs++[y]))))):=by unfold c9;rw[h];show(m ρ).bind _=_;rw[b,okb,if_pos (T8 a (by decide))]
abbrev nSt(ns:SS)(a:Int)(n:Nat)(c w:Int)(sg:SS)(k:Nat)(x y z:SR):Sto:=[some (.sc ns),some (.i a),some (.i (n:Int)),some (.s signs),some (.i c),some (.l (sg.map .i)),some (.i w),some (.l ((nC sg c w n k).map .s)),x,y,z]
def Dx(h:sg.length=12)(C:∀i∈sg,0<=i/\i<36)(B:k<n)(S:n<=16):∃F N L,Y5 (nSt ns a n c w sg k (some (.i (k:Int))) y z)=.ok (.nx (nSt ns a n c w sg (k+1) F N L)):=by
 have R:=a0s c (show(11:Int)≠0 by decide);have T:=a0n c (show(0:Int)<11 by decide);have Q:=UT (c:=c) (k:=k) h
 -- the row
 have M:yX 9 (mOp CA (zh kM (zb (mSl pSl (zc 5) bW (kK (mOp zJ (mC (.i 1)) (mOp zX (zc 4) (mC (.i 11)))))) zk)) (mOp Ke (mSl pSl (zc 5) (kK (mC (.i 11))) bW) (mOp zX (zc 8) (mC (.i 2))))) (nSt ns a n c w sg k (some (.i (k:Int))) y z)=.ok (.nx (nSt ns a n c w sg k (some (.i (k:Int))) (some (.l ((Zn sg c k).map .i))) z)):=by
  have f:mSl pSl (zc 5) bW (kK (mOp zJ (mC (.i 1)) (mOp zX (zc 4) (mC (.i 11))))) (nSt ns a n c w sg k (some (.i (k:Int))) y z)=.ok (.l ((sg.take (1+c % 11).toNat).map .i)):=by unfold mSl;rw[show zc 5 (nSt ns a n c w sg k (some (.i (k:Int))) y z)=.ok (.l (sg.map .i))from rfl,okb,show bW (nSt ns a n c w sg k (some (.i (k:Int))) y z)=.ok none from rfl,okb,Pl (zq rfl (wX rfl (by decide)) rfl),okb];show Out.ok (PV.l (gp (sg.map PV.i) none (some (1+c % 11))))=_;rw[pK (by omega),a13]
  have G:mSl pSl (zc 5) (kK (mC (.i 11))) bW (nSt ns a n c w sg k (some (.i (k:Int))) y z)=.ok (.l ((sg.drop 11).map .i)):=by show Out.ok (PV.l (gp (sg.map PV.i) (some 11) none))=_;rw[fT (by decide) (by rw[v4];omega),a3g];rfl
  refine yt (zq (zx (zp f rfl) rfl) (zq G (wX rfl (by decide)) (z:=.l ((if k % 2=1 then sg.drop 11 else[]).map .i)) ?_) ?_)
  .have:k % 2=0\/k % 2=1:=by omega
   rw[mulL (by omega) (by omega) (by rw[v4,a09];omega)];rcases this with e|e
   .rw[if_neg (by omega),show((k:Int) % 2).toNat=0 by omega];rfl
   .rw[if_pos e,show((k:Int) % 2).toNat=1 by omega];show Out.ok (PV.l ((sg.drop 11).map PV.i++[]))=_;rw[a0h]
  .show(if _ then _ else _)=_;have O:(if k % 2=1 then sg.drop 11 else[]).length<=1:=by
    split
    .rw[a09];omega
    .exact a0y _
   rw[if_pos (a0o (m:=100) (by rw[v4,v4,a0J];omega) (by decide)),<- a0m];rfl
 have u:=a0s (w / 4) (show((Zn sg c k).length:Int)≠0 by omega);have p:=a0n (w / 4) (show(0:Int)<((Zn sg c k).length:Int) by omega);have l:(w / 4 % ((Zn sg c k).length:Int)).toNat<(Zn sg c k).length:=by omega
 have I:uY 9 (zc 10) (mOp zX (mOp zJ (mOp pIx (zc 9) (zc 10)) (zc 8)) (mC (.i 36))) (nSt ns a n c w sg k (some (.i (k:Int))) (some (.l ((Zn sg c k).map .i))) (some (.i (w / 4 % ((Zn sg c k).length:Int)))))=.ok (.nx (nSt ns a n c w sg k (some (.i (k:Int))) (some (.l ((Hd sg c w k).map .i))) (some (.i (w / 4 % ((Zn sg c k).length:Int)))))):=by
  have f:mOp pIx (zc 9) (zc 10) (nSt ns a n c w sg k (some (.i (k:Int))) (some (.l ((Zn sg c k).map .i))) (some (.i (w / 4 % ((Zn sg c k).length:Int)))))=.ok (.i (((Zn sg c k)[(w / 4 % ((Zn sg c k).length:Int)).toNat]?).getD 0)):=by refine zq rfl rfl ((ny u (by rw[v4];exact p)).trans ?_);rw[a0K,T4 l];rfl
  unfold uY;rw[wX (zq f rfl rfl) (by decide),okb];show(match ixN ((Zn sg c k).map PV.i).length (w / 4 % ((Zn sg c k).length:Int))with
   |some j=>Out.ok (Fw.nx _)
   |none=>.wall)=_
  rw[show ixN ((Zn sg c k).map PV.i).length (w / 4 % ((Zn sg c k).length:Int))=some (w / 4 % ((Zn sg c k).length:Int)).toNat by unfold ixN;rw[v4,if_pos u,if_pos p]];show Out.ok (Fw.nx (nSt ns a n c w sg k (some (.i (k:Int))) (some (.l (((Zn sg c k).map PV.i).set _ (PV.i _)))) _))=_;rw[<- List.map_set];rfl
 have E:sIf (UB (z0 (mOp (vD false) (mOp zX (zc 6) (mC (.i 4))) (mC (.i 1)))) (z0 (mOp pLe (zc 2) (mC (.i 12))))) (yX 9 (mSl Gb (zc 5) bW (kK (mOp zJ (mC (.i 1)) (zc 8))))) z1 (nSt ns a n c w sg k (some (.i (k:Int))) (some (.l ((Hd sg c w k).map .i))) (some (.i (w / 4 % ((Zn sg c k).length:Int)))))=.ok (.nx (nSt ns a n c w sg k (some (.i (k:Int))) (some (.l ((if w % 4=1/\n<=12 then sg.take (1+k)else Hd sg c w k).map .i))) (some (.i (w / 4 % ((Zn sg c k).length:Int)))))):=by
  refine(yc (x:=decide (w % 4=1)&&decide ((n:Int)<=12)) (wL (XI (wX rfl (by decide))) (z5 (zq rfl rfl rfl)))).trans ?_;by_cases b:w % 4=1/\n<=12
  .rw[if_pos (by rw[T5 b.1,T5 (show(n:Int)<=12 by omega)];rfl),if_pos b];refine(yt (x:=.l ((sg.take (1+k)).map .i)) ?_);show Out.ok (PV.l (gp (sg.map PV.i) none (some (1+(k:Int)))))=_;rw[pK (by omega),a13,show(1+(k:Int)).toNat=1+k by omega]
  .rw[if_neg (λq=>b (by obtain⟨x,y⟩:=(a1a _ _).mp q;exact⟨a0G x,by have:=a0G y;omega⟩)),if_neg b];rfl
 have H:sIf (UB (z0 (mOp (vD false) (mOp zX (zc 6) (mC (.i 4))) (mC (.i 2)))) (z0 (mOp pLe (zc 2) (mC (.i 12))))) (yX 9 (mSl Gb (zc 5) bW (kK (mOp d_ (zc 2) (zc 8))))) z1 (nSt ns a n c w sg k (some (.i (k:Int))) (some (.l ((if w % 4=1/\n<=12 then sg.take (1+k)else Hd sg c w k).map .i))) (some (.i (w / 4 % ((Zn sg c k).length:Int)))))=.ok (.nx (nSt ns a n c w sg k (some (.i (k:Int))) (some (.l ((rowOf sg c w n k).map .i))) (some (.i (w / 4 % ((Zn sg c k).length:Int)))))):=by
  refine(yc (x:=decide (w % 4=2)&&decide ((n:Int)<=12)) (wL (XI (wX rfl (by decide))) (z5 (zq rfl rfl rfl)))).trans ?_;unfold rowOf;by_cases b:w % 4=2/\n<=12
  .rw[if_pos (by rw[T5 b.1,T5 (show(n:Int)<=12 by omega)];rfl),if_neg (show ¬(w % 4=1/\n<=12) by omega),if_neg (show ¬(w % 4=1/\n<=12) by omega),if_pos b];refine(yt (x:=.l ((sg.take (n-k)).map .i)) ?_);show Out.ok (PV.l (gp (sg.map PV.i) none (some ((n:Int)-(k:Int)))))=_;rw[pK (by omega),a13,show((n:Int)-(k:Int)).toNat=n-k by omega]
  .rw[if_neg (λq=>b (by obtain⟨x,y⟩:=(a1a _ _).mp q;exact⟨a0G x,by have:=a0G y;omega⟩)),if_neg b];rfl
 have P:=Av (c:=c) (w:=w) h B;have v:=pL (c:=c) (w:=w) (n:=n) (k:=k) C;have K:lcP Z4 Z5 Z6 ((rowOf sg c w n k).map .i) [none,some (.s signs)] []=.ok (.l (((rowOf sg c w n k).map sgn).map .s)):=by rw[a0U];refine WJ (λi:Int=>PV.i i) (λi:Int=>PV.s (sgn i)) (λd=>∃o,d=[o,some (.s signs)]) _ _ ⟨none,rfl⟩ (λi s d ⟨o,D⟩=>?_) (by omega);subst D;exact⟨_,rfl,⟨_,rfl⟩,zq rfl rfl (Nb (v i s).1 (v i s).2)⟩
 have J:(nC sg c w n k).map PV.s++[PV.s (pF (rowOf sg c w n k))]=(nC sg c w n (k+1)).map .s:=by unfold nC;rw[List.range_succ,a0m,a0m];rfl
 have A:=pM (i:=7) (ρ:=nSt ns a n c w sg k (some (.i (k:Int))) (some (.l ((rowOf sg c w n k).map .i))) (some (.i (w / 4 % ((Zn sg c k).length:Int))))) rfl (Hc (r:=rowOf sg c w n k) (mJ (mi:=yr (zc 9)) (fr:=[none,some 3]) (g:=Z4) (c:=Z5) (e:=Z6) (ye rfl) K) (by omega)) (by rw[v4,nC,v4,a0D];omega);rw[J]at A;exact⟨_,_,_,zd ⟨_,M,zd ⟨_,yt (zq (nr rfl (by decide) (by decide)) (zx (xs:=[.l ((Zn sg c k).map .i)]) rfl Jp) (kL (by omega))),zd ⟨_,I,zd ⟨_,E,zd ⟨_,H,A⟩⟩⟩⟩⟩⟩
def iR(J:0<=a)(A:n<=16):∃N:List Str,N.length=n/\N.Nodup/\(∀z∈N,Nm z)/\qB [.sc ns,.i a,.i (n:Int)]=.ok (.l (N.map .s)):=by
 obtain⟨q,ec⟩:=Y7 (ns:=ns) J;obtain⟨w,L,E⟩:=wM (ns:=ns) (k:=a+1) (p:=65537) (by omega) (by decide);have H:=a0s q (show(1000000007:Int)≠0 by decide);have G:=a0n q (show(0:Int)<1000000007 by decide);have v:yX 4 (mOp zX (zh zR (zb (zc 0) (zb (zc 1) zk))) (mC (.i 1000000007))) [some (.sc ns),some (.i a),some (.i (n:Int)),some (.s signs),none,none,none,none,none,none,none]=.ok (.nx [some (.sc ns),some (.i a),some (.i (n:Int)),some (.s signs),some (.i (q % 1000000007)),none,none,none,none,none,none]):=yt (wX (zx (xs:=[.sc ns,.i a]) rfl ec) (by decide));generalize q % 1000000007=c at H G v;have d:∀i∈(List.range 12).map (λj:Nat=>(c*16807+7919*(j:Int)*j) % 65521 % 36),0<=i/\i<36:=λi D=>by obtain⟨j,_,rfl⟩:=a0P.mp D;exact⟨a0s _ (by decide),a0n _ (by decide)⟩
 have u:yX 5 (mLC (YA (zb (mC (.i 12)) zk)) [none,some 4] Ko Kp Kq) [some (.sc ns),some (.i a),some (.i (n:Int)),some (.s signs),some (.i c),none,none,none,none,none,none]=.ok (.nx [some (.sc ns),some (.i a),some (.i (n:Int)),some (.s signs),some (.i c),some (.l (((List.range 12).map (λj:Nat=>(c*16807+7919*(j:Int)*j) % 65521 % 36)).map .i)),none,none,none,none,none]):=by refine yt (mJ (oQ (n:=12) rfl (by decide)) ?_);rw[UC,a0U];refine WJ (λk:Nat=>PV.i (k:Int)) (λj:Nat=>PV.i ((c*16807+7919*(j:Int)*j) % 65521 % 36)) (λm=>∃o,m=[o,some (.i c)]) _ _ ⟨none,rfl⟩ (λj r m ⟨o,C⟩=>?_) (by decide);subst C;have r:=a0Y.mp r;exact⟨_,rfl,⟨_,rfl⟩,wX (wX (zq (zq rfl rfl (df (by omega) (by omega))) (zq (zq rfl rfl (df (by decide) (by decide))) rfl (df (by omega) (by omega))) rfl) (by decide)) (by decide)⟩
 have f:((List.range 12).map (λj:Nat=>(c*16807+7919*(j:Int)*j) % 65521 % 36)).length=12:=by rw[v4,a0D]
 generalize(List.range 12).map (λj:Nat=>(c*16807+7919*(j:Int)*j) % 65521 % 36)=sg at u d f;obtain⟨I,⟨x,y,z,l⟩,F⟩:=UD (g:=V3) (b:=Y5) (λk m=>∃x y z,m=nSt ns a n c w sg k x y z) n (nSt ns a n c w sg 0 none none none) ⟨_,_,_,rfl⟩ (λk h m ⟨x,y,z,l⟩=>by
  subst l;obtain⟨K,O,M,e⟩:=Dx (ns:=ns) (a:=a) (c:=c) (w:=w) (y:=y) (z:=z) f d h A;exact⟨_,rfl,_,⟨_,_,_,rfl⟩,.inl e⟩)
 subst l;refine⟨nC sg c w n n,by unfold nC;rw[v4,a0D],nodup_range λj k r h e=>He f A r h (pG (pL d) (pL d) e),λs B=>?_,zM (zd ⟨_,rfl,zd ⟨_,v,zd ⟨_,u,zd ⟨_,yt (zx (xs:=[.sc ns,.i (a+1),.i 65537]) rfl E),zd ⟨_,rfl,zd ⟨_,qV (oQ (n:=n) rfl (by omega)) F,rfl⟩⟩⟩⟩⟩⟩)⟩;obtain⟨k,h,rfl⟩:=a0P.mp B;have h:=a0Y.mp h;have:=Av (c:=c) (w:=w) f h;exact⟨by rw[V_];exact this,pH (pL d)⟩
def WS(N:Sn)(W:List Wy):Prop:=∀w∈W,w.1∈N/\w.2.1∈N/\1<=w.2.2/\w.2.2<=200000000
def WS.ok(h:WS N W):WOk N W:=λw e=>by obtain⟨a,b,c,d⟩:=h w e;exact⟨a,b,c,by omega⟩
def WS.app(h:WS N W)(e:a∈N)(c:g∈N)(d:1<=m)(f:m<=200000000):WS N (W++[(a,g,m)]):=λw b=>by
 rcases a0B.mp b with b|b
 .exact h w b
 .rw[a0j.mp b];exact⟨e,c,d,f⟩
abbrev wSt(ns:SS)(a:Int)(N:Sn)(f:Int)(W:List Wy)(x y:SR):Sto:=[some (.sc ns),some (.i a),some (.l (N.map .s)),some (.i (N.length:Int)),some (.i f),some (.l (W.map wP)),x,y]
def Aw(h:m (wSt ns a N f W x y)=.ok (.t [.s o,.s g,.i n]))(b:W.length<1000):c9 5 m (wSt ns a N f W x y)=.ok (.nx (wSt ns a N f (W++[(o,g,n)]) x y)):=by refine(pM rfl h (by rw[v4];omega)).trans ?_;show Out.ok (Fw.nx [some (.sc ns),some (.i a),some (.l (N.map .s)),some (.i (N.length:Int)),some (.i f),some (.l (W.map wP++[wP (o,g,n)])),x,y])=_;rw[show W.map wP++[wP (o,g,n)]=(W++[(o,g,n)]).map wP by rw[a0m];rfl]
def Dy(U:0<=a)(E:0<N.length)(h1:N.length<=12):∃W:List Wy,W.length<=N.length+8/\WS N W/\km [.sc ns,.i a,.l (N.map .s)]=.ok (.l (W.map wP)):=by
 obtain⟨u,Y,Q⟩:=wM (ns:=ns) (k:=a) (p:=65521) U (by decide);obtain⟨v,v0,ev⟩:=wM (ns:=ns) (k:=a+1) (p:=65519) (by omega) (by decide);obtain⟨r,Z,P⟩:=wM (ns:=ns) (k:=a+2) (p:=65479) (by omega) (by decide);obtain⟨f,hf,R⟩:=Al (xs:=[60,60,3,200000000]) (i:=u % 4) (a0s _ (by decide)) (a0n _ (by decide));have hf:1<=f/\f<=200000000:=by simp only[List.mem_cons,List.not_mem_nil,or_false]at hf;omega
 have K:=λx:Int=>a0s x (show f≠0 by omega);have L:=λx:Int=>a0n x (show(0:Int)<f by omega);obtain⟨q,F,A,l1,T,S⟩:∃(W:List Wy)(x y:SR),W.length<=N.length/\WS N W/\sIf (z0 (mOp pGt (mOp zX (zh zO (zb (zc 0) (zb (mOp zJ (zc 1) (mC (.i 1))) (zb (mC (.i 65519)) zk)))) (mC (.i 3))) (mC (.i 0)))) (JT (YA (zb (zc 3) zk)) Zg Zh) z1 (wSt ns a N f [] none none)=.ok (.nx (wSt ns a N f W x y)):=by
  have t:=yc (ρ:=wSt ns a N f [] none none) (a:=JT (YA (zb (zc 3) zk)) Zg Zh) (b:=z1) (XJ (a:=mOp zX (zh zO (zb (zc 0) (zb (mOp zJ (zc 1) (mC (.i 1))) (zb (mC (.i 65519)) zk)))) (mC (.i 3))) (n:=0) (wX (zx (xs:=[.sc ns,.i (a+1),.i 65519]) rfl ev) (by decide)));generalize decide (v % 3>0)=d at t;cases d with
  |false=>exact⟨[],none,none,a0y _,λw D=>(nomatch D),t⟩
  |true=>
   obtain⟨H,⟨W,x,y,z,h,c⟩,e⟩:=UD (g:=Zg) (b:=Zh) (λk j=>∃W x y,W.length=k/\WS N W/\j=wSt ns a N f W x y) N.length (wSt ns a N f [] none none) ⟨[],none,none,rfl,λw D=>(nomatch D),rfl⟩ (λk O j ⟨W,x,y,z,h,c⟩=>by
    subst c;obtain⟨o,C,I⟩:=oh (xs:=N) (i:=(k:Int)) (by omega) (by omega);obtain⟨g,G,B⟩:=W5 (N:=N) (s:=(k:Int)+1) E;obtain⟨s,_,J⟩:=wM (ns:=ns) (k:=a+k) (p:=65497) (by omega) (by decide);have:=K s;have:=L s;refine⟨_,rfl,_,⟨W++[(o,g,1+s % f)],some (.i (k:Int)),y,by rw[S9,z];rfl,h.app C G (by omega) (by omega),rfl⟩,.inl (Aw (Yr (zp (zq rfl rfl I) (zp (zq rfl (zq (zq rfl rfl rfl) rfl (kL (by omega))) B) (zp (zq rfl (zq (zx (xs:=[.sc ns,.i (a+k),.i 65497]) rfl J) rfl (kL (by omega))) rfl) rfl))) (T6 rfl)) (by omega))⟩)
   subst c;exact⟨W,x,y,by omega,h,t.trans (qV (oQ (n:=N.length) rfl (by omega)) e)⟩
 have M:=a0s r (show(9:Int)≠0 by decide);have X:=a0n r (show(0:Int)<9 by decide);have l:zb (mOp zX (zh zO (zb (zc 0) (zb (mOp zJ (zc 1) (mC (.i 2))) (zb (mC (.i 65479)) zk)))) (mC (.i 9))) zk (wSt ns a N f q F A)=.ok [.i (r % 9)]:=zp (wX (zx (xs:=[.sc ns,.i (a+2),.i 65479]) rfl P) (by decide)) rfl;generalize r % 9=m at M X l;obtain⟨H,⟨W,x,y,z,h,c⟩,e⟩:=UD (g:=Xr) (b:=Xs) (λk j=>∃W x y,W.length<=q.length+k/\WS N W/\j=wSt ns a N f W x y) m.toNat (wSt ns a N f q F A) ⟨q,F,A,S7 _,T,rfl⟩ (λk O j ⟨W,x,y,z,h,c⟩=>by
  subst c;obtain⟨s,J⟩:=Y7 (ns:=ns) (k:=a+k) (by omega);obtain⟨o,C,I⟩:=W5 (N:=N) (s:=s) E;obtain⟨g,G,B⟩:=W5 (N:=N) (s:=s / (N.length:Int)) E;have:=K (s / 25);have:=L (s / 25);refine⟨_,rfl,_,⟨W++[(o,g,1+s / 25 % f)],some (.i (k:Int)),some (.i s),by rw[S9];show W.length+1<=_;omega,h.app C G (by omega) (by omega),rfl⟩,.inl (zd ⟨wSt ns a N f W (some (.i (k:Int))) (some (.i s)),yt (zx (xs:=[.sc ns,.i (a+k)]) rfl J),Aw (Yr (zp (zq rfl (zq rfl rfl (kL (by omega))) I) (zp (zq rfl (zq (zq rfl rfl (Er (by omega) (by omega))) rfl (kL (by omega))) B) (zp (zq rfl (zq (nr rfl (by decide) (by decide)) rfl (kL (by omega))) rfl) rfl))) (T6 rfl)) (by omega)⟩)⟩)
 subst c;exact⟨W,by omega,h,zM (zd ⟨_,yt (zx (xs:=[.l (N.map .s)]) rfl Jp),zd ⟨_,yt (zq (sR (xs:=[.i 60,.i 60,.i 3,.i 200000000]) rfl (T6 rfl)) (wX (zx (xs:=[.sc ns,.i a,.i 65521]) rfl Q) (by decide)) R),zd ⟨_,rfl,zd ⟨_,S,zd ⟨_,qV (mK l M (by omega)) e,rfl⟩⟩⟩⟩⟩)⟩
def Ax(h:m ρ=.ok (.dt L))(a:ms ρ=.ok [.s x,.s y])(b:md ρ=.ok (.i n)):sv m ms md ρ=.ok (.i ((zP L [sk x,sk y]).getD n)):=by unfold sv;rw[h,okb];show(ms ρ).bind _=_;rw[a,okb];show(md ρ).bind (Pd L [sk x,sk y])=_;rw[b,okb];rfl
def nD(h:ρ[i]?=some (some (.dt L)))(b:ms ρ=.ok [.s x,.s y])(c:mv ρ=.ok (.i n))(a:L.length<100000):ie i ms mv ρ=.ok (.nx (ρ.set i (some (.dt (dput L [sk x,sk y] n))))):=by unfold ie;rw[c,okb,h,b];show(if _ then _ else _)=_;exact if_pos (T8 a (by decide))
def pN{a b:Type}[DecidableEq a]{L:List (a×b)}{k:a}{v:b}:(dput L k v).length<=L.length+1:=by
 unfold dput;split
 .rw[v4];omega
 .rw[S9];exact S7 _
def Nf:([sk a,sk b]=[sk c,sk d])↔(a=c/\b=d):=by
 constructor
 .intro h;injection h with h1 h2
  injection h2 with h2 _
  exact⟨a1A h1,a1A h2⟩
 .rintro ⟨rfl,rfl⟩;rfl
inductive WkM(N:Sn)(W:List Wy)(M:Sn):Str->Str->Int->Prop
 |nil {a}:a∈N->WkM N W M a a 0
 |edge {w:Wy}:w∈W->WkM N W M w.1 w.2.1 w.2.2
 |via {a m b u v}:m∈M->WkM N W M a m u->WkM N W M m b v->WkM N W M a b (u+v)
section
variable {N M:Sn}{W:List Wy}{L L' L0:Lst}{a b:Str}{u v:Int}
def WkM.nn(hW:WS N W)(h:WkM N W M a b v):0<=v:=by
 induction h with
 |nil _=>exact a1d _
 |edge c=>have:=(hW _ c).2.2.1;omega
 |via _ _ _ i j=>omega
def WkM.ends(hW:WS N W)(h:WkM N W M a b v):a∈N/\b∈N:=by
 induction h with
 |nil h=>exact⟨h,h⟩
 |edge c=>exact⟨(hW _ c).1,(hW _ c).2.1⟩
 |via _ _ _ i j=>exact⟨i.1,j.2⟩
def WkM.split(B:∀z∈M',z∈M\/z=x)(hW:WS N W)(h:WkM N W M' a b v):(∃u,u<=v/\WkM N W M a b u)\/∃s t,s+t<=v/\WkM N W M a x s/\WkM N W M x b t:=by
 induction h with
 |nil h=>exact .inl ⟨_,a1d _,.nil h⟩
 |edge w=>exact .inl ⟨_,a1d _,.edge w⟩
 |via e _ _ i j=>
  rcases B _ e with e|rfl
  .rcases i with⟨D,p,d⟩|⟨q,r,p,n,f⟩<;>rcases j with⟨A,o,c⟩|⟨C,y,o,l,g⟩
   .exact .inl ⟨_,by omega,.via e d c⟩
   .exact .inr ⟨_,_,by omega,.via e d l,g⟩
   .exact .inr ⟨_,_,by omega,n,.via e f c⟩
   .have:=f.nn hW;have:=l.nn hW;exact .inr ⟨_,_,by omega,n,g⟩
  .rcases i with⟨D,p,d⟩|⟨q,r,p,n,f⟩<;>rcases j with⟨A,o,c⟩|⟨C,y,o,l,g⟩
   .exact .inr ⟨_,_,by omega,d,c⟩
   .have:=l.nn hW;exact .inr ⟨_,_,by omega,d,g⟩
   .have:=f.nn hW;exact .inr ⟨_,_,by omega,n,c⟩
   .have:=f.nn hW;have:=l.nn hW;exact .inr ⟨_,_,by omega,n,g⟩
def at2(L:Lst)(a b:Str):Option Int:=zP L [sk a,sk b]
def Snd(N:Sn)(W:List Wy)(L:Lst):Prop:=∀a b v,at2 L a b=some v->WkM N W N a b v
def qh(L:Lst)(a b:Str)(v:Int):Prop:=∃u,u<=v/\at2 L a b=some u
def Dwn(L L':Lst):Prop:=∀a b v,at2 L a b=some v->qh L' a b v
def Cmp(N:Sn)(W:List Wy)(M:Sn)(L:Lst):Prop:=∀a b v,WkM N W M a b v->qh L a b v
def Dwn.refl:Dwn L L:=λ_ _ v h=>⟨v,a1d _,h⟩
def qh.dwn(h:qh L a b v)(d:Dwn L L'):qh L' a b v:=by obtain⟨u,l,e⟩:=h;obtain⟨w,f,c⟩:=d _ _ _ e;exact⟨w,by omega,c⟩
def Dwn.trans(d:Dwn L L')(d':Dwn L' L''):Dwn L L'':=λa b v h=>(d a b v h).dwn d'
def Dz(L:Lst)(a b:Str)(v:Int):Lst:=dput L [sk a,sk b] (min v ((zP L [sk a,sk b]).getD v))
def bt:at2 (dput L [sk a,sk b] v) c d=if a=c/\b=d then some v else at2 L c d:=by
 unfold at2;rw[w8];by_cases h:a=c/\b=d
 .rw[if_pos h,if_pos (Nf.mpr h)]
 .rw[if_neg h,if_neg λe=>h (Nf.mp e)]
def fU:Dwn L (Dz L a b v):=λc d w h=>by
 unfold Dz qh;rw[bt];by_cases q:a=c/\b=d
 .obtain⟨rfl,rfl⟩:=q;rw[if_pos ⟨rfl,rfl⟩];unfold at2 at h;rw[h];exact⟨_,Int.min_le_right _ _,rfl⟩
 .rw[if_neg q];exact⟨w,a1d _,h⟩
def Ay:qh (Dz L a b v) a b v:=by unfold Dz qh;rw[bt,if_pos ⟨rfl,rfl⟩];exact⟨_,Int.min_le_left _ _,rfl⟩
def pO(h:Snd N W L)(f:WkM N W N a b v):Snd N W (Dz L a b v):=λc d w e=>by
 unfold Dz at e;rw[bt]at e;split at e
 .rename_i q;obtain⟨rfl,rfl⟩:=q;cases e;cases g:zP L [sk a,sk b]with
  |none=>rw[Option.getD_none,Int.min_self];exact f
  |some x=>
   rw[Option.getD_some];rcases Int.le_total v x with l|l
   .rw[Int.min_eq_left l];exact f
   .rw[Int.min_eq_right l];exact h _ _ _ g
 .exact h _ _ _ e
def pP:(Dz L a b v).length<=L.length+1:=pN
abbrev lSt(N:Sn)(W:List Wy)(L:Lst)(p q r s t z:SR):Sto:=[some (.l (N.map .s)),some (.l (W.map wP)),some (.dt L),p,q,r,s,t,z]
variable {p q r s t z:SR}
def Pn(B:N.length<=12):∃L p,L.length<=N.length/\Snd N W L/\(∀x∈N,qh L x x 0)/\vO wm wo (N.map .s) (lSt N W [] none q r s t z)=.ok (.nx (lSt N W L p q r s t z)):=by
 obtain⟨A,⟨L,p,l,i,n,rfl⟩,e⟩:=WK (g:=wm) (b:=wo) PV.s (λk o=>∃L p,L.length<=k/\Snd N W L/\(∀x∈N.take k,qh L x x 0)/\o=lSt N W L p q r s t z) N (lSt N W [] none q r s t z) ⟨[],none,S7 _,λ_ _ _ e=>(nomatch(show(none:Tr)=some _ from e)),λx f=>(nomatch f),rfl⟩ (λk y o ⟨L,p,l,i,n,j⟩=>by
  subst j;refine⟨_,rfl,_,⟨dput L [sk N[k],sk N[k]] 0,some (.s N[k]),a0o pN (by omega),λc d w e=>?_,λx f=>?_,rfl⟩,.inl (nD rfl rfl rfl (by omega))⟩
  .rw[bt]at e;split at e
   .rename_i h;obtain⟨rfl,rfl⟩:=h;cases e;exact .nil (a0N _)
   .exact i _ _ _ e
  .unfold qh;rw[bt];by_cases h:N[k]=x/\N[k]=x
   .rw[if_pos h];exact⟨0,a1d _,rfl⟩
   .rw[if_neg h];rw[a0L y]at f;rcases a0B.mp f with f|f
    .exact n x f
    .have:=a0j.mp f;exact absurd ⟨this.symm,this.symm⟩ h)
 exact⟨L,p,l,i,λx f=>n x (by rw[a1b];exact f),e⟩
def Po(A:L0.length<=12)(hW:W.length<=60)(y:Snd N W L0):∃L q r s,L.length<=L0.length+W.length/\Snd N W L/\Dwn L0 L/\(∀w∈W,qh L w.1 w.2.1 w.2.2)/\vO wq wt (W.map wP) (lSt N W L0 p none none none t z)=.ok (.nx (lSt N W L p q r s t z)):=by
 obtain⟨o,⟨L,q,r,s,l,d,f,i,rfl⟩,e⟩:=WK (g:=wq) (b:=wt) wP (λk j=>∃L q r s,L.length<=L0.length+k/\Snd N W L/\Dwn L0 L/\(∀w∈W.take k,qh L w.1 w.2.1 w.2.2)/\j=lSt N W L p q r s t z) W (lSt N W L0 p none none none t z) ⟨L0,none,none,none,S7 _,y,Dwn.refl,λx c=>(nomatch c),rfl⟩ (λk n j ⟨L,q,r,s,l,d,f,i,h⟩=>by
  subst h;refine⟨_,rfl,_,⟨Dz L W[k].1 W[k].2.1 W[k].2.2,some (.s W[k].1),some (.s W[k].2.1),some (.i W[k].2.2),a0o pP (by omega),pO d (.edge (a0N _)),f.trans fU,λx c=>?_,rfl⟩,.inl (nD rfl rfl (zx (zp rfl (zp (Ax rfl rfl rfl) rfl)) rfl) (by omega))⟩;rw[a0L n]at c;rcases a0B.mp c with c|c
  .exact(i x c).dwn fU
  .rw[a0j.mp c];exact Ay)
 exact⟨L,q,r,s,l,d,f,λx c=>i x (by rw[a1b];exact c),e⟩
end
section
variable {N M:Sn}{W:List Wy}{L L' L0:Lst}{a b m:Str}{u v:Int}{p q r s t z:SR}
def Hf(h:Snd N W L)(j:m∈N)(B:L.length<100000):∃L' A,L'.length<=L.length+1/\Snd N W L'/\Dwn L L'/\(∀x y,qh L a m x->qh L m b y->qh L' a b (x+y))/\jQ (lSt N W L p (some (.s a)) (some (.s b)) s (some (.s m)) z)=.ok (.nx (lSt N W L' p (some (.s a)) (some (.s b)) s (some (.s m)) A)):=by
 have e:=yc (ρ:=lSt N W L p (some (.s a)) (some (.s b)) s (some (.s m)) z) (a:=zY (yX 8 (mOp zJ (ic (zc 2) (zb (zc 4) (zb (zc 7) zk))) (ic (zc 2) (zb (zc 7) (zb (zc 5) zk))))) (ie 2 (zb (zc 4) (zb (zc 5) zk)) (zh eD (zb (zc 8) (zb (sv (zc 2) (zb (zc 4) (zb (zc 5) zk)) (zc 8)) zk))))) (b:=z1) (wL (XM (n:=false) (ms:=zb (zc 4) (zb (zc 7) zk)) (m:=zc 2) (x:=a) (y:=m) (L:=L) rfl rfl) (XM (n:=false) (ms:=zb (zc 7) (zb (zc 5) zk)) (m:=zc 2) (x:=m) (y:=b) (L:=L) rfl rfl));cases c:zP L [sk a,sk m]with
 |none=>rw[c]at e;exact⟨L,z,a03 _,h,Dwn.refl,λx y ⟨_,_,q⟩ _=>(nomatch(c.symm.trans q)),e⟩
 |some x=>
  cases d:zP L [sk m,sk b]with
  |none=>rw[c,d]at e;exact⟨L,z,a03 _,h,Dwn.refl,λx y _ ⟨_,_,q⟩=>(nomatch(d.symm.trans q)),e⟩
  |some y=>rw[c,d]at e;refine⟨Dz L a b (x+y),some (.i (x+y)),pP,pO h (.via j (h _ _ _ c) (h _ _ _ d)),fU,λD G ⟨i,F,o⟩ ⟨f,C,l⟩=>?_,e.trans (zd ⟨lSt N W L p (some (.s a)) (some (.s b)) s (some (.s m)) (some (.i (x+y))),yt (zq (dE rfl rfl c) (dE rfl rfl d) rfl),nD rfl rfl (zx (zp rfl (zp (Ax rfl rfl rfl) rfl)) rfl) B⟩)⟩;obtain⟨w,E,g⟩:=Ay (L:=L) (a:=a) (b:=b) (v:=x+y);cases(c.symm.trans o:some x=some i);cases(d.symm.trans l:some y=some f);exact⟨w,by omega,g⟩
def Pp(F:Snd N W L0)(H:m∈N)(P:N.length<=12)(Q:L0.length<=10000):∃L f c,L.length<=L0.length+N.length/\Snd N W L/\Dwn L0 L/\(∀b∈N,∀x y,qh L0 a m x->qh L0 m b y->qh L a b (x+y))/\vO wu jQ (N.map .s) (lSt N W L0 p (some (.s a)) r s (some (.s m)) z)=.ok (.nx (lSt N W L p (some (.s a)) f s (some (.s m)) c)):=by
 obtain⟨K,⟨L,f,c,l,j,i,n,rfl⟩,e⟩:=WK (g:=wu) (b:=jQ) PV.s (λk B=>∃L f c,L.length<=L0.length+k/\Snd N W L/\Dwn L0 L/\(∀b∈N.take k,∀x y,qh L0 a m x->qh L0 m b y->qh L a b (x+y))/\B=lSt N W L p (some (.s a)) f s (some (.s m)) c) N (lSt N W L0 p (some (.s a)) r s (some (.s m)) z) ⟨L0,r,z,S7 _,F,Dwn.refl,λx h=>(nomatch h),rfl⟩ (λk C B ⟨L,f,c,l,j,i,n,w⟩=>by
  subst w;obtain⟨G,D,O,J,A,I,E⟩:=Hf (a:=a) (b:=N[k]) (p:=p) (s:=s) (z:=c) j H (by omega);refine⟨_,rfl,_,⟨G,some (.s N[k]),D,by omega,J,i.trans A,λb d x y h o=>?_,rfl⟩,.inl E⟩;rw[a0L C]at d;rcases a0B.mp d with d|d
  .exact(n b d x y h o).dwn A
  .rw[a0j.mp d]at o ⊢;exact I x y (h.dwn i) (o.dwn i))
 exact⟨L,f,c,l,j,i,λx h=>n x (by rw[a1b];exact h),e⟩
def Pq(H:Snd N W L0)(I:m∈N)(P:N.length<=12)(S:L0.length<=5000):∃L h c f,L.length<=L0.length+N.length*12/\Snd N W L/\Dwn L0 L/\(∀a∈N,∀b∈N,∀x y,qh L0 a m x->qh L0 m b y->qh L a b (x+y))/\vO wx wy (N.map .s) (lSt N W L0 p q r s (some (.s m)) z)=.ok (.nx (lSt N W L p h c s (some (.s m)) f)):=by
 obtain⟨O,⟨L,h,c,f,l,j,i,n,rfl⟩,e⟩:=WK (g:=wx) (b:=wy) PV.s (λk B=>∃L h c f,L.length<=L0.length+k*12/\Snd N W L/\Dwn L0 L/\(∀a∈N.take k,∀b∈N,∀x y,qh L0 a m x->qh L0 m b y->qh L a b (x+y))/\B=lSt N W L p h c s (some (.s m)) f) N (lSt N W L0 p q r s (some (.s m)) z) ⟨L0,q,r,z,S7 _,H,Dwn.refl,λx d=>(nomatch d),rfl⟩ (λk D B ⟨L,h,c,f,l,j,i,n,o⟩=>by
  subst o;obtain⟨Q,F,E,R,K,A,J,G⟩:=Pp (a:=N[k]) (p:=p) (r:=c) (s:=s) (z:=f) j I P (by omega);refine⟨_,rfl,_,⟨Q,some (.s N[k]),F,E,by omega,K,i.trans A,λa ha b w x y d C=>?_,rfl⟩,.inl (qV (ye rfl) G)⟩;rw[a0L D]at ha;rcases a0B.mp ha with ha|ha
  .exact(n a ha b w x y d C).dwn A
  .rw[a0j.mp ha]at d ⊢;exact J b w x y (d.dwn i) (C.dwn i))
 exact⟨L,h,c,f,l,j,i,λx d=>n x (by rw[a1b];exact d),e⟩
def Pr(O:Snd N W L0)(hW:WS N W)(Y:N.length<=12)(hl:L0.length<=100)(R:Cmp N W [] L0):∃L f d c i,L.length<=5000/\Snd N W L/\Cmp N W N L/\vO wz wA (N.map .s) (lSt N W L0 p q r s t z)=.ok (.nx (lSt N W L p f d s c i)):=by
 obtain⟨U,⟨L,f,d,c,i,l,o,j,rfl⟩,e⟩:=WK (g:=wz) (b:=wA) PV.s (λk C=>∃L f d c i,L.length<=100+k*144/\Snd N W L/\Cmp N W (N.take k) L/\C=lSt N W L p f d s c i) N (lSt N W L0 p q r s t z) ⟨L0,q,r,t,z,by omega,O,R,rfl⟩ (λk F C ⟨L,f,d,c,i,l,o,j,B⟩=>by
  subst B;obtain⟨Z,S,I,G,l2,T,H,Q,J⟩:=Pq (m:=N[k]) (p:=p) (q:=f) (r:=d) (s:=s) (z:=i) o (a0N _) Y (by omega);refine⟨_,rfl,_,⟨Z,S,I,some (.s N[k]),G,by omega,T,λa b v h=>?_,rfl⟩,.inl (qV (ye rfl) J)⟩;obtain⟨X,D⟩:=h.ends hW;rw[a0L F]at h;rcases h.split (M:=N.take k) (x:=N[k]) (λz hz=>(a0B.mp hz).imp id a0j.mp) hW with⟨u,lu,w⟩|⟨P,c,le,K,E⟩
  .obtain⟨n,y,A⟩:=(j _ _ _ w).dwn H;exact⟨n,by omega,A⟩
  .obtain⟨n,y,A⟩:=Q a X b D P c (j _ _ _ K) (j _ _ _ E);exact⟨n,by omega,A⟩)
 rw[a1b]at j;exact⟨L,f,d,c,i,by omega,o,j,e⟩
def LOk(N:Sn)(L:Lst)(F:Str->Ht):Prop:=(∀a∈N,∀b∈N,zP L [sk a,sk b]=zP (F a) (sk b))
def Az(hW:WS N W)(g:fR o W F)(h:WkM N W N a b v):∀x,zP F (sk a)=some x->∃y,y<=x+v/\zP F (sk b)=some y:=by
 induction h with
 |nil _=>intro x e;exact⟨x,by omega,e⟩
 |edge f=>intro x e;obtain⟨y,d,l⟩:=g.2 _ f x e;exact⟨y,l,d⟩
 |via _ _ _ i j=>intro x e;obtain⟨y,l,d⟩:=i x e;obtain⟨n,w,c⟩:=j y d;exact⟨n,by omega,c⟩
def iS(hW:WS N W)(g:fR o W F)(h:o∈N):∀(n:Nat){z:Str}{y:Int},y.toNat<=n->zP F (sk z)=some y->WkM N W N o z y:=by
 intro n
 induction n with
 |zero=>
  intro z y j e;by_cases hz:z=o
  .subst hz;cases(g.1.own.symm.trans e);exact .nil h
  .obtain⟨w,d,_,x,f,c⟩:=g.Ha e hz;have:=(hW w d).2.2.1;have:=g.1.pos _ _ f;omega
 |succ n l=>
  intro z y j e;by_cases hz:z=o
  .subst hz;cases(g.1.own.symm.trans e);exact .nil h
  .obtain⟨w,d,rfl,x,f,c⟩:=g.Ha e hz;have i:=hW w d;have:=g.1.pos _ _ f;rw[<- c];exact .via i.1 (l (by omega) f) (.edge d)
def nE(hW:WS N W)(o:N.length<=12)(Q:W.length<=60)(c:∀z,fR z W (F z)):∃L,LOk N L F/\(∀a b v,at2 L a b=some v->a∈N/\b∈N)/\qA [.l (N.map .s),.l (W.map wP)]=.ok (.dt L):=by
 obtain⟨E,i,Z,x,w,O⟩:=Pn (N:=N) (W:=W) (q:=none) (r:=none) (s:=none) (t:=none) (z:=none) o;obtain⟨P,G,B,f,T,K,A,I,D⟩:=Po (N:=N) (W:=W) (L0:=E) (p:=i) (t:=none) (z:=none) (by omega) Q x;have J:Cmp N W [] P:=λa b v h=>by
  cases h with
  |nil h=>exact(w _ h).dwn A
  |edge C=>exact I _ C
  |via h _ _=>cases h
 obtain⟨L,U,X,t3,S,_,g,j,H⟩:=Pr (p:=i) (q:=G) (r:=B) (s:=f) (t:=none) (z:=none) K hW o (by omega) J;refine⟨L,λa n b R=>?_,λa b v e=>(g a b v e).ends hW,zM (zd ⟨_,rfl,zd ⟨_,qV (ye rfl) O,zd ⟨_,qV (ye rfl) D,zd ⟨_,qV (ye rfl) H,rfl⟩⟩⟩⟩)⟩;cases e:zP L [sk a,sk b]with
 |none=>
  cases d:zP (F a) (sk b)with
  |none=>rfl
  |some y=>obtain⟨u,_,q⟩:=j _ _ _ (iS hW (c a) n _ (S7 _) d);cases(e.symm.trans q)
 |some v=>obtain⟨y,l,d⟩:=Az hW (c a) (g _ _ _ e) 0 (c a).1.own;obtain⟨u,Y,q⟩:=j _ _ _ (iS hW (c a) n _ (S7 _) d);cases(e.symm.trans q);rw[d,show y=v by omega]
def below(h:Ht)(y:Int):Nat:=(h.filter λp=>decide (p.2<y)).length
def pQ{x y:Int}(l:x<=y):∀{h:Ht},below h x<=below h y
 |[]=>S7 _
 |p::h=>by
  have i:=pQ l (h:=h);unfold below at i ⊢;rw[a0V,a0V];by_cases c:p.2<x
  .rw[if_pos (T5 c),if_pos (T5 (show p.2<y by omega))];exact a1K i
  .rw[if_neg (by rw[a0a c];decide)];split
   .exact a1X i
   .exact i
def pR{x y:Int}(l:x<y):∀{h:Ht}{k:Key},(k,x)∈h->below h x+1<=below h y
 |[],_,e=>by cases e
 |p::h,k,e=>by
  unfold below;rw[a0V,a0V];rcases a0f.mp e with e|e
  .subst e;rw[if_neg (by rw[a0a (show ¬x<x by omega)];decide),if_pos (T5 l)];exact a1K (pQ (Int.le_of_lt l))
  .have i:=pR l e;unfold below at i;by_cases c:p.2<x
   .rw[if_pos (T5 c),if_pos (T5 (show p.2<y by omega))];exact a1K i
   .rw[if_neg (by rw[a0a c];decide)];split
    .exact a1X i
    .exact i
def iT{y:Int}:∀{h:Ht}{k:Key},(k,y)∈h->below h y+1<=h.length
 |[],_,e=>by cases e
 |p::h,k,e=>by
  unfold below;rw[a0V];rcases a0f.mp e with e|e
  .subst e;rw[if_neg (by rw[a0a (show ¬y<y by omega)];decide),S0];exact a1K (a27 _ _)
  .have i:=iT e;unfold below at i;split
   .exact a1K i
   .exact a1X i
def iU(hW:WS N W)(g:fR o W F):∀(n:Nat){z:Str}{y:Int},y.toNat<=n->zP F (sk z)=some y->y<=200000000*(below F y:Int):=by
 intro n
 induction n with
 |zero=>intro z y f e;have:=g.1.pos _ _ e;omega
 |succ n l=>
  intro z y f e;by_cases hz:z=o
  .subst hz;cases(g.1.own.symm.trans e);omega
  .obtain⟨w,d,rfl,x,c,h⟩:=g.Ha e hz;have A:=hW w d;have:=g.1.pos _ _ c;have i:=l (y:=x) (by omega) c;have j:=pR (x:=x) (y:=y) (by omega) (JZ c);omega
def sU{F:Ht}{o:Str}(hW:WS N W)(g:fR o W F)(h:o∈N){z:Str}{y:Int}(e:zP F (sk z)=some y):0<=y/\y+200000000<=200000000*(N.length:Int):=by
 have a:=iU hW g _ (S7 _) e;have b:=iT (JZ e);have c:F.length<=N.length:=by
  have:=V9 (a:=F.map (·.1)) (b:=N.map sk) g.1.nd (λk d=>by
   rcases a0f.mp (g.1.sub k d)with rfl|d
   .exact a1s h
   .obtain⟨w,f,rfl⟩:=a0P.mp d;exact a1s (hW w f).2.1)
  rw[v4,v4]at this;exact this
 have:=g.1.pos _ _ e;omega
end
abbrev Tp:=Str×Str×Str×Int×Int×Int
def tP(t:Tp):PV:=.t [.s t.1,.s t.2.1,.s t.2.2.1,.i t.2.2.2.1,.i t.2.2.2.2.1,.i t.2.2.2.2.2]
structure TOk(N:Sn)(F:Str->Ht)(t:Tp):Prop where
 org:t.2.1∈N
 goal:t.2.2.1∈N
 len:∃y,zP (F t.2.1) (sk t.2.2.1)=some y/\y<=t.2.2.2.2.1-t.2.2.2.1
 st:0<=t.2.2.2.1
 fw:t.2.2.2.1<t.2.2.2.2.1
 fin:t.2.2.2.2.1<=1000000000
 Sj:0<=t.2.2.2.2.2/\t.2.2.2.2.2<=1000000000
def aP:Option Tp->PV
 |none=>.n
 |some t=>tP t
abbrev tSt(ns:SS)(a:Int)(nm:Str)(P:Sn)(L:Lst)(ah:Option Tp)(r:Sto):Sto:=[some (.sc ns),some (.i a),some (.s nm),some (.l (P.map .s)),some (.dt L),some (aP ah)]++r
def Hg(ha:0<=a)(Q:0<P.length)(H:LOk P L F)(hF:∀o∈P,∀z y,zP (F o) (sk z)=some y->0<=y/\y<=800000000)(Z:∀o∈P,zP (F o) (sk o)=some 0)(W:∀t,ah=some t->TOk P F t):∃t,t.1=nm/\TOk P F t/\kl [.sc ns,.i a,.s nm,.l (P.map .s),.dt L,aP ah]=.ok (tP t):=by
 obtain⟨h,e1⟩:=Y7 (ns:=ns) (k:=a) ha;obtain⟨f,U⟩:=Y7 (ns:=ns) (k:=a+1) (by omega);obtain⟨j,Y⟩:=Y7 (ns:=ns) (k:=a+2) (by omega);obtain⟨o,p,eo⟩:=W5 (N:=P) (s:=h) Q;obtain⟨u,E,G⟩:=W5 (N:=P) (s:=h / 5) Q;obtain⟨g,y,R,S,K⟩:∃g y,g∈P/\zP L [sk o,sk g]=some y/\sIf (z0 (eY true (zb (zc 9) (zb (zc 10) zk)) (zc 4))) (yX 10 (zc 9)) z1 (tSt ns a nm P L ah [some (.i h),some (.i f),some (.i j),some (.s o),some (.s u),none,none,none])=.ok (.nx (tSt ns a nm P L ah [some (.i h),some (.i f),some (.i j),some (.s o),some (.s g),none,none,none])):=by
  have t:=yc (ρ:=tSt ns a nm P L ah [some (.i h),some (.i f),some (.i j),some (.s o),some (.s u),none,none,none]) (a:=yX 10 (zc 9)) (b:=z1) (XM (n:=true) (ms:=zb (zc 9) (zb (zc 10) zk)) (m:=zc 4) (x:=o) (y:=u) (L:=L) rfl rfl);cases e:zP L [sk o,sk u]with
  |none=>rw[e]at t;exact⟨o,0,p,(H o p o p).trans (Z o p),t⟩
  |some y=>rw[e]at t;exact⟨u,y,E,e,t⟩
 have A:=(H o p g R).symm.trans S;have yb:=hF o p g y A;obtain⟨c,C,M⟩:=Al (xs:=[0,j % 60,f % 7,j % 100000000]) (i:=h / 25 % 4) (a0s _ (by decide)) (a0n _ (by decide));have mb:0<=c/\c<100000000:=by simp only[List.mem_cons,List.not_mem_nil,or_false]at C;omega
 have kb:1<=max 1 (y+c)/\y<=max 1 (y+c)/\max 1 (y+c)<=900000000:=by omega
 obtain⟨q,J,I⟩:=Al (xs:=[f % 1440,f % 200,f % 1000000000]) (i:=h / 100 % 3) (a0s _ (by decide)) (a0n _ (by decide));have D:0<=q:=by simp only[List.mem_cons,List.not_mem_nil,or_false]at J;omega
 obtain⟨l,X,O⟩:∃l:Int,0<=l/\sIf (UB (z0 (mOp (vD false) (mOp zX (mOp Yv (zc 6) (mC (.i 300))) (mC (.i 2))) (mC (.i 1)))) (UB (z0 (mOp (tL true) (zc 5) (mC .n))) (z0 (eY false (zb (mOp pIx (zc 5) (mC (.i 2))) (zb (zc 9) zk)) (zc 4))))) (yX 13 (mOp d_ (mOp zJ (mOp zJ (mOp pIx (zc 5) (mC (.i 4))) (ic (zc 4) (zb (mOp pIx (zc 5) (mC (.i 2))) (zb (zc 9) zk)))) (mOp zX (zc 7) (mC (.i 3)))) (mC (.i 1)))) z1 (tSt ns a nm P L ah [some (.i h),some (.i f),some (.i j),some (.s o),some (.s g),some (.i c),some (.i (max 1 (y+c))),some (.i q)])=.ok (.nx (tSt ns a nm P L ah [some (.i h),some (.i f),some (.i j),some (.s o),some (.s g),some (.i c),some (.i (max 1 (y+c))),some (.i l)])):=by
  have r:=XI (ρ:=tSt ns a nm P L ah [some (.i h),some (.i f),some (.i j),some (.s o),some (.s g),some (.i c),some (.i (max 1 (y+c))),some (.i q)]) (a:=mOp zX (mOp Yv (zc 6) (mC (.i 300))) (mC (.i 2))) (n:=1) (GX rfl (by decide) (by decide) (by decide));generalize decide (h / 300 % 2=1)=d at r;cases d with
  |false=>exact⟨q,D,yc (bp r)⟩
  |true=>
   cases ah with
   |none=>exact⟨q,D,yc (wL r (bp rfl))⟩
   |some t=>
    have T:=W t rfl;have B:=XM (n:=false) (ms:=zb (mOp pIx (zc 5) (mC (.i 2))) (zb (zc 9) zk)) (m:=zc 4) (x:=t.2.2.1) (y:=o) (L:=L) (ρ:=tSt ns a nm P L (some t) [some (.i h),some (.i f),some (.i j),some (.s o),some (.s g),some (.i c),some (.i (max 1 (y+c))),some (.i q)]) rfl rfl;cases e:zP L [sk t.2.2.1,sk o]with
    |none=>rw[e]at B;exact⟨q,D,yc (wL r (wL (x:=true) rfl B))⟩
    |some v=>rw[e]at B;have vb:=hF _ T.goal o v ((H _ T.goal o p).symm.trans e);have:=T.fw;have:=T.st;exact⟨t.2.2.2.2.1+v+f % 3-1,by omega,(yc (wL r (wL (x:=true) rfl B))).trans (yt (zq (zq (zq (x:=.i t.2.2.2.2.1) rfl (dE rfl rfl e) rfl) (wX rfl (by decide)) rfl) rfl rfl))⟩
 have w:0<=min l (1000000000-(max 1 (y+c)))/\min l (1000000000-(max 1 (y+c)))+(max 1 (y+c))<=1000000000:=by omega
 refine⟨(nm,o,g,(min l (1000000000-(max 1 (y+c)))),(min l (1000000000-(max 1 (y+c))))+(max 1 (y+c)),j / 7 % 1000000001),rfl,⟨p,R,⟨y,A,by show y<=(min l (1000000000-(max 1 (y+c))))+(max 1 (y+c))-(min l (1000000000-(max 1 (y+c))));omega⟩,w.1,by show(min l (1000000000-(max 1 (y+c))))<(min l (1000000000-(max 1 (y+c))))+(max 1 (y+c));omega,w.2,⟨a0s _ (by decide),by have:=a0n (j / 7) (show(0:Int)<1000000001 by decide);show j / 7 % 1000000001<=1000000000;omega⟩⟩,zM (zd ⟨_,yt (zx (xs:=[.sc ns,.i a]) rfl e1),zd ⟨_,yt (zx (xs:=[.sc ns,.i (a+1)]) rfl U),zd ⟨_,yt (zx (xs:=[.sc ns,.i (a+2)]) rfl Y),zd ⟨_,yt (zq rfl (zq rfl (zx (xs:=[.l (P.map .s)]) rfl Jp) (kL (by omega))) eo),zd ⟨_,yt (zq rfl (zq (nr rfl (by decide) (by decide)) (zx (xs:=[.l (P.map .s)]) rfl Jp) (kL (by omega))) G),zd ⟨_,K,zd ⟨_,yt (zq (sR (zp rfl (zp (wX rfl (by decide)) (zp (wX rfl (by decide)) (zp (zq (y:=.i 100000000) rfl rfl (kL (by decide))) rfl)))) (T6 rfl)) (GX rfl (by decide) (by decide) (by decide)) M),zd ⟨_,yt (zx (zp rfl (zp (zq (dE rfl rfl S) rfl rfl) rfl)) rfl),zd ⟨_,yt (zq (sR (zp (wX rfl (by decide)) (zp (wX rfl (by decide)) (zp (zq (y:=.i 1000000000) rfl rfl (kL (by decide))) rfl))) (T6 rfl)) (GX rfl (by decide) (by decide) (by decide)) I),zd ⟨_,O,zd ⟨_,yt (zx (zp rfl (zp (zq (x:=.i 1000000000) rfl rfl rfl) rfl)) rfl),wY (Yr (zp rfl (zp rfl (zp rfl (zp rfl (zp (zq rfl rfl rfl) (zp (zq (nr rfl (by decide) (by decide)) (y:=.i 1000000001) rfl (kL (by decide))) rfl)))))) (T6 rfl))⟩⟩⟩⟩⟩⟩⟩⟩⟩⟩⟩)⟩
def DA(O:0<=a)(R:Q.length<=100)(A:0<P.length)(B:LOk P L F)(hF:∀o∈P,∀z y,zP (F o) (sk z)=some y->0<=y/\y<=800000000)(H:∀o∈P,zP (F o) (sk o)=some 0):∃T:List Tp,T.map (·.1)=Q/\(∀t∈T,TOk P F t)/\jD [.sc ns,.i a,.l (Q.map .s),.l (P.map .s),.dt L]=.ok (.l (T.map tP)):=by
 obtain⟨I,⟨T,x,y,i,l,f⟩,e⟩:=UD (g:=V4) (b:=V5) (λk m=>∃(T:List Tp)(x y:SR),T.map (·.1)=Q.take k/\(∀t∈T,TOk P F t)/\m=[some (.sc ns),some (.i a),some (.l (Q.map .s)),some (.l (P.map .s)),some (.dt L),some (.l (T.map tP)),x,y]) Q.length [some (.sc ns),some (.i a),some (.l (Q.map .s)),some (.l (P.map .s)),some (.dt L),some (.l []),none,none] ⟨[],none,none,rfl,λx w=>(nomatch w),rfl⟩ (λk r m ⟨T,x,y,i,l,f⟩=>by
  subst f;have M:T.length=k:=by have:=a0F List.length i;rw[v4,a0J]at this;omega
  obtain⟨d,C,q⟩:∃d:Option Tp,(∀t,d=some t->TOk P F t)/\sIf (z0 (mOp pGt (zc 6) (mC (.i 0)))) (yX 7 (mOp pIx (zc 5) (mOp zX (zh zO (zb (zc 0) (zb (mOp zJ (mOp zJ (zc 1) (mOp Ke (mC (.i 3)) (zc 6))) (mC (.i 1))) (zb (mC (.i 65479)) zk)))) (zc 6)))) z1 [some (.sc ns),some (.i a),some (.l (Q.map .s)),some (.l (P.map .s)),some (.dt L),some (.l (T.map tP)),some (.i (k:Int)),some .n]=.ok (.nx [some (.sc ns),some (.i a),some (.l (Q.map .s)),some (.l (P.map .s)),some (.dt L),some (.l (T.map tP)),some (.i (k:Int)),some (aP d)]):=by
   have t:=yc (ρ:=[some (.sc ns),some (.i a),some (.l (Q.map .s)),some (.l (P.map .s)),some (.dt L),some (.l (T.map tP)),some (.i (k:Int)),some .n]) (a:=yX 7 (mOp pIx (zc 5) (mOp zX (zh zO (zb (zc 0) (zb (mOp zJ (mOp zJ (zc 1) (mOp Ke (mC (.i 3)) (zc 6))) (mC (.i 1))) (zb (mC (.i 65479)) zk)))) (zc 6)))) (b:=z1) (XJ (a:=zc 6) (x:=(k:Int)) (n:=0) rfl);by_cases c:(k:Int)>0
   .rw[T5 c]at t;obtain⟨s,_,J⟩:=wM (ns:=ns) (k:=a+3*(k:Int)+1) (p:=65479) (by omega) (by decide);have G:=a0s s (show(k:Int)≠0 by omega);have K:=a0n s c;refine⟨some (T[(s % (k:Int)).toNat]'(by omega)),λt j=>by cases j;exact l _ (a0N _),t.trans (yt (zq rfl (zq (zx (xs:=[.sc ns,.i (a+3*(k:Int)+1),.i 65479]) (zp rfl (zp (zq (zq rfl (zq rfl rfl (df (by decide) (by decide))) rfl) rfl rfl) rfl)) J) rfl (kL c)) ?_))⟩;rw[ny G (by rw[v4];omega),a0K];rfl
   .rw[a0a c]at t;exact⟨none,λt j=>(nomatch j),t⟩
  obtain⟨t,u,E,D⟩:=Hg (ns:=ns) (a:=a+3*(k:Int)) (nm:=Q[k]) (ah:=d) (by omega) A B hF H C;have v:c9 5 (zh kl (zb (zc 0) (zb (mOp zJ (zc 1) (mOp Ke (mC (.i 3)) (zc 6))) (zb (mOp pIx (zc 2) (zc 6)) (zb (zc 3) (zb (zc 4) (zb (zc 7) zk))))))) [some (.sc ns),some (.i a),some (.l (Q.map .s)),some (.l (P.map .s)),some (.dt L),some (.l (T.map tP)),some (.i (k:Int)),some (aP d)]=.ok (.nx [some (.sc ns),some (.i a),some (.l (Q.map .s)),some (.l (P.map .s)),some (.dt L),some (.l ((T++[t]).map tP)),some (.i (k:Int)),some (aP d)]):=by
   have ix:pIx (.l (Q.map .s)) (.i (k:Int))=.ok (.s Q[k]):=by rw[ny (by omega) (by rw[v4];omega),a0K];rfl
   refine(pM (xs:=T.map tP) rfl (zx (zp rfl (zp (zq rfl (zq rfl rfl (df (by decide) (by decide))) rfl) (zp (zq rfl rfl ix) rfl))) D) (by rw[v4];omega)).trans ?_;rw[show T.map tP++[tP t]=(T++[t]).map tP by rw[a0m];rfl];rfl
  refine⟨_,rfl,_,⟨T++[t],some (.i (k:Int)),some (aP d),?_,λN j=>?_,rfl⟩,.inl (zd ⟨_,rfl,zd ⟨_,q,v⟩⟩)⟩
  .rw[a0m,i,a0L r];show _++[t.1]=_;rw[u]
  .rcases a0B.mp j with h|h
   .exact l _ h
   .rw[a0j.mp h];exact E)
 subst f;rw[a1b]at i;exact⟨T,i,l,zM (zd ⟨_,rfl,zd ⟨_,qV (mK (zp (zx (xs:=[.l (Q.map .s)]) rfl Jp) rfl) (by omega) (by omega)) (by rw[a1Y];exact e),rfl⟩⟩)⟩
def j7(T:List Tp):List (Key×PV):=T.map λt=>(sk t.1,tP t)
def Wa(h:z∉T.map (·.1)):zP (j7 T) (sk z)=none:=by
 cases e:zP (j7 T) (sk z)with
 |none=>rfl
 |some x=>obtain⟨t,b,a⟩:=a0P.mp (JZ e);cases a;exact absurd (a1s b) h
def bu(a:(T.map (·.1)).Nodup)(h:t∈T):zP (j7 T) (sk t.1)=some (tP t):=by
 induction T with
 |nil=>cases h
 |cons u T d=>
  rw[T2]at a;obtain⟨b,c⟩:=a04.mp a;show zP ((sk u.1,tP u)::j7 T) (sk t.1)=_;rw[yz];rcases a0f.mp h with rfl|h
  .rw[if_pos rfl]
  .rw[if_neg λe=>b (by rw[a1A e];exact a1s h)];exact d c h
def sV(hz:Nm z)(hB:zP B (sk z)=none):z4 [.s z,.d B]=.ok (.s z):=by refine zM (zd ⟨_,yj (zx (xs:=[.s z]) rfl (Ap hz)),zd ⟨_,(yc (x:=false) (z5 (zq (x:=.s z) (y:=.d B) rfl rfl ?_))).trans (show _=Out.ok (Fw.nx [some (.s z),some (.d B)])from rfl),rfl⟩⟩);show Out.ok (PV.b (xor false (zP B (sk z)).isSome))=_;rw[hB];rfl
def W7(a:0<=m)(b:m<=1000000000):zV [.i m,.i 0]=.ok (.i m):=by refine zM (zd ⟨_,(yc (nt (x:=false) (y:=false) (z5 (zq (x:=.i m) (y:=.i 0) rfl rfl ?_)) ((XJ (x:=m) rfl).trans (by rw[a0a (by omega)])))).trans (show _=Out.ok (Fw.nx [some (.i m),some (.i 0)])from rfl),rfl⟩);show Out.ok (PV.b (decide (m<0)))=_;rw[a0a (by omega)]
section
variable {N:Sn}{W:List Wy}{F:Str->Ht}{t:Tp}{T:List Tp}
def DB(h:TOk N F t)(hn:Nm t.1)(hB:zP B (sk t.1)=none):jb [roP N W F,tP t,.d B]=.ok .n:=by
 obtain⟨ho,hg,⟨y,ey,ly⟩,s0,fw,f1,q0,q1⟩:=h;refine br rfl (zd ⟨_,yj (zx (xs:=[.s t.1,.d B]) rfl (sV hn hB)),zd ⟨_,yt (fS (N:=N) (W:=W) (F:=F) rfl (xs:=[.s t.2.1,.s t.2.2.1]) rfl (by decide +kernel) (by decide +kernel) (by decide +kernel) ((W6 ho hg).trans (by rw[ey];rfl))),zd ⟨_,yj (zx (xs:=[.i t.2.2.2.1,.i 0]) rfl (W7 s0 (by omega))),zd ⟨_,yj (zx (xs:=[.i t.2.2.2.2.1,.i 0]) rfl (W7 (by omega) f1)),zd ⟨_,yj (zx (xs:=[.i t.2.2.2.2.2,.i 0]) rfl (W7 q0 q1)),zd ⟨[some (roP N W F),some (tP t),some (.d B),some (.i y)],(yc (x:=false) (z5 (zq (x:=.i t.2.2.2.2.1) (y:=.i t.2.2.2.1) rfl rfl ?_))).trans rfl,zd ⟨[some (roP N W F),some (tP t),some (.d B),some (.i y)],(yc (x:=false) rfl).trans rfl,(yc (x:=false) (z5 (zq (x:=.i (t.2.2.2.2.1-t.2.2.2.1)) (y:=.i y) rfl rfl ?_))).trans rfl⟩⟩⟩⟩⟩⟩⟩)
 .show Out.ok (PV.b (decide (t.2.2.2.2.1<=t.2.2.2.1)))=_;rw[a0a (by omega)]
 .show Out.ok (PV.b (decide (t.2.2.2.2.1-t.2.2.2.1<y)))=_;rw[a0a (by omega)]
def DC(t:Tp):dj:=(t.2.2.2.1,t.2.2.2.2.1,t.1)
def fV:∀{T:List Tp},WR zG (T.map tP)=some (T.map DC)
 |[]=>rfl
 |t::T=>by
  have e:zG [tP t]=.ok (.t [.i t.2.2.2.1,.i t.2.2.2.2.1,.s t.1]):=zM (wY (Yr rfl (T6 rfl)));show(match zG [tP t]with
   |.ok (.t [.i a,.i b,.s c])=>(WR zG (T.map tP)).map ((a,b,c)::·)
   |_=>none)=_
  rw[e];show(WR zG (T.map tP)).map _=_;rw[fV];rfl
def XN(T:List Tp):List Tp:=(mT (T.map DC)).map λi=>T.getD i ("","","",0,0,0)
def pS(c:(T.map (·.1)).Nodup)(d:T.length<64):cb zG (T.map tP)=.ok (.l ((XN T).map tP)):=by
 unfold cb;rw[if_pos (by rw[v4];exact d),fV];have f:(T.map DC).Nodup:=by
  have:((T.map DC).map λk=>k.2.2)=T.map (·.1):=by rw[a0U];rfl
  rw[<- this]at c;exact List.Pairwise.of_map (S:=(·≠·)) (λk:dj=>k.2.2) (λa b h e=>h (by rw[e])) c
 show(if(T.map DC).Nodup then _ else _)=_;rw[if_pos f];unfold XN;rw[a0U];congr 2;refine a1r λi g=>?_;have:=a0Y.mp ((VI (T.map DC)).1.mem_iff.mp g);rw[v4]at this;show(T.map tP).getD i .n=tP (T.getD i _);rw[a01,a01,a0k,T4 this];rfl
end
def ga0{a:Type}{A:List a}{x y:a}:(A++[x,y])[A.length]?=some x:=by simp
def ga1{a:Type}{A:List a}{x y:a}:(A++[x,y])[A.length+1]?=some y:=by simp
def sa0{a:Type}{A:List a}{x y z:a}:(A++[x,y]).set A.length z=A++[z,y]:=by simp
def sa1{a:Type}{A:List a}{x y z:a}:(A++[x,y]).set (A.length+1) z=A++[x,z]:=by simp
def Ff{G:AH}{n:Nat}:∀{a:SN},sj (vG G (n+1)) (vK a)=some a
 |[]=>rfl
 | (k,x)::a=>by show((vG G (n+1) (.v x)).bind λy=>(sj (vG G (n+1)) (vK a)).map ((k,y)::·))=_;rw[Ff];rfl
def Sd(a:Ub bs ρ=none)(c:Ve G bs ρ=some r)(d:m r=.ok x)(b:imm x=true):hP bs m ρ G=.ok (.v x) G:=by unfold hP;rw[a,c];dsimp only;rw[d];dsimp only;rw[if_pos b]
def pT(h:m ρ G=.ok x G'):so m ρ G=.nx ρ G':=by unfold so;rw[h];rfl
def fW(e:mv ρ G=.ok y G1)(b:mo ρ G1=.ok (.g k) G2)(a:G2[k]?=some (.o c fs))(g:c∈cs)(d:fs.length<1000):e_ cs f mo mv ρ G=.nx ρ (G2.set k (.o c (aB f y fs))):=by
 unfold e_;rw[e];show((mo ρ G1).fw _)=_;rw[b];show(match G2[k]? with
  |some (.o c fs)=>if c∈cs/\fs.length<1000 then HFw.nx ρ (G2.set k (.o c (aB f y fs)))else .wall
  |_=>.wall)=_
 rw[a];dsimp only;rw[if_pos ⟨g,d⟩]
def AA(hv:mv ρ G=.ok y G)(ho:mo ρ G=.ok (.g k) G)(hz:mk ρ G=.ok (.v z) G)(hk:G[k]?=some (.d kvs))(hq:pk z=some q)(hl:kvs.length<100000):HQ mo mk mv ρ G=.nx ρ (G.set k (.d (dput kvs q y))):=by
 unfold HQ;rw[hv];show((mo ρ G).fw _)=_;rw[ho];show((mk ρ G).fw _)=_;rw[hz];show(match G[k]?,pk z with
  |some (.d kvs),some q=>if kvs.length<sizeLine then HFw.nx ρ (G.set k (.d (dput kvs q y)))else .wall
  |_,_=>.wall)=_
 rw[hk,hq];dsimp only;rw[if_pos (T8 hl (by decide))]
def Hh(h:m ρ G=.ok (.g k) G)(a:G[k]?=some (.o c fs))(b:c∈cs)(hf:fs.lookup f=some z):Md cs f m ρ G=.ok z G:=by
 unfold Md;rw[h];show(match G[k]? with
  |some (.o c fs)=>if c∈cs then match fs.lookup f with
   |some z=>HX.ok z G
   |none=>.wall else .wall
  |_=>.wall)=_
 rw[a];dsimp only;rw[if_pos b,hf]
def Hi{a:Type}{x:a}{fs:List (Str×a)}:((f,x)::fs).lookup f=some x:=by simp
def DD{a:Type}{x:a}{fs:List (Str×a)}(h:(f==g)=false):((g,x)::fs).lookup f=fs.lookup f:=by simp[List.lookup,h]
section
variable {N:Sn}{W:List Wy}{F:Str->Ht}{A:AH}{T P:List Tp}{ro:PV}
def tFs(ro:PV)(j:Nat):List (Str×HV):=[("roads",.v ro),("by_name",.g j)]
def tG(A:AH)(ro:PV)(T:List Tp):AH:=A++[.o 10 (tFs ro (A.length+1)),.d (vK (j7 T))]
def fX(h:G[j]?=some (.d (vK (j7 T)))):vG G (n+2) (.g j)=some (.d (j7 T)):=by unfold vG;rw[h];show(sj (vG G (n+1)) (vK (j7 T))).map PV.d=_;rw[Ff];rfl
def Ng:vG (tG A ro T) 8 (.g A.length)=some (.o 10 [("roads",ro),("by_name",.d (j7 T))]):=by unfold vG tG;rw[ga0];show(sj (vG _ 7) (tFs ro (A.length+1))).map (PV.o 10)=_;show(Option.map (PV.o 10) ((vG _ 7 (.v ro)).bind λy=>(((vG _ 7 (.g (A.length+1))).bind λy=>((some []).map ((("by_name":Str),y)::·))).map ((("roads":Str),y)::·))))=_;rw[fX (T:=T) ga1];rfl
def pV(h:t.1∉P.map (·.1)):dput (vK (j7 P)) (sk t.1) (.v (tP t))=vK (j7 (P++[t])):=by unfold vK;rw[pA];congr 1;unfold dput;rw[w6,Wa h];unfold j7;rw[a0m];rfl
def DE:∀{R P:List Tp}{o:Option HV},(∀t∈R,TOk N F t/\Nm t.1)->((P++R).map (·.1)).Nodup->(P++R).length<=40->∃e,b8 jR ql ((R.map tP).map .v) [some (.g A.length),some (.v (roP N W F)),some (.v T0),o] (tG A (roP N W F) P)=.nx [some (.g A.length),some (.v (roP N W F)),some (.v T0),e] (tG A (roP N W F) (P++R)):=by
 intro R
 induction R with
 |nil=>intro P o _ _ _;rw[a0h];exact⟨o,rfl⟩
 |cons t R n=>
  intro P o g f j;have d:P++[t]++R=P++t::R:=by rw[a0w];rfl
  obtain⟨e,i⟩:=n (P:=P++[t]) (o:=some (.v (tP t))) (λu l=>g u (S6 _ l)) (by rw[d];exact f) (by rw[d];exact j);rw[d]at i;refine⟨e,?_⟩;have hz:t.1∉P.map (·.1):=λh=>by rw[a0m,T2]at f;exact(a1E.mp f).2.2 _ h _ S4 rfl
  have hp:P.length<=40:=by rw[S9]at j;omega
  obtain⟨r,x⟩:=g t S4;have p:QS [10] "by_name" (zc 0) [some (.o 10 [("roads",roP N W F),("by_name",.d (j7 P))]),some (roP N W F),none,some (tP t)]=.ok (.d (j7 P)):=by show(if 10∈[10]then kW (List.lookup ("by_name":Str) [("roads",roP N W F),("by_name",PV.d (j7 P))])else .wall)=_;rw[if_pos S4,j_ (by decide +kernel),g_];rfl
  have w:hP [true,true,false,true] (zh jb (zb (zc 1) (zb (zc 3) (zb (QS [10] "by_name" (zc 0)) zk)))) [some (.g A.length),some (.v (roP N W F)),some (.v T0),some (.v (tP t))] (tG A (roP N W F) P)=.ok (.v .n) (tG A (roP N W F) P):=
   Sd rfl (fQ Ng (fQ rfl (Z7 (fQ rfl N7)))) (zx (zp rfl (zp rfl (zp p rfl))) (DB (W:=W) r x (Wa hz))) rfl
  have m:HQ (Md [10] "by_name" (QW 0)) (hP [false,false,false,true] (mOp pIx (zc 3) (mC (.i 0)))) (QW 3) [some (.g A.length),some (.v (roP N W F)),some (.v T0),some (.v (tP t))] (tG A (roP N W F) P)=.nx [some (.g A.length),some (.v (roP N W F)),some (.v T0),some (.v (tP t))] (tG A (roP N W F) (P++[t])):=by refine(AA (y:=.v (tP t)) (k:=A.length+1) (z:=.s t.1) (q:=sk t.1) rfl (Hh rfl ga0 S4 (by unfold tFs;rw[DD (by decide +kernel),Hi])) (fP rfl rfl) ga1 rfl (by unfold vK j7;rw[v4,v4];omega)).trans ?_;unfold tG;rw[sa1,pV hz]
  have s:ql [some (.g A.length),some (.v (roP N W F)),some (.v T0),some (.v (tP t))] (tG A (roP N W F) P)=.nx [some (.g A.length),some (.v (roP N W F)),some (.v T0),some (.v (tP t))] (tG A (roP N W F) (P++[t])):=zS (pT w) m;show(match ql [some (.g A.length),some (.v (roP N W F)),some (.v T0),some (.v (tP t))] (tG A (roP N W F) P)with
   |.nx a b=>b8 jR ql ((R.map tP).map .v) a b
   |.ct a b=>b8 jR ql ((R.map tP).map .v) a b
   |.bk a b=>.nx a b
   |.rt v b=>.rt v b
   |.exc c fs b=>.exc c fs b
   |.wall=>.wall)=_
  rw[s];exact i
def AB(T:List Tp):PV:=.l ((XN T).map λt=>.s t.1)
def N8(A:AH)(ro:PV)(T:List Tp):AH:=A++[.o 10 [("roads",.v ro),("by_name",.g (A.length+1)),("order",.v (AB T))],.d (vK (j7 T))]
def WB(ro:PV)(T:List Tp):PV:=.o 10 [("roads",ro),("by_name",.d (j7 T)),("order",AB T)]
def nF:(XN T).length=T.length:=by unfold XN;rw[v4,(VI (T.map DC)).1.length_eq,a0D,v4]
def DF(h:∀t∈T,TOk N F t/\Nm t.1)(g:(T.map (·.1)).Nodup)(s:T.length<=40):qE [.g A.length,.v (roP N W F),.v (.l (T.map tP))] (A++[.o 10 []])=.ok (.v .n) (N8 A (roP N W F) T):=by
 obtain⟨b,f⟩:=DE (N:=N) (W:=W) (F:=F) (A:=A) (T0:=.l (T.map tP)) (R:=T) (P:=[]) (o:=none) h g s;rw[a05]at f;have m:(A++[Cell.o 10 []])[A.length]?=some (.o 10 []):=by simp
 have r:so (hP [false,false,true] (zh y_ (zb (zc 2) (zb (mC (.i 40)) zk)))) [some (.g A.length),some (.v (roP N W F)),some (.v (.l (T.map tP))),none] (A++[.o 10 []])=.nx [some (.g A.length),some (.v (roP N W F)),some (.v (.l (T.map tP))),none] (A++[.o 10 []]):=pT (fP rfl (zx (xs:=[.l (T.map tP),.i 40]) rfl (nA Jp (by omega))));have l:e_ [10] "roads" (QW 0) (QW 1) [some (.g A.length),some (.v (roP N W F)),some (.v (.l (T.map tP))),none] (A++[.o 10 []])=.nx [some (.g A.length),some (.v (roP N W F)),some (.v (.l (T.map tP))),none] (A++[.o 10 [("roads",.v (roP N W F))]]):=by refine(fW rfl rfl m S4 (by decide)).trans ?_;rw[show(A++[Cell.o 10 []]).set A.length (.o 10 (aB "roads" (.v (roP N W F)) []))=A++[.o 10 [("roads",.v (roP N W F))]] by simp[aB]]
 have q:(A++[Cell.o 10 [("roads",.v (roP N W F))]]++[.d []])[A.length]?=some (.o 10 [("roads",.v (roP N W F))]):=by simp
 have p:e_ [10] "by_name" (QW 0) (hF [] r8) [some (.g A.length),some (.v (roP N W F)),some (.v (.l (T.map tP))),none] (A++[.o 10 [("roads",.v (roP N W F))]])=.nx [some (.g A.length),some (.v (roP N W F)),some (.v (.l (T.map tP))),none] (tG A (roP N W F) []):=by
  refine(fW (y:=.g (A++[Cell.o 10 [("roads",.v (roP N W F))]]).length) (G1:=A++[Cell.o 10 [("roads",.v (roP N W F))]]++[.d []]) rfl rfl q S4 (by show 1<1000;decide)).trans ?_;have e:aB "by_name" (.g (A++[Cell.o 10 [("roads",.v (roP N W F))]]).length) [("roads",.v (roP N W F))]=tFs (roP N W F) (A.length+1):=by rw[S9];show(if(("roads":Str)="by_name")then _ else _)=_;rw[if_neg (by decide +kernel)];rfl
  rw[e,show A++[Cell.o 10 [("roads",.v (roP N W F))]]++[.d []]=A++[.o 10 [("roads",.v (roP N W F))],.d []] by rw[a0w];rfl,sa0];rfl
 have n:lcP wI wJ wK ((XN T).map tP) [none] []=.ok (AB T):=
  WJ tP (λt=>PV.s t.1) (λd=>∃o,d=[o]) _ _ ⟨none,rfl⟩ (λt _ d ⟨o,i⟩=>by subst i;exact⟨_,rfl,⟨_,rfl⟩,zq rfl rfl rfl⟩) (by rw[nF];omega)
 have j:e_ [10] "order" (QW 0) (hP [false,false,true] (mLC (yr (pb zG (zb (zc 2) zk))) [none] wI wJ wK)) [some (.g A.length),some (.v (roP N W F)),some (.v (.l (T.map tP))),b] (tG A (roP N W F) T)=.nx [some (.g A.length),some (.v (roP N W F)),some (.v (.l (T.map tP))),b] (N8 A (roP N W F) T):=by
  refine(fW (y:=.v (AB T)) (fP rfl (mJ (ye (show pb zG (zb (zc 2) zk) [none,none,some (.l (T.map tP)),none]=_ from pS g (by omega))) n)) rfl ga0 S4 (by show 2<1000;decide)).trans ?_;have e:aB "order" (.v (AB T)) (tFs (roP N W F) (A.length+1))=([("roads",.v (roP N W F)),("by_name",.g (A.length+1)),("order",.v (AB T))]:List (Str×HV)):=by show(if(("roads":Str)="order")then _ else _::(if(("by_name":Str)="order")then _ else _))=_;rw[if_neg (by decide +kernel),if_neg (by decide +kernel)];rfl
  unfold N8;rw[e,sa0]
 have ev:vN [some (.g A.length),some (.v (roP N W F)),some (.v (.l (T.map tP))),none] (A++[.o 10 []])=.nx [some (.g A.length),some (.v (roP N W F)),some (.v (.l (T.map tP))),b] (N8 A (roP N W F) T):=
  zS r (zS l (zS p (zS f j)))
 show(match vN [some (.g A.length),some (.v (roP N W F)),some (.v (.l (T.map tP))),none] (A++[.o 10 []])with
  |.nx _ a=>HX.ok (HV.v .n) a
  |.rt x a=>.ok x a
  |.exc c fs a=>.exc c fs a
  |_=>.wall)=_
 rw[ev]
def Hj(h:G[k]?=some (.o 10 [("roads",.v ro),("by_name",.g j),("order",.v (AB T))]))(a:G[j]?=some (.d (vK (j7 T)))):vG G (n+3) (.g k)=some (WB ro T):=by unfold vG;rw[h];show(Option.map (PV.o 10) ((vG _ (n+2) (.v ro)).bind λy=>(((vG _ (n+2) (.g j)).bind λy=>((((vG _ (n+2) (.v (AB T))).bind λy=>((some []).map ((("order":Str),y)::·)))).map ((("by_name":Str),y)::·))).map ((("roads":Str),y)::·))))=_;rw[fX (T:=T) a];rfl
end
def W8(h:p ρ=.exc c fs):zY p q ρ=.exc c fs:=by unfold zY;rw[h];rfl
def jx{fr:Bool}{n:Nat}{ms:MS}{xs:SH}{c:Nat}{fs:SO}(h:ms (xs.map some++List.replicate (n-xs.length) none)=.exc c fs):wZ fr n ms xs=.exc c fs:=by unfold wZ;rw[h]
section
variable {N:Sn}{W:List Wy}{F:Str->Ht}{T:List Tp}{t u:Tp}{ro:PV}{z:Str}
def iV(h:m ρ=.ok (WB ro T)):QS [10] "by_name" m ρ=.ok (.d (j7 T)):=by unfold QS;rw[h,okb];show(if 10∈[10]then kW (List.lookup ("by_name":Str) [("roads",ro),("by_name",PV.d (j7 T)),("order",AB T)])else .wall)=_;rw[if_pos S4,j_ (by decide +kernel),g_];rfl
def Y8(h:m ρ=.ok (WB ro T)):QS [10] "roads" m ρ=.ok ro:=by unfold QS;rw[h,okb];show(if 10∈[10]then kW (List.lookup ("roads":Str) [("roads",ro),("by_name",PV.d (j7 T)),("order",AB T)])else .wall)=_;rw[if_pos S4,g_];rfl
def bw(a:(T.map (·.1)).Nodup)(c:t∈T):zo [WB ro T,.s t.1]=.ok (tP t):=by
 have b:=iV (m:=zc 0) (ρ:=[some (WB ro T),some (.s t.1)]) (ro:=ro) (T:=T) rfl;have e:=bu a c;refine zM (zd ⟨_,(yc (x:=false) (z5 (zq (x:=.s t.1) rfl b ?_))).trans (show _=Out.ok (Fw.nx [some (WB ro T),some (.s t.1)])from rfl),wY (zq b (y:=.s t.1) rfl ?_)⟩)
 .show Out.ok (PV.b (xor true (zP (j7 T) (sk t.1)).isSome))=_;rw[e];rfl
 .show kW (zP (j7 T) (sk t.1))=_;rw[e];rfl
def AD(hz:z∉T.map (·.1)):zo [WB ro T,.s z]=.exc 7 [("name",.s z)]:=by have b:=iV (m:=zc 0) (ρ:=[some (WB ro T),some (.s z)]) (ro:=ro) (T:=T) rfl;refine jx (W8 ((yc (x:=true) (z5 (zq (x:=.s z) rfl b ?_))).trans rfl));show Out.ok (PV.b (xor true (zP (j7 T) (sk z)).isSome))=_;rw[Wa hz];rfl
def UU(ha:a ρ=.ok (WB ro T))(hm:ms ρ=.ok xs):jg [(10,f)] "trip" a ms ρ=f (WB ro T::xs):=by unfold jg;rw[ha,okb];show(if(List.lookup ("trip":Str) [("roads",ro),("by_name",PV.d (j7 T)),("order",AB T)]).isSome=true then Out.wall else(ms ρ).bind λxs=>f (WB ro T::xs))=_;rw[j_ (by decide +kernel),j_ (by decide +kernel),j_ (by decide +kernel),xq,if_neg (by intro z;cases z),hm,okb]
def Pu(F:Str->Ht)(t u:Tp):PV:=Hb ((zP (F t.2.2.1) (sk u.2.1)).map λy=>u.2.2.2.1-t.2.2.2.2.1-y)
def Nh(nd:(T.map (·.1)).Nodup)(hT:∀t∈T,TOk N F t)(ht:t∈T)(hu:u∈T):sJ [WB (roP N W F) T,.s t.1,.s u.1]=.ok (Pu F t u):=by
 have e3:yX 3 (jg [(10,zo)] "trip" (zc 0) (zb (zc 1) zk)) [some (WB (roP N W F) T),some (.s t.1),some (.s u.1),none,none,none]=.ok (.nx [some (WB (roP N W F) T),some (.s t.1),some (.s u.1),some (tP t),none,none]):=yt ((UU (xs:=[.s t.1]) rfl rfl).trans (bw nd ht));have e4:yX 4 (jg [(10,zo)] "trip" (zc 0) (zb (zc 2) zk)) [some (WB (roP N W F) T),some (.s t.1),some (.s u.1),some (tP t),none,none]=.ok (.nx [some (WB (roP N W F) T),some (.s t.1),some (.s u.1),some (tP t),some (tP u),none]):=yt ((UU (xs:=[.s u.1]) rfl rfl).trans (bw nd hu));have e5:yX 5 (jg [(11,zu)] "length" (QS [10] "roads" (zc 0)) (zb (mOp pIx (zc 3) (mC (.i 2))) (zb (mOp pIx (zc 4) (mC (.i 1))) zk))) [some (WB (roP N W F) T),some (.s t.1),some (.s u.1),some (tP t),some (tP u),none]=.ok (.nx [some (WB (roP N W F) T),some (.s t.1),some (.s u.1),some (tP t),some (tP u),some (Hb (zP (F t.2.2.1) (sk u.2.1)))]):=
  yt (fS (N:=N) (W:=W) (F:=F) (Y8 rfl) (xs:=[.s t.2.2.1,.s u.2.1]) rfl (by decide +kernel) (by decide +kernel) (by decide +kernel) (W6 (hT t ht).goal (hT u hu).org))
 unfold Pu;cases e:zP (F t.2.2.1) (sk u.2.1)with
 |none=>rw[e]at e5;exact zM (zd ⟨_,e3,zd ⟨_,e4,zd ⟨_,e5,j9 ((yc (x:=true) rfl).trans rfl)⟩⟩⟩)
 |some y=>rw[e]at e5;exact zM (zd ⟨_,e3,zd ⟨_,e4,zd ⟨_,e5,zd ⟨_,(yc (x:=false) rfl).trans rfl,wY (zq (zq (x:=.i u.2.2.2.1) (y:=.i t.2.2.2.2.1) rfl rfl rfl) (y:=.i y) rfl rfl)⟩⟩⟩⟩)
def DG:(XN T).Perm T:=by have h:=(VI (T.map DC)).1.map λi=>T.getD i ("","","",0,0,0);refine h.trans (.of_eq ?_);rw[v4];refine List.ext_getElem (by rw[v4,a0D]) λi b a=>?_;rw[a0K,a1Q];simp[a]
def lnk(F:Str->Ht)(t u:Tp):Bool:=match zP (F t.2.2.1) (sk u.2.1)with
 |some y=>decide (t.2.2.2.2.1+y<=u.2.2.2.1)
 |none=>false
def AE(d:(T.map (·.1)).Nodup)(c:∀t∈T,TOk N F t)(b:t∈T)(a:u∈T):Y6 [WB (roP N W F) T,.s t.1,.s u.1]=.ok (.b (lnk F t u)):=by
 have g:=Nh (W:=W) d c b a;unfold Pu at g;unfold lnk;cases e:zP (F t.2.2.1) (sk u.2.1)with
 |none=>rw[e]at g;exact zM (zd ⟨_,yt (zx (xs:=[WB (roP N W F) T,.s t.1,.s u.1]) rfl g),wY rfl⟩)
 |some y=>rw[e]at g;refine zM (zd ⟨_,yt (zx (xs:=[WB (roP N W F) T,.s t.1,.s u.1]) rfl g),wY ((nu (x:=true) (y:=decide (u.2.2.2.1-t.2.2.2.2.1-y ≥ 0)) rfl rfl).trans ?_)⟩);rw[a12];congr 3;exact propext ⟨λh=>by omega,λh=>by omega⟩
end
def fY(h:hm (xs.map some++List.replicate (n-xs.length) none) G=.rt x G'):Bz n hm xs G=.ok x G':=by unfold Bz;rw[h]
def fZ(h:ms ρ G=.ok xs G1)(hf:f xs G1=o):h_ f ms ρ G=o:=by unfold h_;rw[h];exact hf
def pW(a:Ub bs ρ=some r)(c:mi r=.ok xs)(h:b8 g b (xs.map .v) ρ G=o):b9 bs mi g b ρ G=o:=by unfold b9;rw[a];dsimp only;rw[c];exact h
def rok(hW:WS P W)(a:P.Nodup)(hP:∀z∈P,Nm z)(b:P.length<=5)(c:W.length<=13):ROk P W:=by constructor<;>first|exact a|exact hP|omega|exact hW.ok
def Hk(h:UI G bs ρ=some r):UI G (false::bs) (x::ρ)=some (none::r):=by unfold UI;rw[h];rfl
def N9(a:sres G x=some y)(h:UI G bs ρ=some r):UI G (true::bs) (some x::ρ)=some (some y::r):=by unfold UI;rw[a,h];rfl
def Fg:∀{a:SN},o6 (vK a)=some a
 |[]=>rfl
 | (k,x)::a=>by show(o6 (vK a)).map ((k,x)::·)=_;rw[Fg];rfl
def Se(a:Ub bs ρ=some r)(d:m r=.ok x)(b:xD x=some c):hF bs m ρ G=.ok (.g G.length) (G++[c]):=by unfold hF;rw[a];dsimp only;rw[d];dsimp only;rw[b]
def Fh(b:m ρ=.ok x)(c:lo ρ=.ok l)(a:hi ρ=.ok h):mSl pSl m lo hi ρ=pSl x l h:=by unfold mSl;rw[b,okb,c];show((hi ρ).bind λh=>pSl x l h)=_;rw[a];rfl
def AF(h:m ρ=.ok (.i i)):kK m ρ=.ok (some i):=by unfold kK;rw[h];rfl
def Ni(a:∀t∈T,TOk P F t/\Nm t.1)(d:(T.map (·.1)).Nodup)(b:T.length<=40):mkV 10 qE [roP P W F,.l (T.map tP)]=.ok (WB (roP P W F) T):=by
 show(match qE [.g 0,.v (roP P W F),.v (.l (T.map tP))] [.o 10 []]with
  |.ok (.v .n) G=>(match vG G 8 (.g 0)with
   |some z=>Out.ok z
   |none=>.wall)
  |.exc c fs _=>.exc c fs
  |_=>.wall)=_
 rw[show qE [.g 0,.v (roP P W F),.v (.l (T.map tP))] [.o 10 []]=_ from DF (A:=[]) a d b];dsimp only;rw[Hj (ro:=roP P W F) (T:=T) (j:=1) rfl rfl]
def AG(k:Nat):Str:=("t":Str)++Str.ofString (toString (k:Int))
def DH:∀k:Fin 42,(Str.ofString (toString (k.val:Int))).length<=5/\((k.val:Int).natAbs.log2<1920):=by decide +kernel
def DI:∀k j:Fin 42,AG k.val=AG j.val->k=j:=by decide +kernel
def Hl{ρ:Sto}{k i:Nat}(c:k<42)(h:zc i ρ=.ok (.i (k:Int))):mOp zJ (mC (.s "t")) (zh ED (zb (zc i) zk)) ρ=.ok (.s (AG k)):=by obtain⟨a,b⟩:=DH ⟨k,c⟩;exact zq rfl (zx (zp h rfl) (if_pos b)) (R_ (n:=100) (by show 1+_<=100;exact a0o (a3i a 1) (by decide)) (by decide))
def XQ{N:Sn}:∀{ks:So}{o:SR},(∀k∈ks,k<42)->(∃k∈ks,AG k∉N)->∃k,AG k∉N/\vO qL yU (ks.map λk=>PV.i ((k:Nat):Int)) [some (.l (N.map .s)),o]=.ok (.rt (.s (AG k)))
 |[],_,_,h=>by obtain⟨_,h,_⟩:=h;cases h
 |k::ks,o,h1,h2=>by
  have c:=Hl (i:=1) (k:=k) (ρ:=[some (.l (N.map .s)),some (.i (k:Int))]) (h1 k S4) rfl;have e:=(yc (ρ:=[some (.l (N.map .s)),some (.i (k:Int))]) (a:=jY (mOp zJ (mC (.s "t")) (zh ED (zb (zc 1) zk)))) (b:=z1) (x:=xor true (decide (AG k∈N))) (z5 (m:=mOp (pIn true) (mOp zJ (mC (.s "t")) (zh ED (zb (zc 1) zk))) (zc 0)) (zq (y:=.l (N.map .s)) c rfl G8)));have st:vO qL yU ((k::ks).map λk=>PV.i ((k:Nat):Int)) [some (.l (N.map .s)),o]=(yU [some (.l (N.map .s)),some (.i (k:Int))]).bind λf=>match f with | .nx ρ2=>vO qL yU (ks.map λk=>PV.i ((k:Nat):Int)) ρ2 | .ct ρ2=>vO qL yU (ks.map λk=>PV.i ((k:Nat):Int)) ρ2 | .bk ρ2=>.ok (.nx ρ2) | .rt v=>.ok (.rt v):=rfl
  by_cases h:AG k∈N
  .rw[T5 h,if_neg (by decide)]at e;obtain⟨k',a,b⟩:=XQ (ks:=ks) (o:=some (.i (k:Int))) (λx hx=>h1 x (S6 _ hx)) (by
    obtain⟨x,hx,q⟩:=h2;rcases a0f.mp hx with rfl|hx
    .exact absurd h q
    .exact⟨x,hx,q⟩)
   refine⟨k',a,st.trans ?_⟩;show(sIf _ _ _ _).bind _=_;rw[e];exact b
  .rw[a0a h,if_pos (by decide)]at e;refine⟨k,h,st.trans ?_⟩;show(sIf _ _ _ _).bind _=_;rw[e,wY c];rfl
def bx{N:Sn}(hn:N.length<=40):∃z:Str,z∉N/\yN [.l (N.map .s)]=.ok (.s z):=by
 have ex:∃k∈List.range (N.length+1),AG k∉N:=a2y λh=>by
  have hs:∀x∈(List.range (N.length+1)).map AG,x∈N:=λx hx=>by obtain⟨k,hk,rfl⟩:=a0P.mp hx;exact a2y λq=>h ⟨k,hk,q⟩
  have nd:((List.range (N.length+1)).map AG).Nodup:=nodup_range λj k hj hk e=>a0F Fin.val (DI ⟨j,by omega⟩ ⟨k,by omega⟩ e);have:=V9 nd hs;rw[v4,a0D]at this;omega
 obtain⟨k,hk,e⟩:=XQ (N:=N) (ks:=List.range (N.length+1)) (o:=none) (λk hk=>by have:=a0Y.mp hk;omega) ex;rw[<- UC]at e;exact⟨_,hk,zM (j9 (qV (mK (n:=(N.length:Int)+1) (zp (zq (zx (xs:=[.l (N.map .s)]) rfl Jp) rfl rfl) rfl) (by omega) (by omega)) (by rw[show((N.length:Int)+1).toNat=N.length+1 by omega];exact e)))⟩
def Zo(h:m ρ=.exc c fs):jB m ρ=.exc c fs:=by unfold jB;rw[h];rfl
def bz(h:ms ρ=.ok xs)(a:f xs=.exc c fs):zh f ms ρ=.exc c fs:=by unfold zh;rw[h,okb,a]
def AI(h:mi ρ=.ok xs)(a:vO g b xs ρ=.exc c fs):JT mi g b ρ=.exc c fs:=by unfold JT;rw[h,okb,a]
def wN(d:g x ρ=some a)(c:b a=.ok (.nx ρ2)):vO g b (x::xs) ρ=vO g b xs ρ2:=by show((kW (g x ρ)).bind λa=>(b a).bind _)=_;rw[d];show(b a).bind _=_;rw[c];rfl
def pX(e:g x ρ=some a)(d:b a=.exc c fs):vO g b (x::xs) ρ=.exc c fs:=by show((kW (g x ρ)).bind λa=>(b a).bind _)=_;rw[e];show(b a).bind _=_;rw[d];rfl
def AJ(d:g x ρ=some a)(c:b a=.ok (.rt v)):vO g b (x::xs) ρ=.ok (.rt v):=by show((kW (g x ρ)).bind λa=>(b a).bind _)=_;rw[d];show(b a).bind _=_;rw[c];rfl
section
variable {N:Sn}{W:List Wy}{F:Str->Ht}{T us:List Tp}{t u:Tp}{ro:PV}{L:Lst}{z home o p:Str}{row:Sn}
abbrev rwP(row:Sn):PV:=.l (row.map .s)
abbrev nmL(us:List Tp):PV:=.l ((us.map (·.1)).map .s)
abbrev tbV(N:Sn)(W:List Wy)(F:Str->Ht)(T:List Tp):PV:=WB (roP N W F) T
def DJ(h:z∉N):yh [.s z,.l (N.map .s)]=.exc 5 [("name",.s z)]:=
 jx ((yc (x:=true) (z5 (zq rfl rfl (G8.trans (by rw[a0a h];rfl))))).trans rfl)
def AK:yx [roP N W F]=.ok (.l (N.map .s)):=zM (wY (zx (zp (Au rfl).1 rfl) rfl))
def AL(h:zc 0 ρ=.ok (tbV N W F T)):jg [(10,y8),(11,yx)] "names" (QS [10] "roads" (zc 0)) zk ρ=.ok (.l (N.map .s)):=by unfold jg;rw[Y8 h,okb];show(if(List.lookup ("names":Str) [("places",PV.l (N.map .s)),("ways",.l (W.map wP)),("lengths",.d (lL N F))]).isSome=true then Out.wall else yx [roP N W F])=_;rw[j_ (by decide +kernel),j_ (by decide +kernel),j_ (by decide +kernel),xq,if_neg (by intro z;cases z)];exact AK
def AN(c:(T.map (·.1)).Nodup)(e:t∈T)(b:a ρ=.ok (WB ro T))(d:ms ρ=.ok [.s t.1]):jg [(10,zo)] "trip" a ms ρ=.ok (tP t):=(UU b d).trans (bw c e)
def pY(b:a ρ=.ok (roP N W F))(d:o∈N)(hp:p∈N)(c:ms ρ=.ok [.s o,.s p]):jg [(11,zu)] "length" a ms ρ=.ok (Hb (zP (F o) (sk p))):=fS b c (by decide +kernel) (by decide +kernel) (by decide +kernel) (W6 d hp)
def AO(b:o∈N)(hp:p∈N):qD [roP N W F,.s o,.s p]=match zP (F o) (sk p)with|none=>.exc 6 [("origin",.s o),("goal",.s p)]|some _=>.ok .n:=by
 have l:=pY (W:=W) (F:=F) (a:=zc 0) (ρ:=[some (roP N W F),some (.s o),some (.s p)]) (ms:=zb (zc 1) (zb (zc 2) zk)) rfl b hp rfl;cases e:zP (F o) (sk p)with
 |none=>rw[e]at l;exact jx ((yc (x:=true) (z5 (zq l rfl rfl))).trans rfl)
 |some y=>rw[e]at l;exact br rfl ((yc (x:=false) (z5 (zq l rfl rfl))).trans rfl)
def Nj:∀{row:Sn},(∃us:List Tp,(∀t∈us,t∈T)/\row=us.map (·.1))\/∃(us:List Tp)(z:Str)(B:Sn),(∀t∈us,t∈T)/\z∉T.map (·.1)/\row=us.map (·.1)++z::B
 |[]=>.inl ⟨[],nofun,rfl⟩
 |z::row=>by
  by_cases h:z∈T.map (·.1)
  .obtain⟨t,c,e⟩:=a0P.mp h;rcases Nj (row:=row)with⟨us,a,q⟩|⟨us,y,B,a,d,q⟩
   .exact .inl ⟨t::us,λx b=>(a0f.mp b).elim (λe=>e▸c) (a x),by rw[T2,<- q,e]⟩
   .exact .inr ⟨t::us,y,B,λx b=>(a0f.mp b).elim (λe=>e▸c) (a x),d,by rw[T2,e,q];rfl⟩
  .exact .inr ⟨[],z,row,nofun,h,rfl⟩
def f6(b:(T.map (·.1)).Nodup){X:SR}{B:SH}:∀{us:List Tp}{x:SR},(∀t∈us,t∈T)->∃a,vO wG wH ((us.map (·.1)).map .s++B) [some (WB ro T),X,x]=vO wG wH B [some (WB ro T),X,a]
 |[],x,_=>⟨x,rfl⟩
 |t::us,x,h=>by obtain⟨a,e⟩:=f6 b (us:=us) (x:=some (.s t.1)) λy c=>h y (S6 _ c);exact⟨a,(wN rfl (yj (AN b (h t S4) rfl rfl))).trans e⟩
def iW(a:(T.map (·.1)).Nodup)(h:∀t∈us,t∈T):qC [WB ro T,nmL us]=.ok .n:=by obtain⟨x,e⟩:=f6 (ro:=ro) (X:=some (nmL us)) (B:=[]) (x:=none) a h;rw[a0h]at e;exact br rfl (qV (ye rfl) e)
def AQ(nd:(T.map (·.1)).Nodup)(h:∀t∈us,t∈T)(hz:z∉T.map (·.1)):qC [WB ro T,rwP (us.map (·.1)++z::B)]=.exc 7 [("name",.s z)]:=by obtain⟨x,e⟩:=f6 (ro:=ro) (X:=some (rwP (us.map (·.1)++z::B))) (B:=.s z::B.map .s) (x:=none) nd h;refine jx (AI (ye rfl) ?_);rw[a0m];refine e.trans (pX rfl (Zo ?_));rw[UU (xs:=[.s z]) rfl rfl];exact AD hz
def Nk:pIn true (.s z) (.d kvs)=.ok (.b (!(zP kvs (sk z)).isSome)):=a0F (λb=>Out.ok (PV.b b)) (a1w _)
abbrev dSt(home:Str)(row:PV)(T:List Tp)(L:Lst)(x y:SR):Sto:=[some (.s home),some row,some (.d (j7 T)),some (.dt L),x,y]
def bA(b:(T.map (·.1)).Nodup){X:PV}{y:SR}{B:SH}:∀{us:List Tp}{x:SR},(∀t∈us,t∈T)->∃a,vO wB wC ((us.map (·.1)).map .s++B) (dSt home X T L x y)=vO wB wC B (dSt home X T L a y)
 |[],x,_=>⟨x,rfl⟩
 |t::us,x,h=>by obtain⟨a,e⟩:=bA b (us:=us) (x:=some (.s t.1)) λy c=>h y (S6 _ c);exact⟨a,(wN rfl ((yc (x:=false) (z5 (zq rfl rfl (Nk.trans (by rw[bu b (h t S4)];rfl))))).trans rfl)).trans e⟩
def ulk(F:Str->Ht):List Tp->Option (Tp×Tp)
 |t::u::R=>if lnk F t u=true then ulk F (u::R)else some (t,u)
 |_=>none
def f7(f:(T.map (·.1)).Nodup)(d:∀t∈T,TOk N F t){X:SR}:∀{us:List Tp}{x y:SR},(∀t∈us,t∈T)->(ulk F us=none->∃l j,vO qM qN ((us.zip us.tail).map λq=>PV.t [.s q.1.1,.s q.2.1]) [some (tbV N W F T),X,x,y]=.ok (.nx [some (tbV N W F T),X,l,j]))/\∀a b,ulk F us=some (a,b)->vO qM qN ((us.zip us.tail).map λq=>PV.t [.s q.1.1,.s q.2.1]) [some (tbV N W F T),X,x,y]=.exc 12 [("first",.s a.1),("second",.s b.1)]
 |[],x,y,_=>⟨λ_=>⟨x,y,rfl⟩,nofun⟩
 |[t],x,y,_=>⟨λ_=>⟨x,y,rfl⟩,nofun⟩
 |t::u::R,x,y,h=>by
  have c:z0 (zh Y6 (zb (zc 0) (zb (zc 2) (zb (zc 3) zk)))) [some (tbV N W F T),X,some (.s t.1),some (.s u.1)]=.ok (lnk F t u):=z5 (zx (xs:=[tbV N W F T,.s t.1,.s u.1]) rfl (AE f d (h t S4) (h u (S6 _ S4))));unfold ulk;cases e:lnk F t u with
  |true=>rw[e]at c;rw[if_pos rfl];have fs:vO qM qN (((t::u::R).zip (t::u::R).tail).map λq=>PV.t [.s q.1.1,.s q.2.1]) [some (tbV N W F T),X,x,y]=_:=wN (g:=qM) (b:=qN) (x:=PV.t [.s t.1,.s u.1]) rfl ((yc (x:=false) (dA c)).trans rfl);rw[fs];exact f7 f d (us:=u::R) λy i=>h y (S6 _ i)
  |false=>rw[e]at c;rw[if_neg T7];refine⟨nofun,λa b q=>?_⟩;cases q;exact pX (x:=PV.t [.s t.1,.s u.1]) rfl ((yc (x:=true) (dA c)).trans rfl)
def Fi:N5 (zb (zc 1) (zb (mSl pSl (zc 1) (kK (mC (.i 1))) bW) zk)) [x,some (nmL us),X,Y]=.ok ((us.zip us.tail).map λq=>PV.t [.s q.1.1,.s q.2.1]):=by
 show Out.ok (Mp ((us.map (·.1)).map PV.s) (gp ((us.map (·.1)).map PV.s) (some 1) none))=_;have:gp ((us.map (·.1)).map PV.s) (some 1) none=us.tail.map λt=>PV.s t.1:=by
  cases us with
  |nil=>rfl
  |cons t R=>rw[fT (by decide) (by rw[v4,v4,S0];omega)];show(R.map (·.1)).map PV.s=_;rw[a0U];rfl
 rw[this,a0U];unfold Mp List.zip;rw[List.zipWith_map,List.map_zipWith];rfl
def sW(c:(T.map (·.1)).Nodup)(d:∀t∈T,TOk N F t)(h:∀t∈us,t∈T)(e:ulk F us=some (a,b)):yy [tbV N W F T,nmL us]=.exc 12 [("first",.s a.1),("second",.s b.1)]:=
 jx (zd ⟨_,yj (zx rfl (iW c h)),AI Fi ((f7 c d h).2 a b e)⟩)
def dF(a:(T.map (·.1)).Nodup)(b:∀t∈T,TOk N F t)(h:∀t∈us,t∈T)(e:ulk F us=none):yy [tbV N W F T,nmL us]=.ok .n:=by obtain⟨x,y,q⟩:=(f7 (X:=some (nmL us)) (x:=none) (y:=none) a b h).1 e;exact br rfl (zd ⟨_,yj (zx rfl (iW a h)),qV Fi q⟩)
def Fj(g:LOk N L F)(d:t.2.2.1∈N)(f:u.2.1∈N):yM [tP t,tP u,.dt L]=.ok (.b (lnk F t u)):=by
 have e:zP L [sk t.2.2.1,sk u.2.1]=zP (F t.2.2.1) (sk u.2.1):=g _ d _ f;have b:yX 3 (Yw (zb (mOp pIx (zc 0) (mC (.i 2))) (zb (mOp pIx (zc 1) (mC (.i 1))) zk))) [some (tP t),some (tP u),some (.dt L),none]=.ok (.nx [some (tP t),some (tP u),some (.dt L),some (.t [.s t.2.2.1,.s u.2.1])]):=yt (Yr (zp rfl (zp rfl rfl)) (T6 rfl));have a:mOp Mx (zc 3) (zc 2) [some (tP t),some (tP u),some (.dt L),some (.t [.s t.2.2.1,.s u.2.1])]=.ok (.b (zP L [sk t.2.2.1,sk u.2.1]).isSome):=zq rfl rfl rfl;refine zM (zd ⟨_,b,?_⟩);unfold lnk;rw[e]at a;cases q:zP (F t.2.2.1) (sk u.2.1)with
 |none=>rw[q]at a;refine wY ?_;unfold gY;rw[a,okb];rfl
 |some y=>
  rw[q]at a;have c:N6 (.dt L) (.t [.s t.2.2.1,.s u.2.1])=.ok (.i y):=by show kW ((zP L [sk t.2.2.1,sk u.2.1]).map PV.i)=_;rw[e,q];rfl
  exact wY (nu (x:=true) a (zq (x:=.i (t.2.2.2.2.1+y)) (y:=.i u.2.2.2.1) (zq (x:=.i t.2.2.2.2.1) (y:=.i y) rfl (zq rfl rfl c) rfl) rfl rfl))
end
abbrev Rw:=Str×Int×Int
abbrev rP(r:Rw):PV:=.t [.s r.1,.i r.2.1,.i r.2.2]
abbrev rsP(l:List Rw):PV:=.l (l.map rP)
abbrev iX(a b:Int):Rw:=("way",a,b)
abbrev rWt(a b:Int):Rw:=("wait",a,b)
abbrev rTr(a b:Int):Rw:=("trip",a,b)
def bl(r:Rw):Bool:=decide (r.2.1<r.2.2)
def dd(F:Str->Ht)(a b:Str):Int:=(zP (F a) (sk b)).getD 0
def prs(F:Str->Ht):Str->Int->List Tp->List Rw
 |_,_,[]=>[]
 |p,m,t::R=>[(iX m (m+dd F p t.2.1)),(rWt (m+dd F p t.2.1) t.2.2.2.1),(rTr t.2.2.2.1 t.2.2.2.2.1)]++prs F t.2.2.1 t.2.2.2.2.1 R
def eP:Str->List Tp->Str
 |p,[]=>p
 |_,t::R=>eP t.2.2.1 R
def eM:Int->List Tp->Int
 |m,[]=>m
 |_,t::R=>eM t.2.2.2.2.1 R
def Cn(F:Str->Ht):Str->List Tp->Prop
 |_,[]=>True
 |p,t::R=>(∃y,zP (F p) (sk t.2.1)=some y/\0<=y)/\Cn F t.2.2.1 R
section
variable {N:Sn}{W:List Wy}{F:Str->Ht}{T us:List Tp}{t u:Tp}{L:Lst}{home p:Str}{m:Int}{acc:List Rw}
def f9:∀{us:List Tp}{p:Str}{m:Int},(prs F p m us).length=3*us.length
 |[],p,m=>rfl
 |t::R,p,m=>by show([_,_,_]++prs F t.2.2.1 t.2.2.2.2.1 R).length=_;rw[S9,f9];simp only[List.length_cons,List.length_nil];omega
def sX(h:ρ[i]?=some (some (rsP acc)))(a:mm ρ=.ok (rP r))(b:acc.length<10000):c9 i mm ρ=.ok (.nx (ρ.set i (some (rsP (acc++[r]))))):=by rw[pM h a (by rw[v4];omega)];rw[show acc.map rP++[rP r]=(acc++[r]).map rP by rw[a0m];rfl]
def Nl(a:∀t∈us,TOk N F t)(hp:p∈N):eP p us∈N:=by
 induction us generalizing p with
 |nil=>exact hp
 |cons t R b=>exact b (λx c=>a x (S6 _ c)) (a t S4).goal
abbrev pSt(tab:PV)(home:Str)(X:PV)(m:Int)(p:Str)(acc:List Rw)(a b c:SR):Sto:=[some tab,some (.s home),some X,some (.i m),some (.s p),some (rsP acc),a,b,c]
def dG(l:(T.map (·.1)).Nodup)(j:∀t∈T,TOk N F t){X:PV}:∀{us:List Tp}{p:Str}{m:Int}{acc:List Rw}{a b c:SR},(∀t∈us,t∈T)->p∈N->Cn F p us->acc.length+3*us.length<=5000->∃g d f,vO XB XE ((us.map (·.1)).map .s) (pSt (tbV N W F T) home X m p acc a b c)=.ok (.nx (pSt (tbV N W F T) home X (eM m us) (eP p us) (acc++prs F p m us) g d f))
 |[],p,m,acc,a,b,c,_,_,_,_=>⟨a,b,c,by unfold prs;rw[a0h];rfl⟩
 |t::R,p,m,acc,a,b,c,h,hp,v,B=>by
  obtain⟨⟨y,q,_⟩,i⟩:=v;have s:=h t S4;have k:=j t s;rw[S0]at B;have A:dd F p t.2.1=y:=by unfold dd;rw[q];rfl
  obtain⟨g,d,f,e⟩:=dG l j (X:=X) (us:=R) (p:=t.2.2.1) (m:=t.2.2.2.2.1) (acc:=acc++[(iX m (m+y))]++[(rWt (m+y) t.2.2.2.1)]++[(rTr t.2.2.2.1 t.2.2.2.2.1)]) (a:=some (.s t.1)) (b:=some (tP t)) (c:=some (.i (m+y))) (λx w=>h x (S6 _ w)) k.goal i (by simp only[List.length_append,List.length_cons,List.length_nil];omega);have n:=pY (W:=W) (F:=F) (a:=QS [10] "roads" (zc 0)) (ρ:=pSt (tbV N W F T) home X m p acc (some (.s t.1)) (some (tP t)) c) (ms:=zb (zc 4) (zb (mOp pIx (zc 7) (mC (.i 1))) zk)) (Y8 rfl) hp k.org rfl;rw[q]at n;refine⟨g,d,f,(wN rfl (zd ⟨_,yt (AN l s rfl rfl),zd ⟨_,yt (zq (x:=.i m) (y:=.i y) rfl n rfl),zd ⟨_,sX (r:=(iX m (m+y))) rfl (Yr (zp rfl (zp rfl (zp rfl rfl))) (T6 rfl)) (by omega),zd ⟨_,sX (r:=(rWt (m+y) t.2.2.2.1)) rfl (Yr (zp rfl (zp rfl (zp rfl rfl))) (T6 rfl)) (by simp only[List.length_append,List.length_cons,List.length_nil];omega),zd ⟨_,sX (r:=(rTr t.2.2.2.1 t.2.2.2.2.1)) rfl (Yr (zp rfl (zp rfl (zp rfl rfl))) (T6 rfl)) (by simp only[List.length_append,List.length_cons,List.length_nil];omega),zd ⟨_,rfl,rfl⟩⟩⟩⟩⟩⟩)).trans (e.trans ?_)⟩;rw[show prs F p m (t::R)=[iX m (m+dd F p t.2.1),rWt (m+dd F p t.2.1) t.2.2.2.1,rTr t.2.2.2.1 t.2.2.2.2.1]++prs F t.2.2.1 t.2.2.2.2.1 R from rfl,A,a0w,a0w,a0w];rfl
def DK(C:(T.map (·.1)).Nodup)(n:∀t∈T,TOk N F t)(h:∀t∈us,t∈T)(i:home∈N)(j:us=u::t')(s:Cn F home us)(O:us.length<=1000)(M:zP (F (eP home us)) (sk home)=some y):kn [tbV N W F T,.s home,nmL us]=.ok (rsP (prs F home (u.2.2.2.1-dd F home u.2.1) us++[(iX (eM (u.2.2.2.1-dd F home u.2.1) us) (eM (u.2.2.2.1-dd F home u.2.1) us+y))])):=by
 have l:u∈us:=by rw[j];exact S4
 have E:=h u l;have k:=n u E;obtain⟨d,g,_⟩:∃y,zP (F home) (sk u.2.1)=some y/\0<=y:=by rw[j]at s;exact s.1
 have K:dd F home u.2.1=d:=by unfold dd;rw[g];rfl
 have w:∀{f:Sto},zc 2 f=.ok (nmL us)->mOp pIx (zc 2) (mC (.i 0)) f=.ok (.s u.1):=λ{f} q=>by refine zq q rfl ?_;rw[j];show kW (atI (PV.s u.1::_) 0)=_;rw[CB];rfl
 have D:jg [(10,zo)] "trip" (zc 0) (zb (mOp pIx (zc 2) (mC (.i 0))) zk) [some (tbV N W F T),some (.s home),some (nmL us),none,none,none,none,none,none]=.ok (tP u):=AN C E rfl (zp (w rfl) rfl);have A:=pY (W:=W) (F:=F) (a:=QS [10] "roads" (zc 0)) (ρ:=[some (tbV N W F T),some (.s home),some (nmL us),none,none,none,none,none,none]) (ms:=zb (zc 1) (zb (mOp pIx (jg [(10,zo)] "trip" (zc 0) (zb (mOp pIx (zc 2) (mC (.i 0))) zk)) (mC (.i 1))) zk)) (Y8 rfl) i k.org (zp rfl (zp (zq D rfl rfl) rfl));rw[g]at A;obtain⟨J,G,H,e⟩:=dG (home:=home) (W:=W) (X:=nmL us) (us:=us) (p:=home) (m:=u.2.2.2.1-d) (acc:=[]) (a:=none) (b:=none) (c:=none) C n h i s (by show 0+_<=_;omega);rw[a05]at e;have v:eP home us∈N:=Nl (λx I=>n x (h x I)) i;have B:=pY (W:=W) (F:=F) (a:=QS [10] "roads" (zc 0)) (ρ:=pSt (tbV N W F T) home (nmL us) (eM (u.2.2.2.1-d) us) (eP home us) (prs F home (u.2.2.2.1-d) us) J G H) (ms:=zb (zc 4) (zb (zc 1) zk)) (Y8 rfl) v i rfl;rw[M]at B;rw[K];exact zM (zd ⟨_,yt (zq (x:=.i u.2.2.2.1) (y:=.i d) (zq D rfl rfl) A rfl),zd ⟨_,rfl,zd ⟨pSt (tbV N W F T) home (nmL us) (u.2.2.2.1-d) home [] none none none,rfl,zd ⟨_,qV (ye rfl) e,zd ⟨_,sX (r:=(iX (eM (u.2.2.2.1-d) us) (eM (u.2.2.2.1-d) us+y))) rfl (Yr (zp rfl (zp rfl (zp (zq rfl B rfl) rfl))) (T6 rfl)) (by rw[f9];omega),rfl⟩⟩⟩⟩⟩)
abbrev sSt(X:PV)(home:Str)(L:Lst)(acc:List Rw)(p:Str)(m:PV)(a b:SR):Sto:=[some X,some (.s home),some (.dt L),some (rsP acc),some (.s p),some m,a,b]
def Hm(h:c ρ=.ok x)(a:ρ[i]?=some (some (rsP acc)))(b:mm ρ=.ok (rP r))(e:acc.length<10000):sIf c (c9 i mm) z1 ρ=.ok (.nx (ρ.set i (some (rsP (acc++if x=true then[r]else[]))))):=by
 refine(yc h).trans ?_;cases x with
 |true=>rw[if_pos rfl,if_pos rfl];exact sX a b e
 |false=>rw[if_neg T7,if_neg T7,a0h];show Out.ok (Fw.nx ρ)=_;congr 2;obtain⟨f,d⟩:=T9.mp a;rw[<- d,a28]
def sY(C:LOk N L F)(hp:p∈N)(k:TOk N F t)(d:zP (F p) (sk t.2.1)=some y){a b:SR}(l:(m0=.n/\m=t.2.2.2.1-y)\/m0=.i m)(D:acc.length<9000):Y4 (sSt X home L acc p m0 (some (tP t)) b)=.ok (.nx (sSt X home L (acc++(prs F p m [t]).filter bl) t.2.2.1 (.i t.2.2.2.2.1) (some (tP t)) (some (.i y)))):=by
 have e:zP L [sk p,sk t.2.1]=some y:=(C p hp _ k.org).trans d;have A:dd F p t.2.1=y:=by unfold dd;rw[d];rfl
 have g:yX 7 (ic (zc 2) (zb (zc 4) (zb (mOp pIx (zc 6) (mC (.i 1))) zk))) (sSt X home L acc p m0 (some (tP t)) b)=.ok (.nx (sSt X home L acc p m0 (some (tP t)) (some (.i y)))):=yt (dE rfl rfl e);have s:sIf (z0 (mOp (tL false) (zc 5) (mC .n))) (yX 5 (mOp d_ (mOp pIx (zc 6) (mC (.i 3))) (zc 7))) z1 (sSt X home L acc p m0 (some (tP t)) (some (.i y)))=.ok (.nx (sSt X home L acc p (.i m) (some (tP t)) (some (.i y)))):=by
  rcases l with⟨c,B⟩|c
  .subst c B;exact(yc (x:=true) rfl).trans (yt (zq (x:=.i t.2.2.2.1) (y:=.i y) rfl rfl rfl))
  .subst c;exact(yc (x:=false) rfl).trans rfl
 have q:=Hm (acc:=acc) (i:=3) (r:=(iX m (m+y))) (mm:=Yw (zb (mC (.s "way")) (zb (zc 5) (zb (mOp zJ (zc 5) (zc 7)) zk)))) (XJ (ρ:=sSt X home L acc p (.i m) (some (tP t)) (some (.i y))) (a:=zc 7) (x:=y) (n:=0) rfl) rfl (Yr (zp rfl (zp rfl (zp rfl rfl))) (T6 rfl)) (by omega);have h:=Hm (acc:=acc++if decide (y>0)=true then[(iX m (m+y))]else[]) (i:=3) (r:=(rWt (m+y) t.2.2.2.1)) (mm:=Yw (zb (mC (.s "wait")) (zb (mOp zJ (zc 5) (zc 7)) (zb (mOp pIx (zc 6) (mC (.i 3))) zk)))) (x:=decide (m+y<t.2.2.2.1)) (z5 (m:=mOp pLt (mOp zJ (zc 5) (zc 7)) (mOp pIx (zc 6) (mC (.i 3)))) (ρ:=sSt X home L (acc++if decide (y>0)=true then[(iX m (m+y))]else[]) p (.i m) (some (tP t)) (some (.i y))) (zq (x:=.i (m+y)) (y:=.i t.2.2.2.1) rfl rfl rfl)) rfl (Yr (zp rfl (zp rfl (zp rfl rfl))) (T6 rfl)) (by rw[S9];split<;>simp<;>omega);have w:=sX (acc:=(acc++if decide (y>0)=true then[(iX m (m+y))]else[])++if decide (m+y<t.2.2.2.1)=true then[(rWt (m+y) t.2.2.2.1)]else[]) (i:=3) (r:=(rTr t.2.2.2.1 t.2.2.2.2.1)) (mm:=Yw (zb (mC (.s "trip")) (zb (mOp pIx (zc 6) (mC (.i 3))) (zb (mOp pIx (zc 6) (mC (.i 4))) zk)))) (ρ:=sSt X home L ((acc++if decide (y>0)=true then[(iX m (m+y))]else[])++if decide (m+y<t.2.2.2.1)=true then[(rWt (m+y) t.2.2.2.1)]else[]) p (.i m) (some (tP t)) (some (.i y))) rfl (Yr (zp rfl (zp rfl (zp rfl rfl))) (T6 rfl)) (by rw[S9,S9];split<;>split<;>simp<;>omega);refine(zd ⟨_,g,zd ⟨_,s,zd ⟨_,q,zd ⟨_,h,zd ⟨_,w,zd ⟨_,rfl,rfl⟩⟩⟩⟩⟩⟩).trans ?_;have hf:(prs F p m [t]).filter bl=(if decide (y>0)=true then[(iX m (m+y))]else[])++((if decide (m+y<t.2.2.2.1)=true then[(rWt (m+y) t.2.2.2.1)]else[])++[(rTr t.2.2.2.1 t.2.2.2.2.1)]):=by show List.filter bl [(iX m (m+dd F p t.2.1)),(rWt (m+dd F p t.2.1) t.2.2.2.1),(rTr t.2.2.2.1 t.2.2.2.2.1)]=_;rw[A,a0V,a0V,a0V,List.filter_nil];have j:bl (iX m (m+y))=decide (y>0):=decide_eq_decide.mpr (by show m<m+y↔_;omega);have f:bl (rWt (m+y) t.2.2.2.1)=decide (m+y<t.2.2.2.1):=rfl;have v:bl (rTr t.2.2.2.1 t.2.2.2.2.1)=true:=T5 k.fw;rw[j,f,v];cases decide (y>0)<;>cases decide (m+y<t.2.2.2.1)<;>rfl
 rw[hf,<- a0w,<- a0w];rfl
end
section
variable {N:Sn}{W:List Wy}{F:Str->Ht}{T us:List Tp}{t u:Tp}{L:Lst}{z home p:Str}{m:Int}{acc:List Rw}
def DL:prs F p m (t::R)=prs F p m [t]++prs F t.2.2.1 t.2.2.2.2.1 R:=rfl
def AR{l:List Rw}:(l.filter bl).length<=l.length:=a27 _ _
def dH(hL:LOk N L F){X:PV}:∀{us:List Tp}{p:Str}{m:Int}{m0:PV}{acc:List Rw}{a b:SR},(∀t∈us,TOk N F t)->p∈N->Cn F p us->(m0=.i m\/∃t R,us=t::R/\m0=.n/\m=t.2.2.2.1-dd F p t.2.1)->acc.length+3*us.length<=5000->∃a' b',vO VY Y4 (us.map tP) (sSt X home L acc p m0 a b)=.ok (.nx (sSt X home L (acc++(prs F p m us).filter bl) (eP p us) (.i (eM m us)) a' b'))
 |[],p,m,m0,acc,a,b,_,_,_,hm,_=>by
  rcases hm with rfl|⟨t,R,q,_⟩
  .exact⟨a,b,by rw[show(prs F p m []).filter bl=[]from rfl,a0h];rfl⟩
  .cases q
 |t::R,p,m,m0,acc,a,b,h,hp,hc,hm,hl=>by
  obtain⟨⟨y,hy,_⟩,hc2⟩:=hc;have k:=h t S4;rw[S0]at hl;have ed:dd F p t.2.1=y:=by unfold dd;rw[hy];rfl
  have l3:((prs F p m [t]).filter bl).length<=3:=AR;have st:=sY (home:=home) (acc:=acc) (X:=X) (m0:=m0) (m:=m) (b:=b) (a:=none) hL hp k hy (by
   rcases hm with h1|⟨t',R',q,h1,h2⟩
   .exact .inr h1
   .cases q;exact .inl ⟨h1,by rw[h2,ed]⟩) (by omega)
  obtain⟨a',b',e⟩:=dH hL (X:=X) (us:=R) (p:=t.2.2.1) (m:=t.2.2.2.2.1) (m0:=.i t.2.2.2.2.1) (acc:=acc++(prs F p m [t]).filter bl) (a:=some (tP t)) (b:=some (.i y)) (λx hx=>h x (S6 _ hx)) k.goal hc2 (.inl rfl) (by rw[S9];omega);refine⟨a',b',(wN rfl st).trans (e.trans ?_)⟩;rw[DL (R:=R),a3x,a0w];rfl
def AS(hL:LOk N L F)(hT:∀t∈us,TOk N F t)(hh:home∈N)(hu:us=u::R)(hc:Cn F home us)(hl:us.length<=1000)(ey:zP (F (eP home us)) (sk home)=some y)(hm:m=u.2.2.2.1-dd F home u.2.1):kj [.l (us.map tP),.s home,.dt L]=.ok (rsP ((prs F home m us++[iX (eM m us) (eM m us+y)]).filter bl)):=by
 obtain⟨a',b',e⟩:=dH (home:=home) hL (X:=.l (us.map tP)) (us:=us) (p:=home) (m:=m) (m0:=.n) (acc:=[]) (a:=none) (b:=none) hT hh hc (.inr ⟨u,R,hu,rfl,hm⟩) (by show 0+_<=_;omega);rw[a05]at e;have hp:eP home us∈N:=Nl hT hh;have eL:zP L [sk (eP home us),sk home]=some y:=(hL _ hp _ hh).trans ey;have l3:((prs F home m us).filter bl).length<=3*us.length:=by have:=AR (l:=prs F home m us);rw[f9]at this;exact this
 have ne:vD true (.l (us.map tP)) (.l [])=.ok (.b true):=by rw[hu];rfl
 have ix:∀{ρ:Sto},zc 2 ρ=.ok (.dt L)->zc 4 ρ=.ok (.s (eP home us))->zc 1 ρ=.ok (.s home)->ic (zc 2) (zb (zc 4) (zb (zc 1) zk)) ρ=.ok (.i y):=λh2 h4 h1=>dE h2 (zp h4 (zp h1 rfl)) eL;have s5:=Hm (acc:=(prs F home m us).filter bl) (i:=3) (r:=iX (eM m us) (eM m us+y)) (mm:=Yw (zb (mC (.s "way")) (zb (zc 5) (zb (mOp zJ (zc 5) (ic (zc 2) (zb (zc 4) (zb (zc 1) zk)))) zk)))) (x:=true&&decide (y>0)) (wL (ρ:=sSt (.l (us.map tP)) home L ((prs F home m us).filter bl) (eP home us) (.i (eM m us)) a' b') (a:=z0 (mOp (vD true) (zc 0) (QP zk))) (z5 (zq rfl rfl ne)) (XJ (a:=ic (zc 2) (zb (zc 4) (zb (zc 1) zk))) (x:=y) (n:=0) (ix rfl rfl rfl))) rfl (Yr (zp rfl (zp rfl (zp (zq rfl (ix rfl rfl rfl) rfl) rfl))) (T6 rfl)) (by omega);have b1:bl (iX (eM m us) (eM m us+y))=decide (y>0):=decide_eq_decide.mpr (by show eM m us<eM m us+y↔_;omega);rw[a3x,a0V,List.filter_nil,b1];exact zM (zd ⟨_,rfl,zd ⟨_,rfl,zd ⟨sSt (.l (us.map tP)) home L [] home .n none none,rfl,zd ⟨_,qV (ye rfl) e,zd ⟨_,s5,rfl⟩⟩⟩⟩⟩)
def Hn:eP p (A++[t])=t.2.2.1:=by
 induction A generalizing p with
 |nil=>rfl
 |cons a A b=>exact b
def DM(h:home∉N):yR [tbV N W F T,.s home,row]=.exc 5 [("name",.s home)]:=
 jx (W8 (Zo (bz (xs:=[.s home,.l (N.map .s)]) (zp rfl (zp (AL rfl) rfl)) (DJ h))))
def Fm(h:home∈N)(e:yy [tbV N W F T,row]=.exc c fs):yR [tbV N W F T,.s home,row]=.exc c fs:=
 jx (zd ⟨_,yj (zx (xs:=[.s home,.l (N.map .s)]) (zp rfl (zp (AL rfl) rfl)) (kA h)),Zo (bz rfl e)⟩)
def Nn(h:home∈N)(e:yy [tbV N W F T,row]=.ok .n):yR [tbV N W F T,.s home,row]=.ok .n:=
 br rfl (zd ⟨_,yj (zx (xs:=[.s home,.l (N.map .s)]) (zp rfl (zp (AL rfl) rfl)) (kA h)),yj (zx rfl e)⟩)
def AU(e:yR [tbV N W F T,.s home,row]=.exc c fs):yi [tbV N W F T,.s home,row]=.exc c fs:=jx (W8 (Zo (bz rfl e)))
def iY(e:yi [tbV N W F T,.s home,row]=.exc c fs):jc [tbV N W F T,.s home,row]=.exc c fs:=jx (W8 (Zo (bz rfl e)))
def Fn(e:yR [tbV N W F T,.s home,.l []]=.ok .n):yi [tbV N W F T,.s home,.l []]=.ok .n:=
 br rfl (zd ⟨_,yj (zx rfl e),(yc (x:=false) rfl).trans rfl⟩)
def pZ(h:a ρ=.ok (nmL (u::R))):mOp pIx a (mC (.i 0)) ρ=.ok (.s u.1):=by refine zq h rfl ?_;show kW (atI (PV.s u.1::_) 0)=_;rw[CB];rfl
def AV(h:a ρ=.ok (nmL (A++[v]))):mOp pIx a (mUn oC (mC (.i 1))) ρ=.ok (.s v.1):=by refine zq h rfl ?_;show kW (atI ((List.map (·.1) (A++[v])).map PV.s) (-1))=_;rw[oP,a0m,a0m];show kW (((A.map (·.1)).map PV.s++[PV.s v.1]).getLast?)=_;rw[a3f];rfl
def AW:QR [nmL us]=.ok (.i (us.length:Int)):=by show Out.ok (PV.i (((us.map (·.1)).map PV.s).length:Int))=_;rw[v4,v4]
def Ho(C:(T.map (·.1)).Nodup)(w:∀t∈T,TOk N F t)(h:∀t∈us,t∈T)(D:home∈N)(j:us=u::R)(s:us=A++[v])(e:yR [tbV N W F T,.s home,nmL us]=.ok .n):yi [tbV N W F T,.s home,nmL us]=match zP (F home) (sk u.2.1)with|none=>.exc 6 [("origin",.s home),("goal",.s u.2.1)]|some _=>match zP (F v.2.2.1) (sk home)with|none=>.exc 6 [("origin",.s v.2.2.1),("goal",.s home)]|some _=>.ok .n:=by
 have c:u∈T:=h u (by rw[j];exact S4);have f:v∈T:=h v (by rw[s];exact a0c _ (a1U _));have i:=yc (ρ:=[some (tbV N W F T),some (.s home),some (nmL us)]) (a:=zY (jB (zh qD (zb (QS [10] "roads" (zc 0)) (zb (zc 1) (zb (mOp pIx (jg [(10,zo)] "trip" (zc 0) (zb (mOp pIx (zc 2) (mC (.i 0))) zk)) (mC (.i 1))) zk))))) (jB (zh qD (zb (QS [10] "roads" (zc 0)) (zb (mOp pIx (jg [(10,zo)] "trip" (zc 0) (zb (mOp pIx (zc 2) (mUn oC (mC (.i 1)))) zk)) (mC (.i 2))) (zb (zc 1) zk)))))) (b:=z1) (XJ (n:=0) (zx (ms:=zb (zc 2) zk) (xs:=[nmL us]) rfl AW));rw[T5 (by rw[j,S0];omega),if_pos rfl]at i;have q:zb (QS [10] "roads" (zc 0)) (zb (zc 1) (zb (mOp pIx (jg [(10,zo)] "trip" (zc 0) (zb (mOp pIx (zc 2) (mC (.i 0))) zk)) (mC (.i 1))) zk)) [some (tbV N W F T),some (.s home),some (nmL us)]=.ok [roP N W F,.s home,.s u.2.1]:=zp (Y8 rfl) (zp rfl (zp (zq (AN C c rfl (zp (pZ (R:=R) (by rw[j];rfl)) rfl)) rfl rfl) rfl));have B:zb (QS [10] "roads" (zc 0)) (zb (mOp pIx (jg [(10,zo)] "trip" (zc 0) (zb (mOp pIx (zc 2) (mUn oC (mC (.i 1)))) zk)) (mC (.i 2))) (zb (zc 1) zk)) [some (tbV N W F T),some (.s home),some (nmL us)]=.ok [roP N W F,.s v.2.2.1,.s home]:=zp (Y8 rfl) (zp (zq (AN C f rfl (zp (AV (A:=A) (by rw[s];rfl)) rfl)) rfl rfl) (zp rfl rfl));have d:=AO (W:=W) (F:=F) D (w u c).org;have g:=AO (W:=W) (F:=F) (w v f).goal D;have l:=yj (zx (ρ:=[some (tbV N W F T),some (.s home),some (nmL us)]) (ms:=zb (zc 0) (zb (zc 1) (zb (zc 2) zk))) (xs:=[tbV N W F T,.s home,nmL us]) rfl e);cases x:zP (F home) (sk u.2.1)with
 |none=>rw[x]at d;exact jx (zd ⟨_,l,i.trans (W8 (Zo (bz q d)))⟩)
 |some y=>
  rw[x]at d;dsimp only;cases r:zP (F v.2.2.1) (sk home)with
  |none=>rw[r]at g;exact jx (zd ⟨_,l,i.trans (zd ⟨_,yj (zx q d),Zo (bz B g)⟩)⟩)
  |some E=>rw[r]at g;exact br rfl (zd ⟨_,l,i.trans (zd ⟨_,yj (zx q d),yj (zx B g)⟩)⟩)
def Fo(e:yi [tbV N W F T,.s home,.l []]=.ok .n):jc [tbV N W F T,.s home,.l []]=.ok (rsP []):=
 zM (zd ⟨_,yj (zx rfl e),j9 ((yc (x:=true) rfl).trans rfl)⟩)
def Pw(h:us=u::R)(q:l.length<=100000)(e:yi [tbV N W F T,.s home,nmL us]=.ok .n)(ep:kn [tbV N W F T,.s home,nmL us]=.ok (rsP l)):jc [tbV N W F T,.s home,nmL us]=.ok (rsP (l.filter bl)):=by
 have f:=yc (ρ:=[some (tbV N W F T),some (.s home),some (nmL us)]) (a:=jY (QP zk)) (b:=z1) (XI (n:=0) (zx (ms:=zb (zc 2) zk) (xs:=[nmL us]) rfl AW));rw[a0a (by rw[h,S0];omega)]at f;have i:=eJ (g:=dw) (c:=dy) (e:=dz) rP bl rP (λd=>∃z,d=[z]) l [none] [] ⟨_,rfl⟩ (λr s d ⟨z,j⟩=>by
  subst j;exact⟨_,rfl,⟨_,rfl⟩,z5 (zq (x:=.i r.2.1) (y:=.i r.2.2) rfl rfl rfl),λ_=>rfl⟩) (by show 0+_<=_;omega)
 exact zM (zd ⟨_,yj (zx rfl e),zd ⟨_,f,wY (mJ (ye (zx (xs:=[tbV N W F T,.s home,nmL us]) rfl ep)) i)⟩⟩)
end
section
variable {N:Sn}{W:List Wy}{F:Str->Ht}{T us:List Tp}{t u:Tp}{L:Lst}{z home o p:Str}
def Sf(h:ms ρ=.ok [.i n])(a:-1000<=n)(b:n<=100000):YA ms ρ=.ok ((List.range n.toNat).map λk=>PV.i ((k:Nat):Int)):=by unfold YA;rw[h,okb,<- UC];exact if_pos ⟨by omega,by omega⟩
def AX(e:(T.map (·.1)).Nodup)(d:t∈T)(c:a ρ=.ok (.d (j7 T)))(f:b ρ=.ok (.s t.1)):mOp pIx a b ρ=.ok (tP t):=by refine zq c f ?_;show kW (zP (j7 T) (sk t.1))=_;rw[bu e d];rfl
def Np(h:a<us.length)(c:x ρ=.ok (nmL us))(b:y ρ=.ok (.i (a:Int))):mOp pIx x y ρ=.ok (.s us[a].1):=by refine zq c b ?_;rw[ny (by omega) (by rw[v4,v4];omega),a0K,a0K];rfl
def bB(d:(T.map (·.1)).Nodup)(c:∀t∈T,TOk N F t)(l:LOk N L F)(h:∀t∈us,t∈T){x:SR}:∀(r a:Nat)(y:SR),a+r+1=us.length->(ulk F (us.drop a)=none->∃D,vO wD wF ((List.range' a r).map λk=>PV.i ((k:Nat):Int)) (dSt home (nmL us) T L x y)=.ok (.nx (dSt home (nmL us) T L x D)))/\∀p q,ulk F (us.drop a)=some (p,q)->vO wD wF ((List.range' a r).map λk=>PV.i ((k:Nat):Int)) (dSt home (nmL us) T L x y)=.ok (.rt (.t [.s "Unlinked",.s p.1,.s q.1]))
 |0,a,y,e=>by
  have:us.drop a=[us[a]]:=by rw[a0Q (by omega),List.drop_of_length_le (by omega)]
  rw[this];exact⟨λ_=>⟨y,rfl⟩,nofun⟩
 |r+1,a,y,e=>by
  have f:a<us.length:=by omega
  have g:a+1<us.length:=by omega
  have v:us.drop a=us[a]::us.drop (a+1):=a0Q f;have w:us.drop (a+1)=us[a+1]::us.drop (a+1+1):=a0Q g;have j:=h _ (a0N f);have n:=h _ (a0N g);have i:mOp pIx (zc 1) (zc 5) (dSt home (nmL us) T L x (some (.i (a:Int))))=.ok (.s us[a].1):=Np f rfl rfl;have m:mOp pIx (zc 1) (mOp zJ (zc 5) (mC (.i 1))) (dSt home (nmL us) T L x (some (.i (a:Int))))=.ok (.s us[a+1].1):=Np g rfl rfl;have b:z0 (zh yM (zb (mOp pIx (zc 2) (mOp pIx (zc 1) (zc 5))) (zb (mOp pIx (zc 2) (mOp pIx (zc 1) (mOp zJ (zc 5) (mC (.i 1))))) (zb (zc 3) zk)))) (dSt home (nmL us) T L x (some (.i (a:Int))))=.ok (lnk F us[a] us[a+1]):=z5 (zx (zp (AX d j rfl i) (zp (AX d n rfl m) (zp rfl rfl))) (Fj l (c _ j).goal (c _ n).org));have A:=bB d c l h (x:=x) r (a+1) (some (.i (a:Int))) (by omega);have B:ulk F (us.drop a)=if lnk F us[a] us[a+1]=true then ulk F (us.drop (a+1))else some (us[a],us[a+1]):=by rw[v,w];rfl
  rw[B];cases s:lnk F us[a] us[a+1]with
  |true=>rw[s]at b;rw[if_pos rfl];have fs:vO wD wF ((List.range' a (r+1)).map λk=>PV.i ((k:Nat):Int)) (dSt home (nmL us) T L x y)=_:=wN rfl ((yc (x:=false) (dA b)).trans rfl);rw[fs];exact A
  |false=>rw[s]at b;rw[if_neg T7];refine⟨nofun,λp q C=>?_⟩;cases C;exact AJ rfl ((yc (x:=true) (dA b)).trans (wY (Yr (zp rfl (zp i (zp m rfl))) (T6 rfl))))
structure Env(N:Sn)(F:Str->Ht)(T:List Tp)(L:Lst):Prop where
 nd:(T.map (·.1)).Nodup
 ok:∀t∈T,TOk N F t
 l:LOk N L F
 k:∀a b v,at2 L a b=some v->a∈N/\b∈N
 own:∀o∈N,zP (F o) (sk o)=some 0
 nn:∀o∈N,∀z y,zP (F o) (sk z)=some y->0<=y
def AY(E:Env N F T L)(h:home∉N):y9 [.s home,row,.d (j7 T),.dt L]=.ok (.t [.s "NoPlace",.s home]):=by
 have e:zP L [sk home,sk home]=none:=by
  cases q:zP L [sk home,sk home]with
  |none=>rfl
  |some v=>exact absurd (E.k home home v q).1 h
 exact zM (j9 ((yc (x:=true) ((XM rfl rfl).trans (by rw[e];rfl))).trans rfl))
def Nq(E:Env N F T L)(h:home∈N)(a:q (dSt home row T L none none)=r):zY (sIf (z0 (eY true (zb (zc 0) (zb (zc 0) zk)) (zc 3))) (jY (Yw (zb (mC (.s "NoPlace")) (zb (zc 0) zk)))) z1) q (dSt home row T L none none)=r:=by have e:zP L [sk home,sk home]=some 0:=(E.l home h home h).trans (E.own home h);exact zd ⟨_,(yc (x:=false) ((XM rfl rfl).trans (by rw[e];rfl))).trans rfl,a⟩
def DN(E:Env N F T L)(a:home∈N)(h:∀t∈us,t∈T)(hz:z∉T.map (·.1)):y9 [.s home,rwP (us.map (·.1)++z::B),.d (j7 T),.dt L]=.ok (.t [.s "NoTrip",.s z]):=by obtain⟨x,e⟩:=bA (home:=home) (L:=L) (X:=rwP (us.map (·.1)++z::B)) (y:=none) (B:=.s z::B.map .s) (x:=none) E.nd h;refine zM (Nq E a (j9 (qV (ye rfl) ?_)));rw[a0m];exact e.trans (AJ rfl ((yc (x:=true) (z5 (zq rfl rfl (Nk.trans (by rw[Wa hz];rfl))))).trans (wY (Yr (zp rfl (zp rfl rfl)) (T6 rfl)))))
def iZ(E:Env N F T L)(a:home∈N)(h:∀t∈us,t∈T)(b:∀x,q (dSt home (nmL us) T L x none)=r):zY (sIf (z0 (eY true (zb (zc 0) (zb (zc 0) zk)) (zc 3))) (jY (Yw (zb (mC (.s "NoPlace")) (zb (zc 0) zk)))) z1) (zY (JT (yr (zc 1)) wB wC) q) (dSt home (nmL us) T L none none)=r:=by obtain⟨x,e⟩:=bA (home:=home) (L:=L) (X:=nmL us) (y:=none) (B:=[]) (x:=none) E.nd h;rw[a0h]at e;exact Nq E a (zd ⟨_,qV (ye rfl) e,b x⟩)
def Hq(a:us.length<=1000):YA (zb (mOp d_ (zh QR (zb (zc 1) zk)) (mC (.i 1))) zk) (dSt home (nmL us) T L x y)=.ok ((List.range' 0 (us.length-1)).map λk=>PV.i ((k:Nat):Int)):=by rw[Sf (n:=(us.length:Int)-1) (zp (zq (zx (xs:=[nmL us]) rfl AW) rfl rfl) rfl) (by omega) (by omega),<- List.range_eq_range',show((us.length:Int)-1).toNat=us.length-1 by omega]
def Hr(E:Env N F T L)(d:home∈N)(h:∀t∈us,t∈T)(c:us.length<=1000)(e:ulk F us=some (a,b)):y9 [.s home,nmL us,.d (j7 T),.dt L]=.ok (.t [.s "Unlinked",.s a.1,.s b.1]):=by
 have f:0<us.length:=by cases us with|nil=>cases e|cons=>exact a2J _
 exact zM (iZ E d h λx=>j9 (qV (Hq c) ((bB E.nd E.ok E.l h (us.length-1) 0 none (by omega)).2 a b e)))
def p0(E:Env N F T L)(d:home∈N)(h:∀t∈us,t∈T)(b:us.length<=1000)(e:ulk F us=none)(a:∀x y,q (dSt home (nmL us) T L x y)=r):zY (sIf (z0 (eY true (zb (zc 0) (zb (zc 0) zk)) (zc 3))) (jY (Yw (zb (mC (.s "NoPlace")) (zb (zc 0) zk)))) z1) (zY (JT (yr (zc 1)) wB wC) (zY (JT (YA (zb (mOp d_ (zh QR (zb (zc 1) zk)) (mC (.i 1))) zk)) wD wF) q)) (dSt home (nmL us) T L none none)=r:=by
 refine iZ E d h λx=>?_;cases us with
 |nil=>exact zd ⟨_,qV (Hq b) rfl,a x none⟩
 |cons t R=>obtain⟨y,c⟩:=(bB (home:=home) (x:=x) E.nd E.ok E.l h R.length 0 none (by rw[S0];omega)).1 e;exact zd ⟨_,qV (Hq b) c,a x y⟩
def lc3(d:(T.map (·.1)).Nodup)(h:∀t∈us,t∈T)(f:us.length<=1000):mLC (yr (zc 1)) [none,some 2] Ji Xp Jj (dSt home (nmL us) T L x y)=.ok (.l (us.map tP)):=by
 have:=WJ (g:=Ji) (e:=Jj) (λt:Tp=>PV.s t.1) tP (λa=>∃z,a=[z,some (.d (j7 T))]) us [none,some (.d (j7 T))] ⟨_,rfl⟩ (λt b a ⟨z,c⟩=>by
  subst c;exact⟨_,rfl,⟨_,rfl⟩,AX d (h t b) rfl rfl⟩) (by omega)
 refine mJ (ye rfl) ?_;rw[a0U];exact this
def RfW(c:Nat)(fs:SO)(w:PV):Prop:=
 (c=5/\∃z,fs=[(("name":Str),PV.s z)]/\w=.t [.s "NoPlace",.s z])\/(c=7/\∃z,fs=[(("name":Str),PV.s z)]/\w=.t [.s "NoTrip",.s z])\/(c=12/\∃a b,fs=[(("first":Str),PV.s a),("second",.s b)]/\w=.t [.s "Unlinked",.s a,.s b])\/(c=6/\∃a b,fs=[(("origin":Str),PV.s a),("goal",.s b)]/\w=.t [.s "NoWay",.s a,.s b])
def Nr(E:Env N F T L):∀{us:List Tp}{p:Str},(∀t∈us,t∈T)->p∈N->ulk F us=none->(∀u R,us=u::R->(zP (F p) (sk u.2.1)).isSome=true)->Cn F p us
 |[],_,_,_,_,_=>trivial
 |[t],p,h,hp,_,d=>by obtain⟨y,a⟩:=a0I.mp (d t [] rfl);exact⟨⟨y,a,E.nn p hp _ _ a⟩,trivial⟩
 |t::u::R,p,h,hp,b,d=>by
  obtain⟨y,a⟩:=a0I.mp (d t (u::R) rfl);unfold ulk at b;cases c:lnk F t u with
  |false=>rw[c,if_neg T7]at b;cases b
  |true=>
   rw[c,if_pos rfl]at b;refine⟨⟨y,a,E.nn p hp _ _ a⟩,Nr E (λx f=>h x (S6 _ f)) (E.ok t (h t S4)).goal b λv S q=>?_⟩;cases q;unfold lnk at c;cases e:zP (F t.2.2.1) (sk u.2.1)with
   |none=>rw[e]at c;cases c
   |some y=>rfl
def both(E:Env N F T L)(home:Str)(row:Sn)(f:row.length<=1000):(∃c fs w,RfW c fs w/\jc [tbV N W F T,.s home,rwP row]=.exc c fs/\y9 [.s home,rwP row,.d (j7 T),.dt L]=.ok w)\/∃l:List Rw,jc [tbV N W F T,.s home,rwP row]=.ok (rsP l)/\y9 [.s home,rwP row,.d (j7 T),.dt L]=.ok (.t [.s "told",rsP l]):=by
 by_cases e:home∈N
 .rcases Nj (T:=T) (row:=row)with⟨us,d,rfl⟩|⟨us,z,B,d,hz,rfl⟩
  .rw[v4]at f;cases g:ulk F us with
   |some j=>exact .inl ⟨12,_,_,.inr (.inr (.inl ⟨rfl,j.1.1,j.2.1,rfl,rfl⟩)),iY (AU (Fm e (sW E.nd E.ok d (a:=j.1) (b:=j.2) g))),Hr E e d f (a:=j.1) (b:=j.2) g⟩
   |none=>
    have H:=Nn (W:=W) e (dF (W:=W) E.nd E.ok d g);cases us with
    |nil=>refine .inr ⟨[],Fo (Fn H),zM (p0 E e d f g λx y=>zd ⟨_,(yc (x:=false) (bp rfl)).trans rfl,zd ⟨_,(yc (x:=false) (bp rfl)).trans rfl,rfl⟩⟩)⟩
    |cons u R=>
     obtain⟨A,v,C⟩:∃A v,u::R=A++[v]:=⟨(u::R).dropLast,(u::R).getLast (List.cons_ne_nil _ _),(a2j _).symm⟩;have n:=d u S4;have s:=d v (by rw[C];exact a0c _ (a1U _));have h:=Ho (W:=W) E.nd E.ok d e rfl C H;have Y:zP L [sk home,sk u.2.1]=zP (F home) (sk u.2.1):=E.l _ e _ (E.ok u n).org;have Q:zP L [sk v.2.2.1,sk home]=zP (F v.2.2.1) (sk home):=E.l _ (E.ok v s).goal _ e;have O:vD true (nmL (u::R)) (.l [])=.ok (.b true):=rfl;have I:∀{x y:SR},mOp pIx (mOp pIx (zc 2) (mOp pIx (zc 1) (mC (.i 0)))) (mC (.i 1)) (dSt home (nmL (u::R)) T L x y)=.ok (.s u.2.1):=λ{x y}=>zq (AX E.nd n rfl (pZ rfl)) rfl rfl;have K:∀{x y:SR},mOp pIx (mOp pIx (zc 2) (mOp pIx (zc 1) (mUn oC (mC (.i 1))))) (mC (.i 2)) (dSt home (nmL (u::R)) T L x y)=.ok (.s v.2.2.1):=λ{x y}=>zq (AX E.nd s rfl (AV (A:=A) (by rw[<- C];rfl))) rfl rfl;have D:∀{x y:SR},sIf (UB (z0 (mOp (vD true) (zc 1) (QP zk))) (z0 (eY true (zb (zc 0) (zb (mOp pIx (mOp pIx (zc 2) (mOp pIx (zc 1) (mC (.i 0)))) (mC (.i 1))) zk)) (zc 3)))) (jY (Yw (zb (mC (.s "NoWay")) (zb (zc 0) (zb (mOp pIx (mOp pIx (zc 2) (mOp pIx (zc 1) (mC (.i 0)))) (mC (.i 1))) zk))))) z1 (dSt home (nmL (u::R)) T L x y)=if(!(zP (F home) (sk u.2.1)).isSome)=true then .ok (.rt (.t [.s "NoWay",.s home,.s u.2.1]))else .ok (.nx (dSt home (nmL (u::R)) T L x y)):=λ{x y}=>by refine(yc (wL (x:=true) (z5 (zq rfl rfl O)) (XM (zp rfl (zp I rfl)) rfl))).trans ?_;rw[Y,a12,a1w,wY (Yr (zp rfl (zp rfl (zp I rfl))) (T6 rfl))];rfl
     have M:∀{x y:SR},sIf (UB (z0 (mOp (vD true) (zc 1) (QP zk))) (z0 (eY true (zb (mOp pIx (mOp pIx (zc 2) (mOp pIx (zc 1) (mUn oC (mC (.i 1))))) (mC (.i 2))) (zb (zc 0) zk)) (zc 3)))) (jY (Yw (zb (mC (.s "NoWay")) (zb (mOp pIx (mOp pIx (zc 2) (mOp pIx (zc 1) (mUn oC (mC (.i 1))))) (mC (.i 2))) (zb (zc 0) zk))))) z1 (dSt home (nmL (u::R)) T L x y)=if(!(zP (F v.2.2.1) (sk home)).isSome)=true then .ok (.rt (.t [.s "NoWay",.s v.2.2.1,.s home]))else .ok (.nx (dSt home (nmL (u::R)) T L x y)):=λ{x y}=>by refine(yc (wL (x:=true) (z5 (zq rfl rfl O)) (XM (zp K (zp rfl rfl)) rfl))).trans ?_;rw[Q,a12,a1w,wY (Yr (zp rfl (zp K (zp rfl rfl))) (T6 rfl))];rfl
     cases i:zP (F home) (sk u.2.1)with
     |none=>rw[i]at h;refine .inl ⟨6,_,_,.inr (.inr (.inr ⟨rfl,home,u.2.1,rfl,rfl⟩)),iY h,zM (p0 E e d f g λx y=>j9 (D.trans ?_))⟩;rw[i];rfl
     |some y1=>
      rw[i]at h;cases r:zP (F v.2.2.1) (sk home)with
      |none=>
       rw[r]at h;refine .inl ⟨6,_,_,.inr (.inr (.inr ⟨rfl,v.2.2.1,home,rfl,rfl⟩)),iY h,zM (p0 E e d f g λx y=>zd ⟨dSt home (nmL (u::R)) T L x y,D.trans ?_,j9 (M.trans ?_)⟩)⟩
       .rw[i];rfl
       .rw[r];rfl
      |some P=>
       rw[r]at h;have J:Cn F home (u::R):=Nr E d e g λZ R' q=>by cases q;rw[i];rfl
       have G:zP (F (eP home (u::R))) (sk home)=some P:=by rw[C,Hn];exact r
       have S:=DK (W:=W) E.nd E.ok d e rfl J f G;have X:=AS E.l (λx U=>E.ok x (d x U)) e rfl J f G (m:=u.2.2.2.1-dd F home u.2.1) rfl;refine .inr ⟨_,Pw rfl ?_ h S,zM (p0 E e d f g λx y=>zd ⟨dSt home (nmL (u::R)) T L x y,D.trans ?_,zd ⟨dSt home (nmL (u::R)) T L x y,M.trans ?_,wY (Yr (zp rfl (zp (zx (xs:=[.l ((u::R).map tP),.s home,.dt L]) (zp (lc3 E.nd d f) (zp rfl (zp rfl rfl))) X) rfl)) (T6 rfl))⟩⟩)⟩
       .rw[S9,f9];show _+1<=_;omega
       .rw[i];rfl
       .rw[r];rfl
  .exact .inl ⟨7,_,_,.inr (.inl ⟨rfl,z,rfl,rfl⟩),iY (AU (Fm e (jx (W8 (Zo (bz rfl (AQ E.nd d hz))))))),DN E e d hz⟩
 .exact .inl ⟨5,_,_,.inl ⟨rfl,home,rfl,rfl⟩,iY (AU (DM e)),AY E e⟩
end
section
variable {N:Sn}{W:List Wy}{F:Str->Ht}{T:List Tp}{L:Lst}{home:Str}{row:Sn}{G:AH}{l:List Rw}
abbrev qSt(tab:PV)(home:Str)(row:Sn)(a b c:Option HV):YB:=[some (.v tab),some (.v (.s home)),some (.v (rwP row)),a,b,c]
abbrev rsC(l:List Rw):Cell:=.l ((l.map rP).map .v)
def dI(h:jc [tab,.s home,rwP row]=.ok (rsP l)):z8 [.v tab,.v (.s home),.v (rwP row)] G=.ok (.t [.v (.s "told"),.g G.length]) (G++[rsC l]):=by have e:vz 3 (hF [true,true,true] (hX jc (zb (zc 0) (zb (zc 1) (zb (zc 2) zk))))) (qSt tab home row (some (.v (.l []))) none none) G=.nx (qSt tab home row (some (.g G.length)) none none) (G++[rsC l]):=qU (Se (x:=rsP l) rfl h rfl);refine fY (zS (show vz 3 (hP [] (QP zk)) (qSt tab home row none none none) G=.nx (qSt tab home row (some (.v (.l []))) none none) G from rfl) (zS (ρ':=qSt tab home row (some (.g G.length)) none none) (G':=G++[rsC l]) ?_ rfl));unfold Mr C2;rw[e]
def i4(h:jc [tab,.s home,rwP row]=.exc c fs)(r:RfW c fs w):z8 [.v tab,.v (.s home),.v (rwP row)] G=.ok (.v w) G:=by
 have e:vz 3 (hF [true,true,true] (hX jc (zb (zc 0) (zb (zc 1) (zb (zc 2) zk))))) (qSt tab home row (some (.v (.l []))) none none) G=.exc c fs G:=by unfold vz;show((match jc [tab,.s home,rwP row]with | .ok x=>(match xD x with|some c=>HX.ok (HV.g G.length) (G++[c])|none=>.wall) | .exc c fs=>.exc c fs G | .wall=>.wall).fw _)=_;rw[h];rfl
 refine fY (zS (show vz 3 (hP [] (QP zk)) (qSt tab home row none none none) G=.nx (qSt tab home row (some (.v (.l []))) none none) G from rfl) (GY ?_));unfold Mr C2;rw[e];dsimp only;rcases r with⟨rfl,z,rfl,rfl⟩|⟨rfl,z,rfl,rfl⟩|⟨rfl,a,b,rfl,rfl⟩|⟨rfl,a,b,rfl,rfl⟩
 .rw[if_pos (by decide)];rfl
 .rw[if_pos (by decide)];rfl
 .rw[if_pos (by decide)];rfl
 .rw[if_pos (by decide)];rfl
def Sg:vD n (.t [.s "told",rsP l]) (.t [.s "told",rsP l])=.ok (.b (xor n true)):=by
 have:mw (ej 7) [.s "told",rsP l] [.s "told",rsP l]=some true:=ag λx a=>by
  rcases a0f.mp a with rfl|a
  .rw[xp,T5 rfl]
  .rw[a0j.mp a];show mw (ej 6) (l.map rP) (l.map rP)=_;refine ag λx a=>?_;obtain⟨r,_,rfl⟩:=a0P.mp a;show mw (ej 5) [.s r.1,.i r.2.1,.i r.2.2] [.s r.1,.i r.2.1,.i r.2.2]=_;rw[QV,QV,QV,xp,Es,Es,T5 rfl,T5 rfl,T5 rfl];rfl
 rw[LV,this]
def Sh{n:Bool}{a:Sn}:vD n (.t (a.map .s)) (.t (a.map .s))=.ok (.b (xor n true)):=by rw[LV,aj]
def DO(r:RfW c fs w):yg [w,w]=.ok (.b true):=by
 have e:∀(k:Str)(d:Sn),(k="told")=False->yg [.t ((k::d).map .s),.t ((k::d).map .s)]=.ok (.b true):=λk d f=>by
  refine zM (zd ⟨_,(yc (x:=false) (z5 (zq rfl rfl (Sh (n:=true))))).trans rfl,j9 ((yc (x:=true) ?_).trans rfl)⟩);refine(px (x:=k) (n:=true) (zq (x:=.t ((k::d).map .s)) (y:=.i 0) rfl rfl ?_)).trans ?_
  .show kW (atI (PV.s k::d.map PV.s) 0)=_;rw[CB];rfl
  .rw[a0a (by rw[f];exact id)];rfl
 rcases r with⟨_,z,_,rfl⟩|⟨_,z,_,rfl⟩|⟨_,a,b,_,rfl⟩|⟨_,a,b,_,rfl⟩
 .exact e "NoPlace" [z] (a3B (by decide +kernel))
 .exact e "NoTrip" [z] (a3B (by decide +kernel))
 .exact e "Unlinked" [a,b] (a3B (by decide +kernel))
 .exact e "NoWay" [a,b] (a3B (by decide +kernel))
def sZ:yg [.t [.s "told",rsP l],.t [.s "told",rsP l]]=.ok (.b true):=by
 have loop:∀(a:List Rw)(o:SR),∃b,vO V1 V2 (a.map rP) [some (.t [.s "told",rsP l]),some (.t [.s "told",rsP l]),o]=.ok (.nx [some (.t [.s "told",rsP l]),some (.t [.s "told",rsP l]),b]):=by
  intro a
  induction a with
  |nil=>exact λo=>⟨o,rfl⟩
  |cons r a c=>intro o;obtain⟨b,q⟩:=c (some (rP r));exact⟨b,(wN rfl ((yc (x:=false) rfl).trans rfl)).trans q⟩
 obtain⟨b,q⟩:=loop l none;refine zM (zd ⟨_,(yc (x:=false) (z5 (zq rfl rfl (Sg (n:=true))))).trans rfl,zd ⟨_,(yc (x:=false) ?_).trans rfl,zd ⟨_,(yc (x:=false) rfl).trans rfl,zd ⟨_,qV (ye rfl) q,rfl⟩⟩⟩⟩);refine(px (x:="told") (n:=true) rfl).trans ?_;rw[T5 rfl];rfl
def Px(h:g (xs.map .v) []=.ok (.v w) [])(a:imm w=true):vOf g xs=.ok w:=by unfold vOf;rw[h];dsimp only;rw[show mQ [] 8 (.v w)=some w from if_pos a]
def AZ{G:AH}{n:Nat}:∀{l:List Rw},eS (mQ G (n+1)) ((l.map rP).map .v)=some (l.map rP)
 |[]=>rfl
 |r::l=>by show((mQ G (n+1) (.v (rP r))).bind λy=>(eS (mQ G (n+1)) ((l.map rP).map .v)).map (y::·))=_;rw[AZ];rfl
def Py(h:g (xs.map .v) []=.ok (.t [.v (.s "told"),.g 0]) [rsC l]):vOf g xs=.ok (.t [.s "told",rsP l]):=by
 unfold vOf;rw[h];dsimp only;have:mQ [rsC l] 8 (.t [.v (.s "told"),.g 0])=some (.t [.s "told",rsP l]):=by show(eS (mQ [rsC l] 7) [.v (.s "told"),.g 0]).map PV.t=_;show((some (PV.s "told")).bind λy=>((((eS (mQ [rsC l] 6) ((l.map rP).map .v)).map PV.l).bind λz=>(some []).map (z::·)).map (y::·))).map PV.t=_;rw[AZ];rfl
 rw[this]
def Nt(r:RfW c fs w):imm w=true:=by rcases r with⟨_,z,_,rfl⟩|⟨_,z,_,rfl⟩|⟨_,a,b,_,rfl⟩|⟨_,a,b,_,rfl⟩<;>rfl
def A4(E:Env N F T L)(d:row.length<=1000)(home:Str):∃w,zh (vOf z8) (zb (mC (tbV N W F T)) (zb (mC (.s home)) (zb (mC (rwP row)) zk))) []=.ok w/\vOf z8 [tbV N W F T,.s home,rwP row]=.ok w/\y9 [.s home,rwP row,.d (j7 T),.dt L]=.ok w/\yg [w,w]=.ok (.b true):=by
 rcases both (W:=W) E home row d with⟨c,fs,w,r,a,b⟩|⟨l,a,b⟩
 .have e:=Px (g:=z8) (xs:=[tbV N W F T,.s home,rwP row]) (i4 (G:=[]) a r) (Nt r);exact⟨w,zx rfl e,e,b,DO r⟩
 .have e:=Py (g:=z8) (xs:=[tbV N W F T,.s home,rwP row]) (dI (G:=[]) a);exact⟨_,zx rfl e,e,b,sZ⟩
end
def i5{k:Nat}{g:HMG}{b:HMS}{xs:List HV}(J:Nat->YB->AH->Prop)(n:∀i a G,J i a G->G[k]?=some (.l xs))(o:∀i (h:i<xs.length) a G,J i a G->∃d,g xs[i] a=some d/\∃c l,J (i+1) c l/\b d G=.nx c l):∀(r i:Nat)(a:YB)(G:AH),i+r=xs.length->J i a G->∃f q,J xs.length f q/\WN k g b r i a G=.nx f q
 |0,i,a,G,h,j=>by
  have e:i=xs.length:=by omega
  subst e;refine⟨a,G,j,?_⟩;unfold WN;rw[n _ a G j];dsimp only;rw[List.getElem?_eq_none (S7 _)]
 |r+1,i,a,G,h,j=>by
  have p:i<xs.length:=by omega
  obtain⟨d,u,c,l,s,x⟩:=o i p a G j;obtain⟨m,w,v,y⟩:=i5 J n o r (i+1) c l (by omega) s;refine⟨m,w,v,?_⟩;unfold WN;rw[n _ a G j];dsimp only;rw[T4 p];dsimp only;rw[u];dsimp only;rw[x];exact y
def DP(h:m ρ G=.ok (.g k) G1)(c:G1[k]?=some (.l a))(d:WN k g b a.length 0 ρ G1=o):CS m g b ρ G=o:=by unfold CS;rw[h];show(match G1[k]? with|some (.l a)=>WN k g b a.length 0 ρ G1|_=>.wall)=_;rw[c];exact d
section
variable {T:List Tp}{t:Tp}
def p4:∀{T:List Tp},WR (x3 1 yC) (T.map tP)=some (T.map DC)
 |[]=>rfl
 |t::T=>by
  have e:x3 1 yC [tP t]=.ok (.t [.i t.2.2.2.1,.i t.2.2.2.2.1,.s t.1]):=by show(match yC [some (tP t)]with | .ok y=>Out.ok y|_=>.wall)=_;rw[show yC [some (tP t)]=.ok (.t [.i t.2.2.2.1,.i t.2.2.2.2.1,.s t.1])from Yr rfl (T6 rfl)]
  show(match x3 1 yC [tP t]with
   |.ok (.t [.i a,.i b,.s c])=>(WR (x3 1 yC) (T.map tP)).map ((a,b,c)::·)
   |_=>none)=_
  rw[e];show(WR (x3 1 yC) (T.map tP)).map _=_;rw[p4];rfl
def DQ(b:(T.map (·.1)).Nodup)(a:T.length<64):cb (x3 1 yC) (T.map tP)=.ok (.l ((XN T).map tP)):=by refine Eq.trans ?_ (pS b a);unfold cb;rw[p4,fV]
end
def Fp{G:AH}{k:Nat}{b:List Tp}(h:G[k]?=some (.l ((b.map tP).map .v))):vG G 8 (.g k)=some (.l (b.map tP)):=by
 unfold vG;rw[h];show(eS (vG G 7) ((b.map tP).map .v)).map PV.l=_;have:∀a:List PV,eS (vG G 7) (a.map .v)=some a:=λa=>by
  induction a with
  |nil=>rfl
  |cons x a c=>show((vG G 7 (.v x)).bind λy=>(eS (vG G 7) (a.map .v)).map (y::·))=_;rw[c];rfl
 rw[this];rfl
def Fq:∀{l:Sn},Bx (l.map .s)=true
 |[]=>rfl
 |z::l=>by show(imm (.s z)&&Bx (l.map .s))=true;rw[Fq];rfl
section
variable {N:Sn}{F:Str->Ht}{T:List Tp}{t:Tp}{L:Lst}
abbrev oSt(T:List Tp)(L:Lst)(p:Int)(k:Nat)(x:Option HV):YB:=[some (.v (.l (T.map tP))),some (.v (.dt L)),some (.v (.i p)),some (.g k),x]
abbrev tlC(rs:List Tp):Cell:=.l ((rs.map tP).map .v)
def DR(i:LOk N L F)(f:∀t∈T,TOk N F t){c:List Tp}(l:∀t∈c,t∈T)(h:t∈T){p:Int}{a:SR}:∃b,UB (z0 (mOp pLt (mOp zX (zc 2) (mC (.i 3))) (mC (.i 2)))) (mOr (z0 (mOp (vD false) (zc 3) (QP zk))) (z0 (zh yM (zb (mOp pIx (zc 3) (mUn oC (mC (.i 1)))) (zb (zc 4) (zb (zc 1) zk)))))) [a,some (.dt L),some (.i p),some (.l (c.map tP)),some (tP t)]=.ok b:=by
 have d:z0 (mOp pLt (mOp zX (zc 2) (mC (.i 3))) (mC (.i 2))) [a,some (.dt L),some (.i p),some (.l (c.map tP)),some (tP t)]=_:=E_ (wX rfl (by decide));cases hp:decide (p % 3<2)with
 |false=>rw[hp]at d;exact⟨false,bp d⟩
 |true=>
  rw[hp]at d;cases c with
  |nil=>exact⟨_,wL d (Fd rfl)⟩
  |cons r c=>
   obtain⟨A,v,g⟩:∃A v,r::c=A++[v]:=⟨(r::c).dropLast,(r::c).getLast (List.cons_ne_nil _ _),(a2j _).symm⟩;have e:=l v (by rw[g];exact a0c _ (a1U _));have j:mOp pIx (zc 3) (mUn oC (mC (.i 1))) [a,some (.dt L),some (.i p),some (.l ((r::c).map tP)),some (tP t)]=.ok (tP v):=by refine zq (x:=.l ((r::c).map tP)) (y:=.i (-1)) rfl rfl ?_;rw[g];show kW (atI ((A++[v]).map tP) (-1))=_;rw[oP,a0m];show kW ((A.map tP++[tP v]).getLast?)=_;rw[a3f];rfl
   exact⟨_,wL d (nt (x:=false) (z5 (zq (x:=.l ((r::c).map tP)) (y:=.l []) rfl rfl rfl)) (z5 (zx (zp j (zp rfl (zp rfl rfl))) (Fj i (f v e).goal (f t h).org))))⟩
def Nu(Z:LOk N L F)(P:∀t∈T,TOk N F t)(Y:(T.map (·.1)).Nodup)(hl:T.length<=40)(H:G[0]?=some (.y true)):∃(r:Sn)(n:AH),r.length<=40/\(∀j,0<j->j<G.length->n[j]?=G[j]?)/\Kb [.v (.l (T.map tP)),.v (.dt L),.v (.i p)] G=.ok (.v (rwP r)) n:=by
 have W:0<G.length:=(T9.mp H).1;obtain⟨f,l⟩:∃f,f=G++[tlC []]:=⟨_,rfl⟩;have l1:f.length=G.length+1:=by rw[l,S9];rfl
 have K:vz 3 (hF [] (QP zk)) [some (.v (.l (T.map tP))),some (.v (.dt L)),some (.v (.i p)),none,none] G=.nx (oSt T L p G.length none) f:=by rw[l];rfl
 obtain⟨d,o⟩:∃d,d=f.set 0 (.y false)++[tlC (XN T)]:=⟨_,rfl⟩;have Q:(f.set 0 (.y false)).length=f.length:=a0v ..;have C:f[0]?=some (.y true):=by rw[l,a0r W];exact H
 have s2:pd (x3 1 yC) (ZE (QW 0) CL) (oSt T L p G.length none) f=.ok (.g f.length) d:=by
  unfold pd;show(match f[(0:Nat)]? with
   |some (.y true)=>(match cb (x3 1 yC) (T.map tP)with|Out.ok (PV.l zs)=>HX.ok (HV.g f.length) (f.set 0 (.y false)++[Cell.l (zs.map .v)])|_=>.wall)
   |_=>.wall)=_
  rw[C];dsimp only;rw[DQ Y (by omega),o]
 have J:d[f.length]?=some (tlC (XN T)):=by rw[o,a00 (by omega),Q,a2L];rfl
 have I:d[G.length]?=some (tlC []):=by rw[o,a0r (by omega),a0g (by omega),l,a00 (S7 _),a2L];rfl
 have u:G.length<d.length:=(T9.mp I).1;obtain⟨ρ',n,⟨R,p',c,rfl,rfl,y,v⟩,eL⟩:=i5 (k:=f.length) (g:=Xv) (b:=Xw) (xs:=((XN T).map tP).map .v) (λi q n=>∃(x:Option HV)(p:Int)(c:List Tp),q=oSt T L p G.length x/\n=d.set G.length (tlC c)/\(∀t∈c,t∈T)/\c.length<=i) (λi q n ⟨x,p,c,_,e,_⟩=>by rw[e,a0g (by omega)];exact J) (λi E q n ⟨x,p,c,C,U,y,v⟩=>by
  subst C U;rw[v4,v4]at E;rw[a0K,a0K];have S:(XN T).length=T.length:=nF;have B:(XN T)[i]∈T:=DG.mem_iff.mp (a0N E);have w:(d.set G.length (tlC c))[G.length]?=some (tlC c):=a0l u;obtain⟨b,eb⟩:=DR (a:=none) (p:=p) Z P y B;have s:hPT [false,true,true,true,true] (UB (z0 (mOp pLt (mOp zX (zc 2) (mC (.i 3))) (mC (.i 2)))) (mOr (z0 (mOp (vD false) (zc 3) (QP zk))) (z0 (zh yM (zb (mOp pIx (zc 3) (mUn oC (mC (.i 1)))) (zb (zc 4) (zb (zc 1) zk))))))) (oSt T L p G.length (some (.v (tP (XN T)[i])))) (d.set G.length (tlC c))=.ok b (d.set G.length (tlC c)):=fO rfl (Z7 (fQ rfl (fQ rfl (fQ (Fp w) (fQ rfl N7))))) eb;have D:∀n,vz 2 (hP [false,false,true] (mOp Yv (zc 2) (mC (.i 3)))) (oSt T L p G.length (some (.v (tP (XN T)[i])))) n = .nx (oSt T L (p / 3) G.length (some (.v (tP (XN T)[i])))) n:=λn=>qU (fP rfl (nr rfl (by decide) (by decide)));cases b with
  |true=>
   have O:O3 (QW 3) (QW 4) (oSt T L p G.length (some (.v (tP (XN T)[i])))) (d.set G.length (tlC c))=.nx (oSt T L p G.length (some (.v (tP (XN T)[i])))) (d.set G.length (tlC (c++[(XN T)[i]]))):=by
    show(match(d.set G.length (tlC c))[G.length]? with
     |some (.l _)=>(match(d.set G.length (tlC c))[G.length]? with
      |some (.l A)=>if A.length<sizeLine then HFw.nx (oSt T L p G.length (some (.v (tP (XN T)[i])))) ((d.set G.length (tlC c)).set G.length (.l (A++[HV.v (tP (XN T)[i])])))else .wall
      |_=>.wall)
     |_=>.wall)=_
    rw[w];dsimp only;rw[if_pos (by rw[v4,v4];exact a1g (m:=1000) (by omega) (by decide)),List.set_set,show(c.map tP).map HV.v++[HV.v (tP (XN T)[i])]=((c++[(XN T)[i]]).map tP).map .v by rw[a0m,a0m];rfl]
   refine⟨_,rfl,_,_,⟨_,p / 3,c++[(XN T)[i]],rfl,rfl,λx X=>(a0B.mp X).elim (y x) λh=>by rw[a0j.mp h];exact B,by rw[S9];show _+1<=_;omega⟩,zS ((Dq s).trans O) (D _)⟩
  |false=>exact⟨_,rfl,_,_,⟨_,p / 3,c,rfl,rfl,y,by omega⟩,zS (nv s) (D _)⟩) (XN T).length 0 (oSt T L p G.length none) d (by rw[v4,v4];omega) ⟨none,p,[],rfl,by
   obtain⟨q1,q2⟩:=T9.mp I;rw[<- q2,a28],nofun,S7 _⟩
 have S:(XN T).length=T.length:=nF;rw[v4,v4]at v;have w:(d.set G.length (tlC c))[G.length]?=some (tlC c):=a0l u;have lc:=WJ (g:=Xx) (e:=Xy) tP (λt=>.s t.1) (λq=>∃z,q=[z]) c [none] ⟨_,rfl⟩ (λt B q ⟨z,ez⟩=>by
  subst ez;exact⟨_,rfl,⟨_,rfl⟩,rfl⟩) (by omega)
 refine⟨c.map (·.1),d.set G.length (tlC c),by rw[v4];omega,λj j0 M=>?_,fY (zS K (zS (DP s2 J (by rw[v4,v4];exact eL)) (Ak ?_)))⟩
 .rw[a0g (by omega),o,a0r (by omega),a0g (by omega),l,a0r M]
 .unfold hFV;rw[show Ve (d.set G.length (tlC c)) [false,false,false,true] (oSt T L p' G.length R)=some [none,none,none,some (.l (c.map tP)),none]from Z7 (Z7 (Z7 (fQ (Fp w) (Rn N7))))];dsimp only;rw[mJ (x:=rwP (c.map (·.1))) (ye rfl) (by rw[rwP,a0U];exact lc)];dsimp only;rw[if_pos (show NT (rwP (c.map (·.1)))=true from Fq)]
end
def HY(h:a.length+b.length<=1000):zJ (rwP a) (rwP b)=.ok (rwP (a++b)):=by
 show(if _ then _ else _)=_;rw[if_pos ?_]
 .show Out.ok (PV.l (a.map PV.s++b.map PV.s))=_;rw[<- a0m]
 .rw[v4,v4];exact a0o h (by decide)
def slT{row:Sn}{k:Nat}{ρ:Sto}{a b:ME}(d:a ρ=.ok (rwP row))(c:b ρ=.ok (.i (k:Int))):mSl pSl a bW (kK b) ρ=.ok (rwP (row.take k)):=by refine(Fh (l:=none) d rfl (AF c)).trans ?_;show Out.ok (PV.l (gp (row.map PV.s) none (some (k:Int))))=_;rw[pK (by omega),a1Y,<- a13]
def slF{row:Sn}{k:Nat}(e:k<=row.length){ρ:Sto}{a b:ME}(d:a ρ=.ok (rwP row))(c:b ρ=.ok (.i (k:Int))):mSl pSl a (kK b) bW ρ=.ok (rwP (row.drop k)):=by refine(Fh (h:=none) d (AF c) rfl).trans ?_;show Out.ok (PV.l (gp (row.map PV.s) (some (k:Int)) none))=_;rw[fT (by omega) (by rw[v4];omega),a1Y,<- a3g]
def ixR{row:Sn}{k:Nat}(e:k<row.length){ρ:Sto}{a b:ME}(d:a ρ=.ok (rwP row))(c:b ρ=.ok (.i (k:Int))):mOp pIx a b ρ=.ok (.s row[k]):=by refine zq d c ?_;rw[ny (by omega) (by rw[v4];omega),a0K];rfl
def A5(H:row.length<=40)(F:Q.length<=40)(G:0<=c):∃d:List Str,d.length<=100/\ja [rwP row,rwP Q,.i w,.i c]=.ok (rwP d):=by
 obtain⟨k,r,E⟩:∃k:Nat,k<=row.length/\c % ((row.length:Int)+1)=(k:Int):=by have:=a0s c (show(row.length:Int)+1≠0 by omega);have:=a0n c (show 0<(row.length:Int)+1 by omega);exact⟨(c % ((row.length:Int)+1)).toNat,by omega,by omega⟩
 obtain⟨z,_,D⟩:=bx F;have q:∀{p:Sto},zc 0 p=.ok (rwP row)->zh QR (zb (zc 0) zk) p=.ok (.i (row.length:Int)):=λh=>zx (zp h rfl) Jp;have i:yX 4 (mOp zX (zc 3) (mOp zJ (zh QR (zb (zc 0) zk)) (mC (.i 1)))) [some (rwP row),some (rwP Q),some (.i w),some (.i c),none]=.ok (.nx [some (rwP row),some (rwP Q),some (.i w),some (.i c),some (.i (k:Int))]):=by rw[<- E];exact yt (zq rfl (zq (q rfl) rfl rfl) (kL (by omega)))
 have lt:(row.take k).length=k:=by rw[a0J];omega
 have j:(row.drop k).length=row.length-k:=a09 ..;have e:=λA B=>yc (a:=A) (b:=B) (XI (ρ:=[some (rwP row),some (rwP Q),some (.i w),some (.i c),some (.i (k:Int))]) (a:=zc 2) (x:=w) (n:=0) rfl);by_cases s:w=0
 .rw[T5 s]at e;exact⟨row.take k++[z]++row.drop k,by rw[S9,S9,lt,j];show k+1+_<=_;omega,zM (zd ⟨_,i,j9 ((e _ _).trans (wY (zq (zq (slT rfl rfl) (sR (xs:=[.s z]) (zp (zx rfl D) rfl) (T6 rfl)) (HY (a:=row.take k) (b:=[z]) (by rw[lt];show k+1<=_;omega))) (slF r rfl rfl) (HY (by rw[S9,lt,j];show k+1+_<=_;omega)))))⟩)⟩
 .rw[a0a s]at e;have y:z0 (mOp (vD false) (zc 2) (mC (.i 1))) [some (rwP row),some (rwP Q),some (.i w),some (.i c),some (.i (k:Int))]=.ok (decide (w=1)):=XI rfl;have C:z0 (mOp pLt (mOp zJ (zc 4) (mC (.i 1))) (zh QR (zb (zc 0) zk))) [some (rwP row),some (rwP Q),some (.i w),some (.i c),some (.i (k:Int))]=.ok (decide ((k:Int)+1<(row.length:Int))):=z5 (zq (x:=.i ((k:Int)+1)) rfl (q rfl) rfl);have g:=λA B=>yc (a:=A) (b:=B) (wL y C);have v:z0 (mOp (vD false) (zc 2) (mC (.i 2))) [some (rwP row),some (rwP Q),some (.i w),some (.i c),some (.i (k:Int))]=.ok (decide (w=2)):=XI rfl;have u:z0 (mOp pLt (zc 4) (zh QR (zb (zc 0) zk))) [some (rwP row),some (rwP Q),some (.i w),some (.i c),some (.i (k:Int))]=.ok (decide ((k:Int)<(row.length:Int))):=z5 (zq (x:=.i (k:Int)) rfl (q rfl) rfl);have o:=λA B=>yc (a:=A) (b:=B) (wL v u);by_cases l:(decide (w=1)&&decide ((k:Int)+1<(row.length:Int)))=true
  .rw[l]at g;rw[a1a,a1Z,a1Z]at l;have f:(row.drop (k+2)).length=row.length-(k+2):=a09 ..;exact⟨row.take k++[row[k+1],row[k]]++row.drop (k+2),by rw[S9,S9,lt,f];show k+2+_<=_;omega,zM (zd ⟨_,i,zd ⟨_,e _ _,j9 ((g _ _).trans (wY (zq (zq (slT rfl rfl) (sR (xs:=[.s row[k+1],.s row[k]]) (zp (ixR (k:=k+1) (by omega) rfl rfl) (zp (ixR (k:=k) (by omega) rfl rfl) rfl)) (T6 rfl)) (HY (a:=row.take k) (b:=[row[k+1],row[k]]) (by rw[lt];show k+2<=_;omega))) (slF (k:=k+2) (by omega) rfl rfl) (HY (by rw[S9,lt,f];show k+2+_<=_;omega)))))⟩⟩)⟩
  .rw[Bool.not_eq_true]at l;rw[l]at g;by_cases m:(decide (w=2)&&decide ((k:Int)<(row.length:Int)))=true
   .rw[m]at o;rw[a1a,a1Z,a1Z]at m;exact⟨row.take k++[row[k]]++row.drop k,by rw[S9,S9,lt,j];show k+1+_<=_;omega,zM (zd ⟨_,i,zd ⟨_,e _ _,zd ⟨_,g _ _,j9 ((o _ _).trans (wY (zq (zq (slT rfl rfl) (sR (xs:=[.s row[k]]) (zp (ixR (k:=k) (by omega) rfl rfl) rfl) (T6 rfl)) (HY (a:=row.take k) (b:=[row[k]]) (by rw[lt];show k+1<=_;omega))) (slF r rfl rfl) (HY (by rw[S9,lt,j];show k+1+_<=_;omega)))))⟩⟩⟩)⟩
   .rw[Bool.not_eq_true]at m;rw[m]at o;exact⟨row,by omega,zM (zd ⟨_,i,zd ⟨_,e _ _,zd ⟨_,g _ _,zd ⟨_,o _ _,rfl⟩⟩⟩⟩)⟩
def Ro{G:AH}:∀{a:YB},UI G [] a=some (a.map λ_=>none)
 |[]=>rfl
 |_::a=>by show(UI G [] a).map (none::·)=_;rw[Ro];rfl
def Pz{G:AH}:∀{a:YB},Ve G [] a=some (a.map λ_=>none)
 |[]=>rfl
 |_::_=>Rn Pz
def Hs(h:m ρ G=.ok b G'):NU m ρ G=.ok (!b) G':=by unfold NU;rw[h];rfl
def Rp:vD true (rwP row) (rwP row)=.ok (.b false):=by rw[OV,aj];rfl
def Hu(r:RfW c fs w):∃(k:Str)(d:SH),w=.t (.s k::d)/\decide (k="told")=false:=by
 rcases r with⟨_,z,_,rfl⟩|⟨_,z,_,rfl⟩|⟨_,a,b,_,rfl⟩|⟨_,a,b,_,rfl⟩
 .exact⟨"NoPlace",_,rfl,by decide +kernel⟩
 .exact⟨"NoTrip",_,rfl,by decide +kernel⟩
 .exact⟨"Unlinked",_,rfl,by decide +kernel⟩
 .exact⟨"NoWay",_,rfl,by decide +kernel⟩
def Fs(h:G[k]?=some (rsC l)):vG G 8 (.t [.v (.s "told"),.g k])=some (.t [.s "told",rsP l]):=by
 have e:∀a:List PV,eS (vG G 6) (a.map .v)=some a:=λa=>by
  induction a with
  |nil=>rfl
  |cons x a c=>show((vG G 6 (.v x)).bind λy=>(eS (vG G 6) (a.map .v)).map (y::·))=_;rw[c];rfl
 have b:vG G 7 (.g k)=some (rsP l):=by unfold vG;rw[h];show(eS (vG G 6) ((l.map rP).map .v)).map PV.l=_;rw[e];rfl
 show(eS (vG G 7) [.v (.s "told"),.g k]).map PV.t=_;show((some (PV.s "told")).bind λy=>(((vG G 7 (.g k)).bind λz=>(some []).map (z::·)).map (y::·))).map PV.t=_;rw[b];rfl
section
variable {ns:SS}{N:Sn}{W:List Wy}{F:Str->Ht}{T:List Tp}{L:Lst}{n:Int}{Q:Sn}{home:Str}{row:Sn}{G:AH}
abbrev wS(ns:SS)(N:Sn)(W:List Wy)(L:Lst)(n:Int)(Q:Sn)(T:List Tp)(x8 x9 x10 x11 x12 x13 x14 x15 x16:Option HV):YB:=[some (.v (.sc ns)),some (.v (rwP N)),some (.v (.l (W.map wP))),some (.v (.dt L)),some (.v (.i n)),some (.v (rwP Q)),some (.v (.l (T.map tP))),some (.g 1),x8,x9,x10,x11,x12,x13,x14,x15,x16]
abbrev Rq:HMS:=vz 13 (hWm [false,false,false,true,false,false,false,false,false,true,true,false,false,false,false,false,false] [false,false,false,true,false,false,false,true,false,true,true] (zh y9 (zb (zc 9) (zb (zc 10) (zb (zc 7) (zb (zc 3) zk))))))
abbrev Rr:HMS:=vz 14 (hP [false,false,false,false,false,false,false,false,false,false,true] (zh kM (zb (zc 10) zk)))
abbrev PB:HMS:=vz 15 (h_ z8 (ZE (QW 12) (ZE (QW 9) (ZE (QW 14) CL))))
abbrev PC:HMS:=hIf (hPT [false,false,false,false,false,false,false,false,false,false,true,false,false,true,true,true] (mOr (Ci (z0 (zh yg (zb (zc 15) (zb (zc 13) zk))))) (z0 (mOp (vD true) (zc 14) (zc 10))))) (mO (hP [] (mC (.b false)))) Vf
abbrev PD:HMS:=hIf (hPT [false,false,false,false,false,false,false,false,false,false,false,false,false,false,false,true] (z0 (mOp (vD false) (mOp pIx (zc 15) (mC (.i 0))) (mC (.s "told"))))) (O4 (hIx (QW 15) (hP [] (mC (.i 1))))) Vf
abbrev Nv:HMS:=mO (hP [false,true,false,false,false,false,false,false,false,true,false,false,true,true,true] (gY (zh yg (zb (zh (vOf z8) (zb (zc 12) (zb (zc 9) (zb (zc 14) zk)))) (zb (zc 13) zk))) (mOp (vD false) (zh jc (zb (zc 12) (zb (mOp pIx (zc 1) (mC (.i 0))) (zb (QP zk) zk)))) (QP zk))))
def A6(E:Env N F T L)(hl:row.length<=1000)(hG:G[1]?=some (.d (vK (j7 T)))){x8 x9 x11 x13 x15:Option HV}:∀{M:Sn}{x16:Option HV},∃x16',b8 Zk Zl ((M.map .s).map .v) (wS ns N W L n Q T x8 x9 (some (.v (rwP row))) x11 (some (.v (tbV N W F T))) x13 (some (.v (rwP row))) x15 x16) G=.nx (wS ns N W L n Q T x8 x9 (some (.v (rwP row))) x11 (some (.v (tbV N W F T))) x13 (some (.v (rwP row))) x15 x16') G
 |[],x16=>⟨x16,rfl⟩
 |z::M,x16=>by
  obtain⟨w,_,h1,h2,h3⟩:=A4 (W:=W) (row:=row) E hl z;obtain⟨x',e⟩:=A6 E hl hG (M:=M) (x16:=some (.v (.s z)));refine⟨x',?_⟩;have tst:hPT [false,false,false,true,false,false,false,true,false,false,true,false,true,false,true,false,true] (z0 (zh yg (zb (zh (vOf z8) (zb (zc 12) (zb (zc 16) (zb (zc 14) zk)))) (zb (zh y9 (zb (zc 16) (zb (zc 10) (zb (zc 7) (zb (zc 3) zk))))) zk)))) (wS ns N W L n Q T x8 x9 (some (.v (rwP row))) x11 (some (.v (tbV N W F T))) x13 (some (.v (rwP row))) x15 (some (.v (.s z)))) G=.ok true G:=
   fO rfl (Z7 (Z7 (Z7 (fQ rfl (Z7 (Z7 (Z7 (fQ (fX hG) (Z7 (Z7 (fQ rfl (Z7 (fQ rfl (Z7 (fQ rfl (Z7 (fQ rfl N7))))))))))))))))) (z5 (zx (xs:=[w,w]) (zp (zx rfl h1) (zp (zx rfl h2) rfl)) h3))
  have st:Zl (wS ns N W L n Q T x8 x9 (some (.v (rwP row))) x11 (some (.v (tbV N W F T))) x13 (some (.v (rwP row))) x15 (some (.v (.s z)))) G=.nx (wS ns N W L n Q T x8 x9 (some (.v (rwP row))) x11 (some (.v (tbV N W F T))) x13 (some (.v (rwP row))) x15 (some (.v (.s z)))) G:=(nv (Hs (b:=true) tst)).trans rfl;show(match Zk (.v (.s z)) (wS ns N W L n Q T x8 x9 (some (.v (rwP row))) x11 (some (.v (tbV N W F T))) x13 (some (.v (rwP row))) x15 x16)with|none=>HFw.wall|some ρ1=>match Zl ρ1 G with
   |.nx ρ2 G2=>b8 Zk Zl ((M.map PV.s).map .v) ρ2 G2
   |.ct ρ2 G2=>b8 Zk Zl ((M.map PV.s).map .v) ρ2 G2
   |.bk ρ2 G2=>.nx ρ2 G2
   |.rt v G2=>.rt v G2
   |.exc c fs G2=>.exc c fs G2
   |.wall=>.wall)=_
  rw[show Zk (.v (.s z)) (wS ns N W L n Q T x8 x9 (some (.v (rwP row))) x11 (some (.v (tbV N W F T))) x13 (some (.v (rwP row))) x15 x16)=some (wS ns N W L n Q T x8 x9 (some (.v (rwP row))) x11 (some (.v (tbV N W F T))) x13 (some (.v (rwP row))) x15 (some (.v (.s z))))from rfl];dsimp only;rw[st];exact e
def Nw(E:Env N F T L)(hN:0<N.length)(hl:row.length<=1000)(hG:G[1]?=some (.d (vK (j7 T)))):∃G',vH Rq (vH Rr (vH PB (vH PC (vH PD (vH (b9 [false,true] (yr (zc 1)) Zk Zl) Nv))))) (wS ns N W L n Q T x8 (some (.v (.s home))) (some (.v (rwP row))) x11 (some (.v (tbV N W F T))) none none none none) G=.rt (.v (.b true)) G':=by
 obtain⟨w,_,ha,hd,hr⟩:=A4 (W:=W) (row:=row) E hl home;have sx:UI G [false,false,false,true,false,false,false,true,false,true,true] (wS ns N W L n Q T x8 (some (.v (.s home))) (some (.v (rwP row))) x11 (some (.v (tbV N W F T))) none none none none)=some ([none,none,none,some (.dt L),none,none,none,some (.d (j7 T)),none,some (.s home),some (rwP row),none,none,none,none,none,none]):=Hk (Hk (Hk (N9 rfl (Hk (Hk (Hk (N9 (by
  show(G[1]?).bind Gz=_;rw[hG];show(o6 (vK (j7 T))).map PV.d=_;rw[Fg];rfl) (Hk (N9 rfl (N9 rfl Ro))))))))))
 have s1:Rq (wS ns N W L n Q T x8 (some (.v (.s home))) (some (.v (rwP row))) x11 (some (.v (tbV N W F T))) none none none none) G=.nx (wS ns N W L n Q T x8 (some (.v (.s home))) (some (.v (rwP row))) x11 (some (.v (tbV N W F T))) (some (.v w)) none none none) G:=by refine qU ?_;unfold hWm;rw[if_pos (show vok [false,false,false,true,false,false,false,false,false,true,true,false,false,false,false,false,false] (wS ns N W L n Q T x8 (some (.v (.s home))) (some (.v (rwP row))) x11 (some (.v (tbV N W F T))) none none none none)=true from rfl)];unfold hW;rw[sx];dsimp only;rw[zx (xs:=[.s home,rwP row,.d (j7 T),.dt L]) rfl hd]
 have s2:Rr (wS ns N W L n Q T x8 (some (.v (.s home))) (some (.v (rwP row))) x11 (some (.v (tbV N W F T))) (some (.v w)) none none none) G=.nx (wS ns N W L n Q T x8 (some (.v (.s home))) (some (.v (rwP row))) x11 (some (.v (tbV N W F T))) (some (.v w)) (some (.v (rwP row))) none none) G:=qU (fP rfl (zx (xs:=[rwP row]) rfl rfl));have fin:∀(G1:AH)(x15:Option HV),G1[1]?=some (.d (vK (j7 T)))->vH (b9 [false,true] (yr (zc 1)) Zk Zl) Nv (wS ns N W L n Q T x8 (some (.v (.s home))) (some (.v (rwP row))) x11 (some (.v (tbV N W F T))) (some (.v w)) (some (.v (rwP row))) x15 none) G1=.rt (.v (.b true)) G1:=λG1 x15 h1=>by obtain⟨x16,e⟩:=A6 (ns:=ns) (W:=W) (n:=n) (Q:=Q) (row:=row) (G:=G1) (x8:=x8) (x9:=some (.v (.s home))) (x11:=x11) (x13:=some (.v w)) (x15:=x15) E hl h1 (M:=N) (x16:=none);refine zS (pW rfl (ye rfl) e) (Ak (fP rfl (nu (x:=true) (y:=true) (zx (xs:=[w,w]) (zp (zx (xs:=[tbV N W F T,.s home,rwP row]) rfl ha) (zp rfl rfl)) hr) (zq (x:=.l []) (y:=.l []) (zx (xs:=[tbV N W F T,.s (N[0]'hN),.l []]) (zp rfl (zp (ixR (row:=N) (k:=0) hN rfl rfl) (zp rfl rfl))) ?_) rfl rfl))));exact Fo (Fn (Nn (a0N hN) (dF (us:=[]) E.nd E.ok nofun rfl)))
 rcases both (W:=W) E home row hl with⟨c,fs,w',r,h1,h2⟩|⟨l,h1,h2⟩
 .have:w'=w:=by have q:=h2.symm.trans hd;cases q;rfl
  subst this;have s3:PB (wS ns N W L n Q T x8 (some (.v (.s home))) (some (.v (rwP row))) x11 (some (.v (tbV N W F T))) (some (.v w')) (some (.v (rwP row))) none none) G=.nx (wS ns N W L n Q T x8 (some (.v (.s home))) (some (.v (rwP row))) x11 (some (.v (tbV N W F T))) (some (.v w')) (some (.v (rwP row))) (some (.v w')) none) G:=qU (fZ (xs:=[.v (tbV N W F T),.v (.s home),.v (rwP row)]) rfl (i4 h1 r));have s4:PC (wS ns N W L n Q T x8 (some (.v (.s home))) (some (.v (rwP row))) x11 (some (.v (tbV N W F T))) (some (.v w')) (some (.v (rwP row))) (some (.v w')) none) G=.nx (wS ns N W L n Q T x8 (some (.v (.s home))) (some (.v (rwP row))) x11 (some (.v (tbV N W F T))) (some (.v w')) (some (.v (rwP row))) (some (.v w')) none) G:=(nv (dB rfl (nt (x:=false) (y:=false) (dA (x:=true) (z5 (zx (xs:=[w',w']) rfl hr))) (z5 (zq rfl rfl Rp))))).trans rfl;obtain⟨k,zs,ew,hk⟩:=Hu r;have s5:PD (wS ns N W L n Q T x8 (some (.v (.s home))) (some (.v (rwP row))) x11 (some (.v (tbV N W F T))) (some (.v w')) (some (.v (rwP row))) (some (.v w')) none) G=.nx (wS ns N W L n Q T x8 (some (.v (.s home))) (some (.v (rwP row))) x11 (some (.v (tbV N W F T))) (some (.v w')) (some (.v (rwP row))) (some (.v w')) none) G:=by
   refine(nv (dB rfl ?_)).trans rfl;refine(px (x:=k) (n:=false) (zq (x:=w') (y:=.i 0) rfl rfl ?_)).trans ?_
   .rw[ew];show kW (atI (PV.s k::zs) 0)=_;rw[CB];rfl
   .rw[hk];rfl
  exact⟨G,zS s1 (zS s2 (zS s3 (zS s4 (zS s5 (fin G _ hG)))))⟩
 .have:PV.t [.s "told",rsP l]=w:=by have q:=h2.symm.trans hd;cases q;rfl
  subst this;have lG:1<G.length:=(T9.mp hG).1;have s3:PB (wS ns N W L n Q T x8 (some (.v (.s home))) (some (.v (rwP row))) x11 (some (.v (tbV N W F T))) (some (.v (.t [.s "told",rsP l]))) (some (.v (rwP row))) none none) G=.nx (wS ns N W L n Q T x8 (some (.v (.s home))) (some (.v (rwP row))) x11 (some (.v (tbV N W F T))) (some (.v (.t [.s "told",rsP l]))) (some (.v (rwP row))) (some (.t [.v (.s "told"),.g G.length])) none) (G++[rsC l]):=qU (fZ (xs:=[.v (tbV N W F T),.v (.s home),.v (rwP row)]) rfl (dI h1));have gk:(G++[rsC l])[G.length]?=some (rsC l):=by rw[a00 (S7 _),a2L];rfl
  have s4:PC (wS ns N W L n Q T x8 (some (.v (.s home))) (some (.v (rwP row))) x11 (some (.v (tbV N W F T))) (some (.v (.t [.s "told",rsP l]))) (some (.v (rwP row))) (some (.t [.v (.s "told"),.g G.length])) none) (G++[rsC l])=.nx (wS ns N W L n Q T x8 (some (.v (.s home))) (some (.v (rwP row))) x11 (some (.v (tbV N W F T))) (some (.v (.t [.s "told",rsP l]))) (some (.v (rwP row))) (some (.t [.v (.s "told"),.g G.length])) none) (G++[rsC l]):=
   (nv (fO rfl (Z7 (Z7 (Z7 (Z7 (Z7 (Z7 (Z7 (Z7 (Z7 (Z7 (fQ rfl (Z7 (Z7 (fQ rfl (fQ rfl (fQ (Fs gk) Pz)))))))))))))))) (nt (x:=false) (y:=false) (dA (x:=true) (z5 (zx (xs:=[.t [.s "told",rsP l],.t [.s "told",rsP l]]) rfl hr))) (z5 (zq rfl rfl Rp))))).trans rfl
  have s5:PD (wS ns N W L n Q T x8 (some (.v (.s home))) (some (.v (rwP row))) x11 (some (.v (tbV N W F T))) (some (.v (.t [.s "told",rsP l]))) (some (.v (rwP row))) (some (.t [.v (.s "told"),.g G.length])) none) (G++[rsC l])=.nx (wS ns N W L n Q T x8 (some (.v (.s home))) (some (.v (rwP row))) x11 (some (.v (tbV N W F T))) (some (.v (.t [.s "told",rsP l]))) (some (.v (rwP row))) (some (.t [.v (.s "told"),.g G.length])) none) ((G++[rsC l]).set G.length (.l [])):=by refine(Dq (fO rfl (Z7 (Z7 (Z7 (Z7 (Z7 (Z7 (Z7 (Z7 (Z7 (Z7 (Z7 (Z7 (Z7 (Z7 (Z7 (fQ (Fs gk) Pz)))))))))))))))) ((px (x:="told") (n:=false) rfl).trans (by rw[T5 rfl];rfl)))).trans ?_;show(match(G++[rsC l])[G.length]? with|some (.l _)=>HFw.nx (wS ns N W L n Q T x8 (some (.v (.s home))) (some (.v (rwP row))) x11 (some (.v (tbV N W F T))) (some (.v (.t [.s "told",rsP l]))) (some (.v (rwP row))) (some (.t [.v (.s "told"),.g G.length])) none) ((G++[rsC l]).set G.length (.l []))|_=>.wall)=_;rw[gk]
  exact⟨_,zS s1 (zS s2 (zS s3 (zS s4 (zS s5 (fin _ _ (by rw[a0g (by omega),a0r lG];exact hG))))))⟩
end
def A7(h:g x ρ=some e)(f:b e G=.nx a d):b8 g b (x::xs) ρ G=b8 g b xs a d:=by
 show(match g x ρ with|none=>HFw.wall|some e=>match b e G with
   |.nx a d=>b8 g b xs a d
   |.ct a d=>b8 g b xs a d
   |.bk a d=>.nx a d
   |.rt v d=>.rt v d
   |.exc c fs d=>.exc c fs d
   |.wall=>.wall)=_
 rw[h];dsimp only;rw[f]
def A8(h:m ρ G=.ok x G)(a:ms ρ G=.ok xs G):ZE m ms ρ G=.ok (x::xs) G:=by unfold ZE;rw[h];show(ms ρ G).bind _=_;rw[a];rfl
section
variable {ns:SS}{N:Sn}{W:List Wy}{T:List Tp}{L:Lst}{n:Int}{Q:Sn}
def A9(nd:(T.map (·.1)).Nodup)(hl:T.length<=100):∀(R A:List Tp)(x:Option HV),A++R=T->∃x',b8 fE UR ((R.map tP).map .v) (wS ns N W L n Q T x none none none none none none none none) [.y true,.d (vK (j7 A))]=.nx (wS ns N W L n Q T x' none none none none none none none none) [.y true,.d (vK (j7 T))]
 |[],A,x,e=>⟨x,by rw[a0h]at e;subst e;rfl⟩
 |t::R,A,x,e=>by
  obtain⟨x',q⟩:=A9 nd hl R (A++[t]) (some (.v (tP t))) (by rw[a0w];exact e);have hn:t.1∉A.map (·.1):=λh=>by rw[<- e,a0m]at nd;exact(a1E.mp nd).2.2 _ h t.1 S4 rfl
  have lA:A.length<=100:=by have:=a0F List.length e;rw[S9]at this;omega
  have st:UR (wS ns N W L n Q T (some (.v (tP t))) none none none none none none none none) [.y true,.d (vK (j7 A))]=.nx (wS ns N W L n Q T (some (.v (tP t))) none none none none none none none none) [.y true,.d (vK (j7 (A++[t])))]:=by refine(AA (k:=1) (z:=.s t.1) (q:=sk t.1) (y:=.v (tP t)) (kvs:=vK (j7 A)) rfl rfl (fP rfl rfl) rfl rfl (by unfold vK j7;rw[v4,v4];omega)).trans ?_;rw[pV hn];rfl
  exact⟨x',(A7 rfl st).trans q⟩
end
def DS(ns:SS)(_:ns.length<=k):∃G,E9 [.v (.sc ns)] [.y true]=.ok (.v (.b true)) G:=by
 obtain⟨m1,p1,e1⟩:=wM (ns:=ns) (k:=2) (p:=65449) (by decide) (by decide);obtain⟨X,p2,e2⟩:=wM (ns:=ns) (k:=11) (p:=65521) (by decide) (by decide);obtain⟨m3,p3,e3⟩:=wM (ns:=ns) (k:=56) (p:=65537) (by decide) (by decide);obtain⟨c4,e4⟩:=Y7 (ns:=ns) (k:=57) (by decide);obtain⟨h,p5,e5⟩:=wM (ns:=ns) (k:=58) (p:=65519) (by decide) (by decide);obtain⟨m6,p6,e6⟩:=wM (ns:=ns) (k:=59) (p:=65497) (by decide) (by decide);obtain⟨P,lP,H,U,eP⟩:=iR (ns:=ns) (a:=0) (n:=(2+m1 % 4).toNat) (by decide) (by omega);rw[a2i (by omega)]at eP;obtain⟨W,lW,q,eW⟩:=Dy (ns:=ns) (a:=3) (N:=P) (by decide) (by omega) (by omega);have R:=rok q H U (by omega) (by omega);obtain⟨F,kF⟩:=nB R;have A:=λz=>(kF z).1;obtain⟨L,J,hK,eL⟩:=nE q (by omega) (by omega) A;obtain⟨n,n2,en⟩:∃n:Nat,n<=16/\max (X % 4) ((min (ns.length:Int) 55-11) / 3)=(n:Int):=⟨(max (X % 4) ((min (ns.length:Int) 55-11) / 3)).toNat,by omega,by omega⟩;obtain⟨Q,lQ,Y,hQ,eQ⟩:=iR (ns:=ns) (a:=11) (n:=n) (by decide) (by omega);have v:∀o∈P,∀z y,zP (F o) (sk z)=some y->0<=y/\y<=800000000:=λo I z y e=>by have:=sU q (A o) I e;omega
 obtain⟨T,nT,O,eT⟩:=DA (ns:=ns) (a:=13) (Q:=Q) (P:=P) (by decide) (by omega) (by omega) J v (λo _=>(A o).1.own);have lT:T.length=n:=by rw[<- lQ,<- nT,v4]
 have m:(T.map (·.1)).Nodup:=by rw[nT];exact Y
 have Z:∀t∈T,Nm t.1:=λt B=>hQ _ (by rw[<- nT];exact a1s B);have E:Env P F T L:=⟨m,O,J,hK,λo _=>(A o).1.own,λo I z y e=>(v o I z y e).1⟩;obtain⟨b,hh0,eh⟩:=W5 (N:=P) (s:=m3) (by omega);obtain⟨i,eB⟩:=A9 (ns:=ns) (N:=P) (W:=W) (L:=L) (n:=(n:Int)) (Q:=Q) m (by omega) T [] none rfl;have M:aa (.i 3) (.i 14)=.ok (.i 4782969):=by rw[LQ (by decide) (by decide) (by decide)];rfl
 obtain⟨f,j,lr,kG,er⟩:=Nu (G:=[.y true,.d (vK (j7 T))]) (p:=c4 % 4782969) J O m (by omega) rfl;have hG1:j[1]?=some (.d (vK (j7 T))):=kG 1 (by decide) (by show 1<2;decide);have s1:vz 1 (hP [true] (zh qB (zb (zc 0) (zb (mC (.i 0)) (zb (mOp zJ (mC (.i 2)) (mOp zX (zh zO (zb (zc 0) (zb (mC (.i 2)) (zb (mC (.i 65449)) zk)))) (mC (.i 4)))) zk))))) (some (.v (.sc ns))::List.replicate 16 none) [.y true]=.nx (some (.v (.sc ns))::some (.v (rwP P))::List.replicate 15 none) [.y true]:=qU (fP rfl (zx (xs:=[.sc ns,.i 0,.i (2+m1 % 4)]) (zp rfl (zp rfl (zp (zq rfl (wX (zx (xs:=[.sc ns,.i 2,.i 65449]) rfl e1) (by decide)) rfl) rfl))) eP));have s2:vz 2 (hP [true,true] (zh km (zb (zc 0) (zb (mC (.i 3)) (zb (zc 1) zk))))) (some (.v (.sc ns))::some (.v (rwP P))::List.replicate 15 none) [.y true]=.nx (some (.v (.sc ns))::some (.v (rwP P))::some (.v (.l (W.map wP)))::List.replicate 14 none) [.y true]:=qU (fP rfl (zx (xs:=[.sc ns,.i 3,rwP P]) rfl eW));have s3:vz 3 (hP [false,true,true] (zh qA (zb (zc 1) (zb (zc 2) zk)))) (some (.v (.sc ns))::some (.v (rwP P))::some (.v (.l (W.map wP)))::List.replicate 14 none) [.y true]=.nx (some (.v (.sc ns))::some (.v (rwP P))::some (.v (.l (W.map wP)))::some (.v (.dt L))::List.replicate 13 none) [.y true]:=qU (fP rfl (zx (xs:=[rwP P,.l (W.map wP)]) rfl eL));have s4:vz 4 (hP [true] (zh HP (zb (mOp zX (zh zO (zb (zc 0) (zb (mC (.i 11)) (zb (mC (.i 65521)) zk)))) (mC (.i 4))) (zb (mOp Yv (mOp d_ (zh eD (zb (zh QR (zb (zc 0) zk)) (zb (mC (.i 55)) zk))) (mC (.i 11))) (mC (.i 3))) zk)))) (some (.v (.sc ns))::some (.v (rwP P))::some (.v (.l (W.map wP)))::some (.v (.dt L))::List.replicate 13 none) [.y true]=.nx (some (.v (.sc ns))::some (.v (rwP P))::some (.v (.l (W.map wP)))::some (.v (.dt L))::some (.v (.i (n:Int)))::List.replicate 12 none) [.y true]:=by rw[<- en];exact qU (fP rfl (zx (xs:=[.i (X % 4),.i ((min (ns.length:Int) 55-11) / 3)]) (zp (wX (zx (xs:=[.sc ns,.i 11,.i 65521]) rfl e2) (by decide)) (zp (nr (zq (x:=.i (min (ns.length:Int) 55)) (zx (xs:=[.i (ns.length:Int),.i 55]) (zp (zx (xs:=[.sc ns]) rfl rfl) (zp rfl rfl)) rfl) rfl rfl) (by decide) (by decide)) rfl)) rfl))
 have s5:vz 5 (hP [true,false,false,false,true] (zh qB (zb (zc 0) (zb (mC (.i 11)) (zb (zc 4) zk))))) (some (.v (.sc ns))::some (.v (rwP P))::some (.v (.l (W.map wP)))::some (.v (.dt L))::some (.v (.i (n:Int)))::List.replicate 12 none) [.y true]=.nx (some (.v (.sc ns))::some (.v (rwP P))::some (.v (.l (W.map wP)))::some (.v (.dt L))::some (.v (.i (n:Int)))::some (.v (rwP Q))::List.replicate 11 none) [.y true]:=qU (fP rfl (zx (xs:=[.sc ns,.i 11,.i (n:Int)]) rfl eQ));have s6:vz 6 (hP [true,true,false,true,false,true] (zh jD (zb (zc 0) (zb (mC (.i 13)) (zb (zc 5) (zb (zc 1) (zb (zc 3) zk))))))) (some (.v (.sc ns))::some (.v (rwP P))::some (.v (.l (W.map wP)))::some (.v (.dt L))::some (.v (.i (n:Int)))::some (.v (rwP Q))::List.replicate 11 none) [.y true]=.nx (some (.v (.sc ns))::some (.v (rwP P))::some (.v (.l (W.map wP)))::some (.v (.dt L))::some (.v (.i (n:Int)))::some (.v (rwP Q))::some (.v (.l (T.map tP)))::List.replicate 10 none) [.y true]:=qU (fP rfl (zx (xs:=[.sc ns,.i 13,rwP Q,rwP P,.dt L]) rfl eT));have s7:vz 7 (hF [] r8) (some (.v (.sc ns))::some (.v (rwP P))::some (.v (.l (W.map wP)))::some (.v (.dt L))::some (.v (.i (n:Int)))::some (.v (rwP Q))::some (.v (.l (T.map tP)))::List.replicate 10 none) [.y true]=.nx (wS ns P W L n Q T none none none none none none none none none) [.y true,.d (vK (j7 []))]:=rfl;have s8:b9 [false,false,false,false,false,false,true] (yr (zc 6)) fE UR (wS ns P W L n Q T none none none none none none none none none) [.y true,.d (vK (j7 []))]=_:=pW rfl (ye rfl) eB;have s9:vz 9 (hP [true,true] (mOp pIx (zc 1) (mOp zX (zh zO (zb (zc 0) (zb (mC (.i 56)) (zb (mC (.i 65537)) zk)))) (zh QR (zb (zc 1) zk))))) (wS ns P W L n Q T i none none none none none none none none) [.y true,.d (vK (j7 T))]=.nx (wS ns P W L n Q T i (some (.v (.s b))) none none none none none none none) [.y true,.d (vK (j7 T))]:=qU (fP rfl (zq rfl (zq (zx (xs:=[.sc ns,.i 56,.i 65537]) rfl e3) (zx (xs:=[rwP P]) rfl Jp) (kL (by omega))) eh));have S:vz 10 (h_ Kb (ZE (QW 6) (ZE (QW 3) (ZE (hP [true] (mOp zX (zh zR (zb (zc 0) (zb (mC (.i 57)) zk))) (mOp aa (mC (.i 3)) (mC (.i 14))))) CL)))) (wS ns P W L n Q T i (some (.v (.s b))) none none none none none none none) [.y true,.d (vK (j7 T))]=.nx (wS ns P W L n Q T i (some (.v (.s b))) (some (.v (rwP f))) none none none none none none) j:=qU (fZ (A8 rfl (A8 rfl (A8 (fP rfl (zq (zx (xs:=[.sc ns,.i 57]) rfl e4) (zq rfl rfl M) (kL (by decide)))) rfl))) er);have C:vz 11 (hP [true] (mOp zX (zh zO (zb (zc 0) (zb (mC (.i 58)) (zb (mC (.i 65519)) zk)))) (mC (.i 12)))) (wS ns P W L n Q T i (some (.v (.s b))) (some (.v (rwP f))) none none none none none none) j=.nx (wS ns P W L n Q T i (some (.v (.s b))) (some (.v (rwP f))) (some (.v (.i (h % 12)))) none none none none none) j:=qU (fP rfl (wX (zx (xs:=[.sc ns,.i 58,.i 65519]) rfl e5) (by decide)));obtain⟨d,r,D⟩:∃d:List Str,d.length<=1000/\hIf (hPT [false,false,false,false,false,false,false,false,false,false,false,true] (z0 (U_ pLe pLe (mC (.i 1)) (zc 11) (mC (.i 3))))) (vz 10 (hP [true,false,false,false,false,true,false,false,false,false,true,true] (zh ja (zb (zc 10) (zb (zc 5) (zb (mOp d_ (zc 11) (mC (.i 1))) (zb (zh zO (zb (zc 0) (zb (mC (.i 59)) (zb (mC (.i 65497)) zk)))) zk))))))) Vf (wS ns P W L n Q T i (some (.v (.s b))) (some (.v (rwP f))) (some (.v (.i (h % 12)))) none none none none none) j=.nx (wS ns P W L n Q T i (some (.v (.s b))) (some (.v (rwP d))) (some (.v (.i (h % 12)))) none none none none none) j:=by
  have l:z0 (U_ pLe pLe (mC (.i 1)) (zc 11) (mC (.i 3))) [none,none,none,none,none,none,none,none,none,none,none,some (.i (h % 12)),none,none,none,none,none]=_:=z5 (Pk rfl rfl rfl);cases u:(decide (1<=h % 12)&&decide (h % 12<=3))with
  |true=>rw[u]at l;obtain⟨d,h1,h2⟩:=A5 (row:=f) (Q:=Q) (w:=h % 12-1) (c:=m6) lr (by omega) p6;exact⟨d,by omega,(Dq (dB rfl l)).trans (qU (fP rfl (zx (xs:=[rwP f,rwP Q,.i (h % 12-1),.i m6]) (zp rfl (zp rfl (zp rfl (zp (zx (xs:=[.sc ns,.i 59,.i 65497]) rfl e6) rfl)))) h2)))⟩
  |false=>rw[u]at l;exact⟨f,by omega,(nv (dB rfl l)).trans rfl⟩
 obtain⟨g,K⟩:∃g:Str,hIf (hPT [false,false,false,false,false,false,false,false,false,false,false,true] (z0 (mOp (vD false) (zc 11) (mC (.i 4))))) (vz 9 (hP [false,true] (zh yN (zb (zc 1) zk)))) Vf (wS ns P W L n Q T i (some (.v (.s b))) (some (.v (rwP d))) (some (.v (.i (h % 12)))) none none none none none) j=.nx (wS ns P W L n Q T i (some (.v (.s g))) (some (.v (rwP d))) (some (.v (.i (h % 12)))) none none none none none) j:=by
  have l:z0 (mOp (vD false) (zc 11) (mC (.i 4))) [none,none,none,none,none,none,none,none,none,none,none,some (.i (h % 12)),none,none,none,none,none]=_:=XI (x:=h % 12) rfl;by_cases u:h % 12=4
  .rw[T5 u]at l;obtain⟨z,_,ez⟩:=bx (N:=P) (by omega);exact⟨z,(Dq (dB rfl l)).trans (qU (fP rfl (zx (xs:=[rwP P]) rfl ez)))⟩
  .rw[a0a u]at l;exact⟨b,(nv (dB rfl l)).trans rfl⟩
 have s14:vz 12 (hP [false,true,true,false,false,false,true] (zh (mkV 10 qE) (zb (zh qr (zb (zh kM (zb (zc 1) zk)) (zb (zh kM (zb (zc 2) zk)) zk))) (zb (zh kM (zb (zc 6) zk)) zk)))) (wS ns P W L n Q T i (some (.v (.s g))) (some (.v (rwP d))) (some (.v (.i (h % 12)))) none none none none none) j=.nx (wS ns P W L n Q T i (some (.v (.s g))) (some (.v (rwP d))) (some (.v (.i (h % 12)))) (some (.v (tbV P W F T))) none none none none) j:=qU (fP rfl (zx (xs:=[roP P W F,.l (T.map tP)]) (zp (zx (xs:=[rwP P,.l (W.map wP)]) rfl (G_ R λz=>(kF z).2)) (zp (zx (xs:=[.l (T.map tP)]) rfl rfl) rfl)) (Ni (λt B=>⟨O t B,Z t B⟩) m (by omega))));obtain⟨G2,ee⟩:=Nw (ns:=ns) (W:=W) (n:=(n:Int)) (Q:=Q) (home:=g) (row:=d) (G:=j) (x8:=i) (x11:=some (.v (.i (h % 12)))) E (by omega) r hG1;exact⟨G2,fY (zS s1 (zS s2 (zS s3 (zS s4 (zS s5 (zS s6 (zS s7 (zS s8 (zS s9 (zS S (zS C (zS D (zS K (zS s14 ee))))))))))))))⟩
end NCS
structure IsE{α:Type}(a b:α):Prop where
 e:a=b
def A_(K:SU)(c:Addr):Sp:=λe H Q _=>∃(a:Addr)(b:SS),e=[.ref a]/\H c=some (.tbl #[])/\SqL K H a (b.map V.int)/\b.length<=63/\∀d,Q (.bl true) d
def all_mk{l:W.OpenLaw}{w:SI}{K:SU}{h:Heap}{mg:Sl}{fa m i u r n f a d o j q x b JF bL Wj X5 JL X2 Ws KO bU vp K3 vq QA M vA vt JK F jW Zu ko O S KH Zs L Wz bP wV I JE Bl dO kr Qx C D Wh Wt JG XX lz Wq Qr KS QB K6 Qs J Wx Y B Z:Addr}{DV:SX}{rh:Td}{JA bQ Wk XZ JC X6 Wr K2 Vs QC K0 QG QH KY vB Qv Jz Qy Zr Zq Ys K4 QF KZ Zt KW Wn bS JB KN JN Bc dP Yt Qt JO JM Wm Wu JP X4 lI Wo QE KP Qw K7 QD K1 Wi nP:SK}{DX:Te}{lH KQ Qz KJ p9 dQ rg lF dR lD JH Wg Bi p8 p_ lg Bg:Tok}{DW:Value}(X:K.In h)(G:h.Ns mainGlobals mg)(U:mg "law"=some (.ref fa))
  (mW:W.nsIn K mainGlobals "LIMIT"=some (some (.int 1000000000 lH)))
  (Q_:W.nsIn K mainGlobals "NAME_SIGNS"=some (some (.str "abcdefghijklmnopqrstuvwxyz0123456789" KQ)))
  (ZQ:W.nsIn K mainGlobals "LONGEST_NAME"=some (some (.int 12 Qz)))
  (Ja:W.nsIn K mainGlobals "MOST_TRIPS"=some (some (.int 40 KJ)))
  (Xm:W.nsIn K mainGlobals "NAME"=some (some (.int 0 p9)))
  (w_:W.nsIn K mainGlobals "ORIGIN"=some (some (.int 1 dQ)))
  (aM:W.nsIn K mainGlobals "GOAL"=some (some (.int 2 rg)))
  (ZR:W.nsIn K mainGlobals "START"=some (some (.int 3 lF)))
  (vJ:W.nsIn K mainGlobals "FINISH"=some (some (.int 4 dR)))
  (mX:W.nsIn K mainGlobals "SEATS"=some (some (.int 5 lD)))
  (YM:W.nsIn K mainGlobals "MOST_PLACES"=some (some (.int 12 JH)))
  (Vo:W.nsIn K mainGlobals "MOST_WAYS"=some (some (.int 60 Wg)))
  (De:W.nsIn K mainGlobals "WAY"=some (some (.str "way" Bi)))
  (x_:W.nsIn K mainGlobals "TRIP"=some (some (.str "trip" p8)))
  (Aa:W.nsIn K mainGlobals "WAIT"=some (some (.str "wait" p_)))
  (mY:W.nsIn K mainGlobals "BEGIN"=some (some (.int 1 lg)))
  (GU:W.nsIn K mainGlobals "END"=some (some (.int 2 Bg)))
  (Jb:NsR K "FleetError" m)
  (VP:NsR K "BadName" i)
  (Vp:NsR K "BadNumber" u)
  (aN:NsR K "TooMany" r)
  (mZ:NsR K "Twice" n)
  (VQ:NsR K "NoPlace" f)
  (aO:NsR K "NoWay" a)
  (UM:NsR K "NoTrip" d)
  (W2:NsR K "Backward" o)
  (aQ:NsR K "TooFast" j)
  (m4:NsR K "Table" q)
  (m7:NsR K "Roads" x)
  (J6:NsR K "Unlinked" b)
  (ph:NsN K "bool")
  (Ab:NsN K "dict")
  (yK:NsN K "isinstance")
  (Yp:NsN K "len")
  (Qh:NsN K "list")
  (Df:NsN K "max")
  (sC:NsN K "min")
  (YN:NsN K "range")
  (UN:NsN K "sorted")
  (Dg:NsN K "str")
  (m8:NsN K "tuple")
  (GV:NsN K "zip")
  (yw:DfN K "_law_cell_at" YE JF JA)
  (yZ:DfN K "_law_mix" aC bL bQ)
  (qz:DfN K "_law_names" Vg Wj Wk)
  (vP:DfN K "_law_ways" WT X5 XZ)
  (jh:DfN K "_law_lengths" YF JL JC)
  (J7:DfN K "_law_trip" WU X2 X6)
  (ke:DfN K "_law_trips" Vh Ws Wr)
  (kQ:DfN K "_law_linked" QX KO K2)
  (kR:DfN K "_law_row" aE bU Vs)
  (s_:XMk K r vp)
  (KU:Fun K "__init__" "TooMany.__init__" ZG vp QC)
  (jF:DfN K "check_most" QY K3 K0)
  (tH:XMk K i vq)
  (K5:Fun K "__init__" "BadName.__init__" ZH vq QG)
  (kB:DfN K "checked_name" ZI QA QH)
  (DZ:XMk K n M)
  (X0:Fun K "__init__" "Twice.__init__" QZ M KY)
  (y3:DfN K "checked_new_name" jM vA vB)
  (tD:XMk K f vt)
  (KI:Fun K "__init__" "NoPlace.__init__" ZJ vt Qv)
  (y4:DfN K "check_place" YG JK Jz)
  (cY:W.findIn K (.ref x) "length"=some (some (.ref F)))
  (Yg:Fun K "length" "Roads.length" ZK F Qy)
  (lE:XMk K u jW)
  (Qu:Fun K "__init__" "BadNumber.__init__" k8 jW Zr)
  (yF:DfN K "checked_number" k9 Zu Zq)
  (nV:XMk K o ko)
  (JJ:Fun K "__init__" "Backward.__init__" vX ko Ys)
  (DY:XMk K a O)
  (X3:Fun K "__init__" "NoWay.__init__" Q1 O K4)
  (tF:XMk K j S)
  (KR:Fun K "__init__" "TooFast.__init__" ZL S QF)
  (Za:DfN K "check_trip" Q2 KH KZ)
  (qJ:DfN K "place_in_order" k_ Zs Zt)
  (ll:W.findIn K (.ref q) "__init__"=some (some (.ref L)))
  (X7:Fun K "__init__" "Table.__init__" Q3 L KW)
  (kf:DfN K "_law_sheet" Vi Wz Wn)
  (Jc:DfN K "_law_due" aF bP bS)
  (Bo:XMk K d wV)
  (Ww:Fun K "__init__" "NoTrip.__init__" YH wV JB)
  (lx:W.findIn K (.ref q) "trip"=some (some (.ref I)))
  (P:Fun K "trip" "Table.trip" Q4 I KN)
  (vL:DfN K "check_trips" YI JE JN)
  (Dh:DfN K "gap" GR Bl Bc)
  (UO:DfN K "linked" fc dO dP)
  (nX:XMk K b kr)
  (JD:Fun K "__init__" "Unlinked.__init__" vY kr Yt)
  (kC:DfN K "check_linked" ZM Qx Qt)
  (gh:W.findIn K (.ref x) "names"=some (some (.ref C)))
  (N:Fun K "names" "Roads.names" YJ C JO)
  (gi:W.findIn K (.ref q) "names"=some (some (.ref D)))
  (Qf:Fun K "names" "Table.names" YK D JM)
  (YO:DfN K "check_row" Vj Wh Wm)
  (v7:DfN K "check_way" Vk Wt Wu)
  (vM:DfN K "check_block" YL JG JP)
  (vQ:DfN K "parts_of" WV XX X4)
  (YQ:DfN K "sheet" mV lz lI)
  (yG:DfN K "_law_asked" Vl Wq Wo)
  (jq:DfN K "_law_stranger" ZN Qr QE)
  (Zb:DfN K "_law_spoilt" Q5 KS KP)
  (kD:DfN K "check_places" ZO QB Qw)
  (Zc:DfN K "check_ways" Q6 K6 K7)
  (qQ:DfN K "heights_from" ZP Qs QD)
  (lJ:W.findIn K (.ref x) "__init__"=some (some (.ref J)))
  (XY:Fun K "__init__" "Roads.__init__" Q7 J K1)
  (kg:DfN K "_law_right" Vm Wx Wi)
  (Ac:DfN K "law" GS Y nP)
  (nU:QI K i)
  (nW:XIs K i)
  (nJ:Catch K i m true)
  (Uo:W.takerIn K i "name"=some none)
  (Uw:W.findIn K (.ref i) "name"=some none)
  (gd:QI K u)
  (gf:XIs K u)
  (gj:Catch K u m true)
  (Vr:W.takerIn K u "value"=some none)
  (nO:QI K r)
  (nN:XIs K r)
  (nM:Catch K r m true)
  (Ul:W.takerIn K r "most"=some none)
  (Bf:QI K n)
  (Bk:XIs K n)
  (Bm:Catch K n m true)
  (cX:W.takerIn K n "name"=some none)
  (cR:W.findIn K (.ref n) "name"=some none)
  (nS:QI K f)
  (nH:XIs K f)
  (nY:Catch K f m true)
  (Us:W.takerIn K f "name"=some none)
  (Ut:W.findIn K (.ref f) "name"=some none)
  (Be:QI K a)
  (Bn:XIs K a)
  (Bq:Catch K a m true)
  (Uv:W.takerIn K a "origin"=some none)
  (Uq:W.findIn K (.ref a) "origin"=some none)
  (cQ:W.takerIn K a "goal"=some none)
  (cS:W.findIn K (.ref a) "goal"=some none)
  (tw:QI K d)
  (tE:XIs K d)
  (tI:Catch K d m true)
  (bT:W.takerIn K d "name"=some none)
  (bM:W.findIn K (.ref d) "name"=some none)
  (lC:QI K o)
  (lh:XIs K o)
  (la:Catch K o m true)
  (Xb:W.takerIn K o "name"=some none)
  (W_:W.findIn K (.ref o) "name"=some none)
  (nQ:QI K j)
  (nK:XIs K j)
  (nR:Catch K j m true)
  (Uk:W.takerIn K j "name"=some none)
  (Ur:W.findIn K (.ref j) "name"=some none)
  (lq:QI K b)
  (lj:XIs K b)
  (lb:Catch K b m true)
  (Wl:W.takerIn K b "first"=some none)
  (Wv:W.findIn K (.ref b) "first"=some none)
  (Vt:W.takerIn K b "second"=some none)
  (Vu:W.findIn K (.ref b) "second"=some none)
  (Bb:Cls K q)
  (Bj:W.makesIn K q=true)
  (Bh:W.keepIn K (.ref q)=true)
  (Xc:W.findIn K (.ref q) "by_name"=some none)
  (bR:W.findIn K (.ref q) "order"=some none)
  (bO:W.findIn K (.ref q) "roads"=some none)
  (bN:W.isFn K (.ref D)=true)
  (cU:W.isFn K (.ref I)=true)
  (cW:W.isFn K (.ref L)=true)
  (Br:Cls K x)
  (Bp:W.makesIn K x=true)
  (Bd:W.keepIn K (.ref x)=true)
  (Xa:W.findIn K (.ref x) "lengths"=some none)
  (Uu:W.findIn K (.ref x) "places"=some none)
  (cV:W.findIn K (.ref x) "ways"=some none)
  (Um:W.isFn K (.ref F)=true)
  (bV:W.isFn K (.ref C)=true)
  (cT:W.isFn K (.ref J)=true)
  (Jh:W.kitOne K (.type "list") (.type "list")=some true)
  (Zf:W.kitOne K (.type "bool") (.type "bool")=some true)
  (YT:W.kitOne K (.type "int") (.type "bool")=some false)
  (ZT:W.kitOne K (.type "tuple") (.type "tuple")=some true)
  (v8:qX K i f)
  (v9:qX K u f)
  (v_:qX K r f)
  (wa:qX K n f)
  (wb:EK K f f)
  (wc:qX K a f)
  (wd:qX K d f)
  (we:qX K o f)
  (wg:qX K j f)
  (vc:qX K b f)
  (ZU:qX K i d)
  (ZV:qX K u d)
  (ZW:qX K r d)
  (ZX:qX K n d)
  (ZY:qX K f d)
  (ZZ:qX K a d)
  (Z0:EK K d d)
  (Z1:qX K o d)
  (Z2:qX K j d)
  (wj:qX K b d)
  (vd:qX K i b)
  (ve:qX K u b)
  (vf:qX K r b)
  (vg:qX K n b)
  (vh:qX K f b)
  (vi:qX K a b)
  (vj:qX K d b)
  (vk:qX K o b)
  (vm:qX K j b)
  (ki:EK K b b)
  (YU:qX K i a)
  (YV:qX K u a)
  (YW:qX K r a)
  (YX:qX K n a)
  (YY:qX K f a)
  (YZ:EK K a a)
  (Y0:qX K d a)
  (Y1:qX K o a)
  (Y2:qX K j a)
  (Z3:qX K b a)
  (pq:IsE Vs.code (.ref B))
  (z:IsE (K.lookup B) (some ⟨DW,DX,.fields rh,DV⟩))
  (y:IsE (rh[11]?) (some (.ref Z)))
  (A:W.noTabs K=true)
  : ∃(fd:SK)(c R:Addr),W.tabIn K "_law_row"=some (c,R)/\W.noTabs K=true/\(∀(s:Ss)(v:Value),BindsTo s fd ⟨[v],[]⟩ [("_law_script",v)])/\∀g:Heap,K.In g->g.Ns mainGlobals mg->EJ g mg c R->qd l.prog w K mg g (CXe l.prog w) 12 fa fd ["_law_script"] (A_ K R):=by
 have e:Y=fa:=by have e:=U.symm.trans (a0C X G Ac.1);injection e with e;injection e with e;exact e.symm
 subst e;have T:Txt K mg ⟨m,i,u,r,n,f,a,d,o,j,q,x,b,JF,bL,Wj,X5,JL,X2,Ws,KO,bU,vp,K3,vq,QA,M,vA,vt,JK,F,jW,Zu,ko,O,S,KH,Zs,L,Wz,bP,wV,I,JE,Bl,dO,kr,Qx,C,D,Wh,Wt,JG,XX,lz,Wq,Qr,KS,QB,K6,Qs,J,Wx,Y,B,Z,JA,bQ,Wk,XZ,JC,X6,Wr,K2,Vs,QC,K0,QG,QH,KY,vB,Qv,Jz,Qy,Zr,Zq,Ys,K4,QF,KZ,Zt,KW,Wn,bS,JB,KN,JN,Bc,dP,Yt,Qt,JO,JM,Wm,Wu,JP,X4,lI,Wo,QE,KP,Qw,K7,QD,K1,Wi,nP,lH,KQ,Qz,KJ,p9,dQ,rg,lF,dR,lD,JH,Wg,Bi,p8,p_,lg,Bg⟩:=⟨⟨a0C X G mW,a0C X G Q_,a0C X G ZQ,a0C X G Ja,a0C X G Xm,a0C X G w_,a0C X G aM,a0C X G ZR⟩,⟨a0C X G vJ,a0C X G mX,a0C X G YM,a0C X G Vo,a0C X G De,a0C X G x_,a0C X G Aa,a0C X G mY⟩,⟨a0C X G GU,a0C X G Jb,a0C X G VP,a0C X G Vp,a0C X G aN,a0C X G mZ,a0C X G VQ,a0C X G aO⟩,⟨a0C X G UM,a0C X G W2,a0C X G aQ,a0C X G m4,a0C X G m7,a0C X G J6,a0W X G ph,a0W X G Ab⟩,⟨a0W X G yK,a0W X G Yp,a0W X G Qh,a0W X G Df,a0W X G sC,a0W X G YN,a0W X G UN,a0W X G Dg⟩,⟨a0W X G m8,a0W X G GV,yB X G yw bn2,yB X G yZ bn3,yB X G qz bn3,yB X G vP bn3,yB X G jh bn2,yB X G J7 bn6⟩,⟨yB X G ke bn5,yB X G kQ bn3,yB X G kR bn3,KU,KU.binds bn2,yB X G jF bn2,K5,K5.binds bn2⟩,⟨yB X G kB bn1,X0,X0.binds bn2,yB X G y3 bn2,KI,KI.binds bn2,yB X G y4 bn2,Yg⟩,⟨Yg.binds bn3,Qu,Qu.binds bn2,yB X G yF bn2,JJ,JJ.binds bn2,X3,X3.binds bn3⟩,⟨KR,KR.binds bn2,yB X G Za bn3,yB X G qJ bn1,X7,X7.binds bn3,yB X G kf bn3,yB X G Jc bn4⟩,⟨Ww,Ww.binds bn2,P,P.binds bn2,yB X G vL bn2,yB X G Dh bn3,yB X G UO bn3,JD⟩,⟨JD.binds bn3,yB X G kC bn2,N,N.binds bn1,Qf,Qf.binds bn1,yB X G YO bn3,yB X G v7 bn3⟩,⟨yB X G vM bn3,yB X G vQ bn3,yB X G YQ bn3,yB X G yG bn3,yB X G jq bn1,yB X G Zb bn4,yB X G kD bn1,yB X G Zc bn2⟩,⟨yB X G qQ bn2,XY,XY.binds bn3,yB X G kg bn2,yB X G Ac bn1,nU,nW,tH⟩,⟨nJ,Uo,Uw,gd,gf,lE,gj,Vr⟩,⟨nO,nN,s_,nM,Ul,Bf,Bk,DZ⟩,⟨Bm,cX,cR,nS,nH,tD,nY,Us⟩,⟨Ut,Be,Bn,DY,Bq,Uv,Uq,cQ⟩,⟨cS,tw,tE,Bo,tI,bT,bM,lC⟩,⟨lh,nV,la,Xb,W_,nQ,nK,tF⟩,⟨nR,Uk,Ur,lq,lj,nX,lb,Wl⟩,⟨Wv,Vt,Vu,Bb,Xc,bR,bO,⟨gi,bN,Qf.kp⟩⟩,⟨⟨lx,cU,P.kp⟩,⟨Bj,ll,cW,Bh⟩,Br,Xa,Uu,cV,⟨cY,Um,Yg.kp⟩,⟨gh,bV,N.kp⟩⟩,⟨⟨Bp,lJ,cT,Bd⟩,Jh,Zf,YT,ZT,v8,v9,v_⟩,⟨wa,wb,wc,wd,we,wg,vc,ZU⟩,⟨ZV,ZW,ZX,ZY,ZZ,Z0,Z1,Z2⟩,⟨wj,vd,ve,vf,vg,vh,vi,vj⟩,⟨vk,vm,ki,YU,YV,YW,YX,YY⟩,⟨YZ,Y0,Y1,Y2,Z3,pq.e⟩⟩;have eb:∀(s:Ss)(v:Value),BindsTo s nP ⟨[v],[]⟩ [("_law_script",v)]:=by obtain⟨_,_,_,_,_,_,_,_,_,rfl,_,_⟩:=Ac.2.ex;exact λs v=>.of_eq rfl
 have tb:W.tabIn K "_law_row"=some (B,Z):=by obtain⟨_,_,_,_,_,_,_,_,_,rfl,lk,_⟩:=kR.2.ex;exact Mv kR.1 lk pq.e z.e y.e
 refine⟨_,_,_,tb,A,eb,λg _ _ TB=>(M9 T TB).imp λvs H Q E ⟨p,ns,e,hT,hS,hl,k⟩=>?_⟩;subst e;exact C7 (W:=WW K _) hT hS (DS ns hl) k
def walk{l:W.OpenLaw}{q:SG}{g:Sn}{XP:(Str->Option Value)->Heap->Prop}{o:World->Heap->Prop}{d d':DefRec}{K:Params->W.Frag}(D:l.most=some 63)(j:d.params.defaults=[])
  (A:∀(w:SI)(h:Heap),o w h->(K w.params).In h) (B:(PyProof.Rows.recsOf q).find? (λe=>e.name==("_law_row":Str))=some d')
  (F:∀(w:SI)(i:Sl)(fa:Addr)(h:Heap),(K w.params).In h->h.Ns mainGlobals i->i d.name=some (.ref fa)->
   ∃(p:SK)(c m:Addr),W.tabIn (K w.params) "_law_row"=some (c,m)/\W.noTabs (K w.params)=true/\(∀(s:Ss)(u:Value),BindsTo s p ⟨[u],[]⟩ [("_law_script",u)])/\∀b:Heap,(K w.params).In b->b.Ns mainGlobals i->EJ b i c m->qd l.prog w (K w.params) i b (CXe l.prog w) 12 fa p ["_law_script"] (A_ (K w.params) m)):
  W.WalkO q g XP o l.row.toRowW d [] (λf v=>PySem.call f v):=
 L2.C5 (n:=63) (k:=12) (x:="_law_script") (CX:=λw=>CXe l.prog w) (sp:=λw=>A_ (K w.params)) D (by decide) j ⟨rfl,by decide,by decide⟩ A B F (λ_ _ H a y E C r=>⟨a,y,rfl,C.1,r,E,λ_=>rfl⟩) λ_ _ _ _ _ z=>aq z
end K51
open PySem PySem.W PyProof.Rows
namespace PySem.W.Fast
def tw11297356598693309629:=()
def tw6924659397660309341:=()
def tw3194076009002527908:=()
def tw2699545565426183097:=()
def tw16878385321781827781:=()
def tw6280851911183745687:=()
def tw5802754913799671848:=()
def tw5515346104914769817:=()
def tw15471059924338898265:=()
def tw5917293384160455633:=()
def tw4053406763549886296:=()
def tw8926497536220652156:=()
def tw16040746504610550690:=()
def tw15849877696084216292:=()
def tw2818393374363488748:=()
def tw6080358189068753655:=()
def tw14506742180749129150:=()
def tw10008340822620099767:=()
def tw34298782903786503:=()
def tw14384084253943791682:=()
def tw15672627270858053822:=()
def tw6736382240508644832:=()
def tw10764699443196779206:=()
def tw18052118489940650307:=()
def tw14293035400545322687:=()
def tw12305557451750275591:=()
def tw10293494975499084750:=()
def tw7916710764172223416:=()
def tw16627841712672465601:=()
def tw12086398819613480095:=()
def tw1081981684560994573:=()
def tw4394333971905040834:=()
def tw5665717628689796061:=()
def tw5101975901294091455:=()
def tw10365753969920997689:=()
def tw12110833612906638446:=()
def tw13966025334799314793:=()
def tw2702275250284194925:=()
def tw9917938663794604973:=()
def tw14565597993251077596:=()
def tw8422788060637510417:=()
def tw1778806906918401196:=()
def tw10684457439136170259:=()
def tw162384167045601696:=()
def tw13362700988542962375:=()
def tw16451563696887956353:=()
def tw2681100722094788721:=()
def tw5993457163226186039:=()
def tw10111204382157515841:=()
def tw3995089217971418391:=()
def tw5842470519852156242:=()
def tw957814165173088473:=()
def tw189596456548562029:=()
def tw9861836933116521559:=()
def tw10340541687776304862:=()
def tw13086271515341221029:=()
def tw1231089879309183663:=()
def tw7491648311419688052:=()
def tw11625427622664102835:=()
def tw9459099122175903857:=()
def tw17702871897299150106:=()
def tw3944025083392351462:=()
def tw8954491527393626529:=()
def tw13918262115053414919:=()
def tw16930431614107573319:=()
def tw13141282305210889135:=()
def tw11349056651102271884:=()
def tw3492258520859322909:=()
def tw1086447128146887095:=()
def tw16895125707571145951:=()
def tw11004351830250122873:=()
def tw13743697163602053820:=()
def tw9250829867896431617:=()
def tw16015350416914151528:=()
def tw5047536257062490743:=()
def tw17287650698306487964:=()
def tw15114336438526390273:=()
def tw176939574707976975:=()
def tw16468896356101745068:=()
def tw8155075095510654025:=()
def tw17592801091653629628:=()
def tw13591619654381232157:=()
def tw3083585781708063639:=()
def tw3928885281497446710:=()
def tw3304053683432224023:=()
def tw245122673725839996:=()
def tw4072963290219327494:=()
def tw1814008326284983124:=()
def tw17729441567381191239:=()
def tw628072430802463659:=()
def tw8115006930272317528:=()
def tw12755364540469475768:=()
def tw1136219850659041475:=()
def tw18269791956580234340:=()
def tw16121536409517527141:=()
def tw9408689729618498140:=()
def tw5995955517076127588:=()
def tw15938528567490594941:=()
def tw3501781890732646321:=()
def tw6846809528734829706:=()
def tw8335018912274022063:=()
def tw3771998977335101843:=()
def tw8108781925072180331:=()
def tw89350049967208365:=()
def tw5112649168670588985:=()
def tw1933387733836645643:=()
def tw15197930474863811698:=()
def tw948882518316556436:=()
def tw18264315269498537365:=()
def tw11043872578379362209:=()
def tw9881606245689861430:=()
def tw17473892143274213878:=()
def tw7039816891972450841:=()
def tw11879387057440441345:=()
def tw4118088332777642783:=()
def tw16845660247652340298:=()
def tw9368575059587883895:=()
def tw12359857995158212761:=()
def tw1211482938402832083:=()
def tw17979270797890962652:=()
def tw14633077199688616676:=()
def tw14241437871860351699:=()
def tw3962158842527604904:=()
def tw17873456581001324679:=()
def tw12045934566044739939:=()
def tw11672856454661953763:=()
def tw7164769424506723234:=()
def tw563139657171951972:=()
def tw16771494330721762451:=()
def tw13114923462508013635:=()
def tw9268463463826533961:=()
def tw16921340455901101842:=()
def tw17230122244868897854:=()
def tw17466091956277969243:=()
def tw16667220715166887454:=()
def tw13521231933448252644:=()
def tw5211209350036488019:=()
def tw14627976754536245506:=()
def tw5825029290976259137:=()
def tw17876716568886308163:=()
def tw778901504704377521:=()
def tw12374335679832423830:=()
def tw14606764116635923140:=()
def tw13122244984125875148:=()
def tw13139194346647796006:=()
def tw8368693107904732544:=()
def tw6395767104262601537:=()
def tw15969181543245331520:=()
def tw94740048653644532:=()
def tw158629860126262743:=()
def tw3091425575733124085:=()
def tw9252965733504388556:=()
def tw3709505260737794861:=()
def tw3824826974105809709:=()
def tw14133531308217692593:=()
def tw14633358520501365335:=()
def tw3239398965484916730:=()
def tw12174697166526741358:=()
def tw12941304631414111950:=()
def tw5910079976250424647:=()
def tw15589387095877419273:=()
def tw5943330761108873250:=()
def tw4645142009458726269:=()
def tw9575726962017237872:=()
def tw5031586783388597870:=()
def tw14451602886438909279:=()
def tw15271156667781583137:=()
def tw3219235262880194081:=()
def tw8554680097570132928:=()
def tw16394690953892291364:=()
def tw17535407038219288770:=()
def tw5074771318855188443:=()
def tw16828348306252197112:=()
def tw9344840656558286444:=()
def tw7034908115355890282:=()
def tw7364484009237808355:=()
def tw365419139086058163:=()
def tw11674209399207425309:=()
def tw5033899538163223439:=()
def tw8626742751106535870:=()
def tw45668435305254512:=()
def tw6564532691828523652:=()
def tw17165272965675088833:=()
def tw1300490675254934021:=()
def tw16982452611534623408:=()
def tw8244419923836953466:=()
def tw11081458843524029996:=()
def tw8235806003425890806:=()
def tw15818240526506549058:=()
def tw9649768517419094060:=()
def tw1040945532234120365:=()
def tw15850367034062287710:=()
def tw11554920654184515829:=()
def tw13366164484100045009:=()
def tw6382040797656020702:=()
def tw3378644413475509445:=()
def tw3245189533725367012:=()
def tw16376978817189362483:=()
def tw2157014482311677015:=()
def tw2993445147068173134:=()
def tw4476513016125717328:=()
def tw731774649946378333:=()
def tw13534552965177552946:=()
def tw5033237393962443283:=()
def tw9008246181806231146:=()
def tw5883784287133284397:=()
def tw17547086449643683618:=()
def tw8340740290254180427:=()
def tw1899254980252683560:=()
def tw7912883821226850387:=()
def tw8134300992158975559:=()
def tw7419676206979245126:=()
def tw14524128539066035080:=()
def tw14827035473914374363:=()
def tw4509532967839892735:=()
def tw7421612781914885047:=()
def tw9165159050247246959:=()
def tw11290795978216107066:=()
def tw15141645279734728390:=()
def tw6089214626760371705:=()
def tw14073393393368858246:=()
def tw5848303210626285085:=()
def tw16156098123434021587:=()
def tw7541438055395090066:=()
def tw14062046278301666095:=()
def tw6292696049269968464:=()
def tw12153021156765475461:=()
def tw3687628887612807376:=()
def tw5562610054791898798:=()
def tw8064912967407594422:=()
def tw7621206455347389727:=()
def tw9801888388520746855:=()
def tw12577269473134343661:=()
def tw8929694267215804985:=()
def tw4982216417928511955:=()
def tw11045726357126986223:=()
def tw14046859315889363334:=()
def tw5261103676862369151:=()
def tw7377153345726635723:=()
def tw5420919611044761569:=()
def tw13199971931685270007:=()
def tw662608814827197198:=()
def tw16165166249832799030:=()
def tw4864496110796520838:=()
def tw10401384688940496236:=()
def tw1363429696475742345:=()
def tw11622576962118823980:=()
def tw16930084320427200885:=()
def tw6270156787106094763:=()
def tw14246700576207826956:=()
def tw11386078564728730767:=()
def tw9477808948482209106:=()
def tw12985217134585920372:=()
def tw3377750601503832122:=()
def tw6754781833539736894:=()
def tw9980004460199656568:=()
def tw2815503334630752386:=()
def tw15959517193791454467:=()
def tw6989571317028012296:=()
def tw2713903896959344941:=()
def tw6412709640949968123:=()
def tw9325944285000011340:=()
def tw14483913733776338505:=()
def tw6707834045181129179:=()
def tw16449234195795842133:=()
def tw9617238035391249012:=()
def tw171811723177318981:=()
def tw2148346843811221601:=()
def tw5147919967894641617:=()
def tw17092826397770161057:=()
def tw306590839251700103:=()
def tw14682554548944600344:=()
def tw10776856320350867064:=()
def tw1907901761637754304:=()
def tw11700489693639344335:=()
def tw458087875493089652:=()
def tw4548939628365660593:=()
def tw24194305569048415:=()
def tw11773670817174727652:=()
def tw4106022417862070151:=()
def tw9946922173755711161:=()
def tw5736492873872143817:=()
def tw12789625347853978632:=()
def tw14080421237943862270:=()
def tw1407257737716931704:=()
def tw2361343298273733866:=()
def tw94830871833582165:=()
def tw9124773837537793743:=()
def tw17493098004850232262:=()
def tw4676039857641627781:=()
def tw2763615454898825701:=()
def tw5155378057539026720:=()
def tw18294912393869517002:=()
def tw10258034397825416814:=()
def tw296529855486233746:=()
def tw7604771852207345601:=()
def tw13020592500167985453:=()
def tw9797481850358127138:=()
def tw16238544999015730430:=()
def tw11775471528841762718:=()
def tw11422795251987191873:=()
def tw9303784347915763206:=()
def tw7041076218818810511:=()
def tw3958344170451912568:=()
def tw9273310590725121440:=()
def tw11031412444783218221:=()
def tw6885255992952103152:=()
def tw5067164050011309079:=()
def tw6921635146260388532:=()
def tw4480624297164254858:=()
def tw1633935915763627243:=()
def tw3901009823883337628:=()
def tw13890534513451777072:=()
def tw16774642467914542809:=()
def tw17459092345416484210:=()
def tw15342364868365057186:=()
def tw11135730157008297730:=()
def tw5234702684179459641:=()
def tw10882255175002564586:=()
def tw15309045171655488043:=()
def tw8715235144504606659:=()
def tw1560366618353926075:=()
def tw16603398042189182296:=()
def tw14111254332202607047:=()
def tw2647857905605666121:=()
def tw3980116194626979448:=()
def tw14574351092333745522:=()
def tw6012502990222636304:=()
def tw7814168423327478314:=()
def tw11630347626308552393:=()
def tw8940409916224999360:=()
def tw5438372590996084696:=()
def tw6749777251631678576:=()
def tw2253207588968841584:=()
def tw3709960593083364046:=()
def tw11912012431762717685:=()
def tw15366594804668740680:=()
def tw5274057446704466381:=()
def tw5222023737961811621:=()
def tw15250145128237638597:=()
def tw6252136805505729226:=()
def tw14673167579875684304:=()
def tw400058958242460900:=()
def tw10991494612890091893:=()
def tw466287608708171721:=()
def tw374998779687479612:=()
def tw1449665087303579792:=()
end PySem.W.Fast
set_option maxRecDepth 100000 in
set_option maxHeartbeats 0 in
theorem PySem.Challenge.cw_fleetpath_k51_sheet_holds : PySem.Challenge.rw_fleetpath_k51_sheet.Holds := by
 w_on;o_law;k_head;(case hw=>w_witness2)
 k_fill
 refine K51.walk (l:=PySem.Challenge.rw_fleetpath_k51_sheet) rfl rfl (λw h Y=>PySem.W.km_in_of Y) rfl ?F
 case F=>
  intro w mg fa h KX G hmg;refine' K51.all_mk KX G hmg ?_ ?_ ?_ ?_ ?_ ?_ ?_ ?_ ?_ ?_ ?_ ?_ ?_ ?_ ?_ ?_ ?_ ?_ ?_ ?_ ?_ ?_ ?_ ?_ ?_ ?_ ?_ ?_ ?_ ?_ ?_ ?_ ?_ ?_ ?_ ?_ ?_ ?_ ?_ ?_ ?_ ?_ ?_ ?_ ?_ ?_ ?_ ?_ ?_ ?_ ?_ ?_ ?_ ?_ ?_ ?_ ?_ ?_ ?_ ?_ ?_ ?_ ?_ ?_ ?_ ?_ ?_ ?_ ?_ ?_ ?_ ?_ ?_ ?_ ?_ ?_ ?_ ?_ ?_ ?_ ?_ ?_ ?_ ?_ ?_ ?_ ?_ ?_ ?_ ?_ ?_ ?_ ?_ ?_ ?_ ?_ ?_ ?_ ?_ ?_ ?_ ?_ ?_ ?_ ?_ ?_ ?_ ?_ ?_ ?_ ?_ ?_ ?_ ?_ ?_ ?_ ?_ ?_ ?_ ?_ ?_ ?_ ?_ ?_ ?_ ?_ ?_ ?_ ?_ ?_ ?_ ?_ ?_ ?_ ?_ ?_ ?_ ?_ ?_ ?_ ?_ ?_ ?_ ?_ ?_ ?_ ?_ ?_ ?_ ?_ ?_ ?_ ?_ ?_ ?_ ?_ ?_ ?_ ?_ ?_ ?_ ?_ ?_ ?_ ?_ ?_ ?_ ?_ ?_ ?_ ?_ ?_ ?_ ?_ ?_ ?_ ?_ ?_ ?_ ?_ ?_ ?_ ?_ ?_ ?_ ?_ ?_ ?_ ?_ ?_ ?_ ?_ ?_ ?_ ?_ ?_ ?_ ?_ ?_ ?_ ?_ ?_ ?_ ?_ ?_ ?_ ?_ ?_ ?_ ?_ ?_ ?_ ?_ ?_ ?_ ?_ ?_ ?_ ?_ ?_ ?_ ?_ ?_ ?_ ?_ ?_ ?_
  all_goals try(first|((first|refine'⟨?_,L2.Ee ?_ ?_ ?_⟩|refine' L2.Ee ?_ ?_ ?_|refine' K51.MD ?_ ?_ ?_ ?_ ?_)<;>try first|k_is|kernel_rfl)|(show _=_;first|k_is|kernel_rfl)|(first|refine⟨?_,?_,?_,?_,?_⟩|refine⟨?_,?_,?_,?_⟩|refine⟨?_,?_,?_⟩)<;>first|k_is|kernel_rfl)
  all_goals try(refine K51.IsE.mk ?_;first|k_is|rfl)
#print axioms PySem.Challenge.cw_fleetpath_k51_sheet_holds
