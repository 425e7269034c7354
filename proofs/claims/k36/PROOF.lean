import PyProof.Rows.All
import Wide.All
import OpenK.AllK
import Wide.FinOn
import Lean
import PyProof.EqAt
import PyProof.EqKinds
import PyProof.TupleCall
import PySem.Challenge.RW_rootcourt_k36_a_name_taken_out
set_option maxHeartbeats 4000000
set_option Elab.async false
set_option linter.all false
set_option compiler.extract_closed false
local macro_rules|`(tactic|omega)=>`(tactic|lia)
open PyProof.Rows (boot_all boot_any boot_bool boot_dict boot_divmod boot_int boot_list boot_max boot_sorted boot_str boot_tuple callWith_kw kws_cons kws_nil)
open List (Nodup Pairwise Perm all_map cons_append filter_map length length_set lookup map_drop map_id map_take nil_append nodup_append nodup_range not_mem_nil of_mem_zip range' range'_succ range_succ reverse reverse_cons toArray zipIdx_cons)
open PySem.W (CodeHd Frag InstAt cellsFrom_some clsIn excIn findIn hideAll hideAll_get instObj isFn kIn_of kcp_self ke_canLayAll0 ke_depthAll keepIn kitOne kitx_dict kitx_list kitx_tuple lookIn methodObj mg_of mroIn of_hideAll plainGet specialIn subIn)
open Option (getD_none getD_some)
open Nat (lt_or_ge lt_trans sub_self)
open PySem.F (entry_dict_get slot_dict_pop slot_list_pop type_list_pop)
open Int (le_trans toNat)
set_option maxRecDepth 100000
abbrev aA:=@PySem.wpAny_bind
abbrev aB:=@List.length_map
abbrev aC:=@PySem.Heap.get?_push_of_some
abbrev aD:=@List.mem_map
abbrev aE:=@PySem.wpAny_pure
abbrev aF:=@if_neg
abbrev aG:=@List.getElem?_eq_getElem
abbrev aH:=@Nat.le_refl
abbrev aI:=@if_pos
abbrev aJ:=@List.map_append
abbrev aK:=@List.map_map
abbrev aL:=@List.length_append
abbrev aM:=@PySem.Heap.lt_size
abbrev aN:=@PySem.Heap.get?_push_size
abbrev aO:=@Nat.le_trans
abbrev aP:=@List.getD_eq_getElem?_getD
abbrev aQ:=@List.mem_cons
abbrev aR:=@List.size_toArray
abbrev aS:=@List.mem_singleton
abbrev aU:=@List.map_cons
abbrev aV:=@Nat.ne_of_lt
abbrev aW:=@List.eq_nil_of_length_eq_zero
abbrev aX:=@List.pairwise_append
abbrev aY:=@Bool.false_ne_true
abbrev aZ:=@List.getElem?_map
abbrev bC:=@List.pairwise_map
abbrev bD:=@List.mem_append_left
abbrev bE:=@Option.some.inj
abbrev bG:=@List.mem_append
abbrev bH:=@Nat.lt_of_lt_of_le
abbrev bI:=@List.mem_append_right
abbrev bJ:=@Array.length_toList
abbrev bK:=@congrArg
abbrev bL:=@List.getElem?_eq_some_iff
abbrev bO:=@Nat.zero_le
abbrev bP:=@Nat.lt_succ_of_lt
abbrev bQ:=@List.mem_filter
abbrev bR:=@List.map_congr_left
abbrev bS:=@Nat.mul_le_mul_right
abbrev bT:=@List.length_take
abbrev bU:=@List.length_cons
abbrev bV:=@List.pairwise_iff_getElem
abbrev bX:=@PySem.PassesOwn.never
abbrev bY:=@PySem.W.mg_none_of
abbrev bZ:=@decide_eq_false
abbrev cB:=@List.filter_cons_of_neg
abbrev cC:=@List.getElem?_eq_none_iff
abbrev cD:=@decide_eq_true
abbrev cE:=@List.getElem_mem
abbrev cG:=@PySem.wpAny_newObj_type
abbrev cH:=@of_decide_eq_true
abbrev cI:=@boot_tuple
abbrev cJ:=@List.filter_cons_of_pos
abbrev cK:=@List.append_assoc
abbrev cM:=@Bool.and_eq_true
abbrev cN:=@PySem.wpAny_call_entry
abbrev cO:=@List.mem_cons_of_mem
abbrev cP:=@List.append_nil
abbrev cQ:=@List.pairwise_cons
abbrev cR:=@List.getElem?_append_right
abbrev cS:=@Ne.symm
abbrev cT:=@PySem.wpAny_mono
abbrev cU:=@PySem.wpAny_callSpecial?_slot
abbrev cV:=@PyProof.Rows.boot_isinstance
abbrev cW:=@List.mem_reverse
abbrev cX:=@List.length_range
abbrev cY:=@Nat.lt_of_le_of_lt
abbrev cZ:=@List.nodup_cons
abbrev dC:=@PySem.boot_len
abbrev dD:=@Nat.lt_irrefl
abbrev dE:=@PySem.wpAny_field
abbrev dF:=@PySem.wpAny_setField_rec
abbrev dG:=@List.lookup_cons
abbrev dH:=@List.take_append_drop
abbrev dJ:=@List.length_singleton
abbrev dM:=@List.length_filter_le
abbrev dO:=@PySem.Heap.size_push
abbrev dP:=@PySem.wpAny_holding
abbrev dQ:=@PyProof.Rows.slot_tuple_getitem
abbrev dR:=@List.mem_of_getElem?
abbrev dS:=@List.getElem?_append
abbrev dU:=@PySem.W.kia_one
abbrev dX:=@List.length_nil
abbrev dY:=@Int.mul_le_mul_of_nonneg_right
abbrev dZ:=@PySem.wpAny_seqItems
abbrev eA:=@List.length_pos_iff
abbrev eC:=@Array.getElem?_toList
abbrev eD:=@List.mem_range
abbrev eE:=@List.mem_cons_self
abbrev eF:=@PySem.F.plainAttrs_list
abbrev eG:=@PySem.sizeLine_eq
abbrev eI:=@Nat.ne_of_gt
abbrev eJ:=@Nat.le_of_eq
abbrev eK:=@Int.zero_add
abbrev eN:=@Array.getElem?_eq_getElem
abbrev eO:=@Perm.append_left
abbrev eQ:=@PySem.Heap.get?_update_other
abbrev eR:=@Nat.le_of_lt
abbrev eS:=@Classical.em
abbrev eT:=@List.getElem?_cons_zero
abbrev eU:=@Int.toNat_natCast
abbrev eV:=@PySem.F.slot_dict_itemiterator_next
abbrev eW:=@PyProof.Rows.callWith_type1
abbrev eY:=@List.take_of_length_le
abbrev fA:=@Int.add_comm
abbrev fB:=@Nat.add_assoc
abbrev fC:=@PySem.Heap.get?_push_ne
abbrev fD:=@PySem.F.slot_dict_keyiterator_next
abbrev fE:=@List.filter_append
abbrev fF:=@Bool.false_eq_true
abbrev fG:=@Nat.le_of_ble_eq_true
abbrev fH:=@PySem.Calls.callWith_builtin
abbrev fI:=@Nat.le_antisymm
abbrev fJ:=@Sum.inl.inj
abbrev fK:=@Nat.succ_mul
abbrev fL:=@Nat.pow_le_pow_right
abbrev fM:=@Int.add_zero
abbrev fN:=@PySem.Heap.get?_update_self
abbrev fO:=@PySem.F.type_list_append
abbrev fP:=@PySem.F.slot_list_append
abbrev fQ:=@List.length_reverse
abbrev fR:=@PySem.wpAny_truthy_bool
abbrev fS:=@Nat.mul_le_mul
abbrev fT:=@List.take_length
abbrev fU:=@List.pairwise_singleton
abbrev fV:=@Nat.le_succ
abbrev fW:=@Nat.pos_of_ne_zero
abbrev fX:=@PySem.wpAny_typeNameOfWhole_itemiter
abbrev fY:=@if_false
abbrev fZ:=@PySem.F.plain_max_loop
abbrev gA:=@boot_max
abbrev gB:=@boot_all
abbrev gC:=@List.pairwise_reverse
abbrev gD:=@List.getElem?_eq_none
abbrev gE:=@Pairwise.and_mem
abbrev gF:=@PySem.wpAny_typeNameOfWhole_keyiter
abbrev gG:=@if_true
abbrev gH:=@Int.emod_eq_of_lt
abbrev gI:=@Int.add_mul_emod_self_right
abbrev gJ:=@Function.comp_def
abbrev gK:=@PySem.wpAny_passesOwn
abbrev gL:=@PySem.wpAny_attempt
abbrev gO:=@Nat.zero_add
abbrev gP:=@List.mem_flatMap
abbrev gQ:=@List.all_eq_true
abbrev gR:=@Array.toList_inj
abbrev gS:=@PySem.wpAny_pyIter_list
abbrev gT:=@PySem.wpAny_dictEntries
abbrev gU:=@List.drop_eq_getElem_cons
abbrev gW:=@PySem.mem_of_lookup
abbrev gX:=@List.any_cons
abbrev gY:=@PySem.F.slot_tuple_iterator_next
abbrev gZ:=@PySem.Around.under_plainId
abbrev hG:=@List.forIn_cons
abbrev hU:=@List.find?_cons
abbrev hV:=@Bool.eq_iff_iff
abbrev hX:=@Nat.lt_or_gt_of_ne
abbrev iA:=@PySem.wpAny_typeNameOf_itemiter
abbrev iB:=@PySem.F.slot_dict_items
abbrev iC:=@PySem.F.plainAttrs_dict
abbrev iD:=@PySem.Heap.SameBut.update
abbrev iE:=@PySem.wpAny_typeNameOf_keyiter
abbrev iF:=@Option.map_eq_some_iff
abbrev iG:=@Nat.pow_succ
abbrev iH:=@List.take_succ
abbrev iI:=@List.getElem_take
abbrev iJ:=@Perm.append_right
abbrev iK:=@Int.ediv_eq_zero_of_lt
abbrev iL:=@PySem.F.slot_list_getattribute
abbrev iM:=@PySem.wpAny_dictEpoch
abbrev iN:=@PySem.wpAny_letGo
abbrev iO:=@List.perm_append_comm
abbrev iP:=@List.contains_iff_mem
abbrev iQ:=@Nat.lt_succ_self
abbrev iR:=@Nat.le_of_not_lt
abbrev iS:=@Nat.le_add_right
abbrev iT:=@List.length_drop
abbrev iU:=@List.getElem_map
abbrev iV:=@List.any_eq_true
abbrev iW:=@mg_of
abbrev iX:=@Prod.mk.injEq
abbrev iY:=@List.all_cons
abbrev iZ:=@Int.mul_assoc
abbrev jA:=@PySem.wpAny_tryCatch
abbrev jB:=@Nat.add_le_add_right
abbrev jC:=@List.reverse_reverse
abbrev jD:=@List.getElem?_set_ne
abbrev jE:=@Int.mul_one
abbrev jF:=@Nat.min_eq_left
abbrev jG:=@List.dropLast_concat_getLast
abbrev jH:=@beq_eq_false_iff_ne
abbrev jI:=@List.flatMap_append
abbrev jJ:=@List.filter_sublist
abbrev jK:=@Int.toNat_of_nonneg
abbrev jL:=@PySem.wpAny_rule
abbrev jM:=@Nat.add_comm
abbrev jN:=@List.map_nil
abbrev jO:=@PySem.Heap.size_update
abbrev jP:=@PySem.Paired.length
abbrev jQ:=@Option.isSome_some
abbrev jR:=@List.forIn_nil
abbrev jS:=@Perm.refl
abbrev jT:=@Int.natAbs_mul
abbrev jU:=@PySem.Heap.get?_push_cases
abbrev jV:=@PySem.codeAny_builtin
abbrev jW:=@List.getElem?_append_left
abbrev jX:=@Classical.byContradiction
abbrev jY:=@Option.some.injEq
abbrev jZ:=@Nat.pow_add
abbrev kA:=@List.reverse_perm
abbrev kB:=@Int.add_mul
abbrev kC:=@PySem.F.args_tuple_add_2
abbrev kD:=@PyProof.noPylong_of_log2
abbrev kE:=@boot_sorted
abbrev kF:=@List.cons.inj
abbrev kG:=@PySem.wpAny_setField
abbrev kH:=@PySem.wpAny_pyIter_tuple
abbrev kJ:=@PySem.wpAny_Call_Name_kw
abbrev kK:=@decide_eq_decide
abbrev kL:=@PySem.F.entry_tuple_add
abbrev kM:=@PySem.Obj.data_mapFields
abbrev kN:=@List.length_eq_zero_iff
abbrev kO:=@List.filter_cons
abbrev kP:=@List.ext_getElem
abbrev kQ:=@PySem.Calls.spliced_cons
abbrev kR:=@PySem.F.slot_tuple_add
abbrev kT:=@List.getElem?_set_self
abbrev kU:=@Int.add_mul_ediv_right
abbrev kW:=@PySem.wpAny_Call_method
abbrev kX:=@PySem.Value.isInt_shape
abbrev kY:=@Option.map_some
abbrev lA:=@List.foldl_cons
abbrev lB:=@Int.mul_ne_zero
abbrev lC:=@PySem.plainId_quiet
abbrev lD:=@PySem.F.slot_dict_get
abbrev lE:=@PySem.wpAny_isInstance
abbrev lF:=@PySem.intBits_le_iff
abbrev lG:=@Int.mul_nonneg
namespace L2
open PySem PySem.Spec PyProof.Rows
noncomputable abbrev Key:=Sum Int Str
noncomputable def Xi:Key->Value->Bool
 | .inl k,v=>Value.isInt k v
 | .inr x,v=>Value.isStrOf x v
noncomputable def Apv (w:World):Key->Int
 | .inl k=>hashInt k
 | .inr x=>hashStr w x
theorem Dj:∀ {k:Key}{v:Value},Xi k v=true->(∃i t,k=Sum.inl i/\v=Value.int i t)\/(∃x t,k=Sum.inr x/\v=Value.str x t)
 | .inl i,v,h=>by
   obtain⟨t,e⟩:=kX (k:=i) (v:=v) h
   exact .inl ⟨i,t,rfl,e⟩
 | .inr x,v,h=>by
   obtain⟨t,e⟩:=Value.isStrOf_shape (x:=x) (v:=v) h
   exact .inr ⟨x,t,rfl,e⟩
theorem Aad (i:Int) (t:Tok):Xi (.inl i) (.int i t)=true:=by simp [Xi,Value.isInt]
theorem Aae (x:Str) (t:Tok):Xi (.inr x) (.str x t)=true:=by simp [Xi,Value.isStrOf]
theorem Ai5 (a b:Int):decide ((Sum.inl a:Key)=Sum.inl b)=(a==b):=by
 by_cases e:a=b
 . subst e;simp
 . have h:¬(Sum.inl a:Key)=Sum.inl b:=fun q=>e (fJ q)
   rw [bZ h]
   exact(jH.mpr e).symm
theorem Ai8 (a b:Str):decide ((Sum.inr a:Key)=Sum.inr b)=decide (a=b):=by
 by_cases e:a=b
 . subst e;simp
 . have h:¬(Sum.inr a:Key)=Sum.inr b:=fun q=>e (Sum.inr.inj q)
   rw [bZ h,bZ e]
theorem Ai6 (a:Int) (b:Str):decide ((Sum.inl a:Key)=Sum.inr b)=false:=bZ (fun q=>nomatch q)
theorem Ai7 (a:Str) (b:Int):decide ((Sum.inr a:Key)=Sum.inl b)=false:=bZ (fun q=>nomatch q)
noncomputable def Bs (prog:Program) (w:World):PySem.KeyKind prog w Key where
 is:=Xi
 hash:=Apv w
 inj:=fun v a b ha hb=>by
  rcases Dj ha with⟨i,t,rfl,rfl⟩ | ⟨x,t,rfl,rfl⟩
  . rcases Dj hb with⟨j,u,rfl,e⟩ | ⟨y,u,rfl,e⟩
    . injection e with e1 _;rw [e1]
    . exact nomatch e
  . rcases Dj hb with⟨j,u,rfl,e⟩ | ⟨y,u,rfl,e⟩
    . exact nomatch e
    . injection e with e1 _;rw [e1]
 byValue:=fun k v h=>by
  rcases Dj h with⟨i,t,rfl,rfl⟩ | ⟨x,t,rfl,rfl⟩<;>rfl
 pyHash:=fun hv h=>by
  rcases Dj hv with⟨i,t,rfl,rfl⟩ | ⟨x,t,rfl,rfl⟩
  . exact wpAny_pyHash_int h
  . exact wpAny_pyHash_str h
 eqBool:=fun hu hv h=>by
  rcases Dj hu with⟨i,t,rfl,rfl⟩ | ⟨x,t,rfl,rfl⟩
  . rcases Dj hv with⟨j,u,rfl,rfl⟩ | ⟨y,u,rfl,rfl⟩
    . rw [Ai5]at h;exact wpAny_eqBool_int h
    . rw [Ai6]at h;exact SeqAt.EqAt.int_str i t y u _ _ _ _ h
  . rcases Dj hv with⟨j,u,rfl,rfl⟩ | ⟨y,u,rfl,rfl⟩
    . rw [Ai7]at h;exact SeqAt.EqAt.str_int x t j u _ _ _ _ h
    . rw [Ai8]at h;exact wpAny_eqBool_str h
 «strs» :=fun k x t v h=>by
  rcases Dj h with⟨i,u,rfl,e⟩ | ⟨y,u,rfl,e⟩
  . exact nomatch e
  . injection e with e1 _
    subst e1
    cases v<;>rfl
theorem Um (prog:Program) (w:World) (i:Int) (t:Tok):(Bs prog w).is (.inl i) (.int i t)=true:=Aad i t
theorem Uo (prog:Program) (w:World) (x:Str) (t:Tok):(Bs prog w).is (.inr x) (.str x t)=true:=Aae x t
inductive V where
 | non | bl (b:Bool) | int (i:Int) | str (x:Str) | byt (b:Array UInt8) | flt (b:UInt64) | ref (a:Addr) | ty (n:String)
 deriving DecidableEq
noncomputable def RelV:V->Value->Prop
 | .non,u=>u=Value.none
 | .bl b,u=>u=Value.bool b
 | .int i,u=>∃t,u=Value.int i t
 | .str x,u=>∃t,u=Value.str x t
 | .byt b,u=>∃t,u=Value.bytes b t
 | .flt b,u=>∃t,u=Value.float b t
 | .ref a,u=>u=Value.ref a
 | .ty n,u=>u=Value.type n
noncomputable abbrev Vals:List V->List Value->Prop:=Paired RelV
theorem Vals.length {xs:List V}{us:List Value} (r:Vals xs us):xs.length=us.length:=jP r
theorem Vals.get:∀ {xs:List V}{us:List Value}{i:Nat}{x:V},Vals xs us->xs[i]? =some x->∃u,us[i]? =some u/\RelV x u
 | _,_,_,_,.nil,e=>by simp at e
 | _,_,0,_,.cons r _,e=>by simp at e;subst e;exact⟨_,rfl,r⟩
 | _,_,i+1,x,.cons _ t,e=>by
   obtain⟨u,h1,h2⟩:=Vals.get (i:=i) (x:=x) t (by simpa using e)
   exact⟨u,by simpa using h1,h2⟩
theorem Vals.set {x:V}{u:Value} (r:RelV x u):∀ {xs:List V}{us:List Value} (i:Nat),Vals xs us->Vals (xs.set i x) (us.set i u)
 | _,_,_,.nil=> .nil
 | _,_,0,.cons _ t=> .cons r t
 | _,_,i+1,.cons q t=> .cons q (Vals.set r i t)
theorem Vals.append:∀ {xs ys:List V}{us q:List Value},Vals xs us->Vals ys q->Vals (xs++ys) (us++q)
 | _,_,_,_,.nil,s=>s
 | _,_,_,_,.cons r t,s=> .cons r (Vals.append t s)
theorem Vals.take:∀ {xs:List V}{us:List Value} (n:Nat),Vals xs us->Vals (xs.take n) (us.take n)
 | _,_,0,_=> .nil
 | _,_,_+1,.nil=> .nil
 | _,_,n+1,.cons r t=> .cons r (Vals.take n t)
theorem Vals.drop:∀ {xs:List V}{us:List Value} (n:Nat),Vals xs us->Vals (xs.drop n) (us.drop n)
 | _,_,0,r=>r
 | _,_,_+1,.nil=> .nil
 | _,_,n+1,.cons _ t=>Vals.drop n t
noncomputable def Vi:Option V->Option Value->Prop
 | some v,some u=>RelV v u
 | none,none=>True
 | _,_=>False
noncomputable def KV {κ:Type}:List (κ × V)->List (κ × Value)->Prop:=Paired fun(p:κ × V) (q:κ × Value)=>p.1=q.1/\RelV p.2 q.2
noncomputable def kV:Key->V
 | .inl i=> .int i
 | .inr x=> .str x
inductive HO where
 | lst (xs:List V)
 | tup (xs:List V)
 | dK (kvs:List (Key × V)) | dT (kvs:List (List Key × V))
 | set (S:Int->Bool) (n:Nat)
 | ins (C dx:Addr) (fs:List (Str × V))
 | own (x:Addr)
 | xd (fs:List (Str × V))
 | met (f x:Addr)
 | rng (lo hi:Int)
 | frz (o:Obj) (u:HO)
 | tbl (ps:Array Value)
 | ext (φ:Heap->Prop)
noncomputable abbrev Hp:=Addr->Option HO
noncomputable def upd (H:Hp) (a:Addr) (o:HO):Hp:=fun b=>if b=a then some o else H b
variable {H:Hp}{a:Addr}{o:HO}
theorem Ag:upd H a o a=some o:=by unfold upd;rw [aI rfl]
variable {b:Addr}
theorem Bm (h:b≠a):upd H a o b=H b:=by unfold upd;rw [aF h]
theorem Ih {u:HO} (h:H a=some o) (h':H b=some u) (d:o≠u):a≠b:=by
 intro e;subst e;rw [h]at h';exact d (bE h')
theorem Bg (h:H a=some o) (h':H b=none):a≠b:=by
 intro e;subst e;rw [h]at h';cases h'
section
variable (P:Program) (w:World)
noncomputable def Dk (H:Hp) (h:Heap) (a:Addr):HO->Prop
 | .lst xs=>xs.length<=sizeLine/\∃(its:List Value) (n:Nat),Vals xs its/\h.get? a=some { cls:= .type "list",data:= .seq its.toArray n}
 | .tup xs=>xs.length<=sizeLine/\∃its:List Value,Vals xs its/\IsTup h a its.toArray
 | .dK kvs=>kvs.length<=sizeLine/\(a==sysModules)=false/\∃vs,KV kvs vs/\h.DictOf (Bs P w) a vs
 | .dT kvs=>kvs.length<=sizeLine/\(a==sysModules)=false/\∃xs:List (List Key × Addr × Value),
    Paired (fun(p:List Key × V) (q:List Key × Addr × Value)=>p.1=q.1/\H q.2.1=some (.tup (p.1.map kV))/\RelV p.2 q.2.2) kvs xs/\
    ∃o es ep,h.get? a=some o/\o.ExactDict/\o.data= .dict es ep/\es.toList=xs.map (entryOfKey (tupleKind (Bs P w)))/\(xs.map (·.1)).Nodup
 | .set S n=>h.SetOf (intKind P w) a S n
 | .ins C dx fs=>H dx=some (.own a)/\fs.length<=1000/\dx≠a/\h.get? a=some (instObj C dx)/\
    ∃mA,h.Ns1 dx mA/\(∀f,Vi (fs.lookup f) (mA f))/\PySem.Within mA (fs.map (·.1))
 | .own _=>∃o,h.get? a=some o
 | .xd fs=>∃mA,h.Ns1 a mA/\∀f,Vi (fs.lookup f) (mA f)
 | .rng lo hi=>∃t u v,h.get? a=some { cls:= .type "range",data:= .fields #[.int lo t,.int hi u,.int 1 v]}
 | .frz o u=>h.get? a=some o/\Dk H h a u
 | .tbl ps=>h.get? a=some { cls:= .none,data:= .fields ps}
 | .met f x=>h.get? a=some (methodObj (.ref f) (.ref x))
 | .ext φ=>φ h/\(∃o,h.get? a=some o)/\∀h1 h2:Heap,φ h1->(∀o,h1.get? a=some o->h2.get? a=some o)->φ h2
noncomputable def HOk (H:Hp) (h:Heap):Prop:=∀a o,H a=some o->Dk P w H h a o
end
section
variable {P:Program}{w:World}{H H':Hp}{h h':Heap}{a:Addr}{o:HO}
theorem Dk.lt (x:Dk P w H h a o):a<h.objs.size:=by
 cases o with
 | lst xs=>obtain⟨_,_,_,_,e⟩:=x;exact aM e
 | tup xs=>obtain⟨_,_,_,p⟩:=x;exact p.lt
 | dK kvs=>obtain⟨_,_,_,_,o,_,_,e,_⟩:=x;exact aM e
 | dT kvs=>obtain⟨_,_,_,_,o,_,_,e,_⟩:=x;exact aM e
 | set S n=>obtain⟨o,_,_,_,e,_⟩:=x;exact aM e
 | ins C dx fs=>obtain⟨_,_,_,e,_⟩:=x;exact aM e
 | own y=>obtain⟨_,e⟩:=x;exact aM e
 | xd fs=>obtain⟨_,⟨_,_,_,e,_⟩,_⟩:=x;exact aM e
 | rng lo hi=>obtain⟨_,_,_,e⟩:=x;exact aM e
 | frz q u=>obtain⟨e,_⟩:=x;exact aM e
 | tbl ps=>exact aM (show h.get? a=some _ from x)
 | met f y=>exact aM (show h.get? a=some _ from x)
 | ext G=>obtain⟨_,⟨_,e⟩,_⟩:=x;exact aM e
theorem Paired.mapP {α β:Type}{F G:α->β->Prop}:∀ {q:List α}{J:List β},Paired F q J->(∀a b,F a b->G a b)->Paired G q J
 | _,_,.nil,_=> .nil
 | _,_,.cons r t,f=> .cons (f _ _ r) (Paired.mapP t f)
theorem Dk.stay (x:Dk P w H h a o) (k:∀b u,(b=a\/H b=some (.own a))->h.get? b=some u->h'.get? b=some u)
 (O:∀b,H b=some (.own a)->H' b=some (.own a)) (U:∀b xs,H b=some (.tup xs)->H' b=some (.tup xs)):Dk P w H' h' a o:=by
 induction o with
 | lst xs=>obtain⟨z,J,n,r,e⟩:=x;exact⟨z,J,n,r,k _ _ (.inl rfl) e⟩
 | tup xs=>obtain⟨z,J,r,G,e,c⟩:=x;exact⟨z,J,r,G,k _ _ (.inl rfl) e,c⟩
 | dK kvs=>obtain⟨z,y,Z,r,G,es,ep,e,c⟩:=x;exact⟨z,y,Z,r,G,es,ep,k _ _ (.inl rfl) e,c⟩
 | dT kvs=>
   obtain⟨z,y,xs,r,G,es,ep,e,c⟩:=x
   exact⟨z,y,xs,Paired.mapP r fun p q z=>⟨z.1,U _ _ z.2.1,z.2.2⟩,G,es,ep,k _ _ (.inl rfl) e,c⟩
 | set S n=>obtain⟨G,es,ep,t,e,c⟩:=x;exact⟨G,es,ep,t,k _ _ (.inl rfl) e,c⟩
 | ins C dx fs=>
   obtain⟨d,z,ne,e,L,⟨M,es,ep,e2,c⟩,r⟩:=x
   exact⟨O _ d,z,ne,k _ _ (.inl rfl) e,L,⟨M,es,ep,k _ _ (.inr d) e2,c⟩,r⟩
 | own y=>obtain⟨G,e⟩:=x;exact⟨G,k _ _ (.inl rfl) e⟩
 | xd fs=>obtain⟨L,⟨M,es,ep,e,c⟩,r⟩:=x;exact⟨L,⟨M,es,ep,k _ _ (.inl rfl) e,c⟩,r⟩
 | rng lo hi=>obtain⟨t,u,v,e⟩:=x;exact⟨t,u,v,k _ _ (.inl rfl) e⟩
 | frz G u ih=>obtain⟨e,q⟩:=x;exact⟨k _ _ (.inl rfl) e,ih q⟩
 | tbl ps=>
   have e:h.get? a=some { cls:= .none,data:= .fields ps}:=x
   show h'.get? a=some { cls:= .none,data:= .fields ps}
   exact k a _ (.inl rfl) e
 | met f y=>
   have e:h.get? a=some (methodObj (.ref f) (.ref y)):=x
   show h'.get? a=some (methodObj (.ref f) (.ref y))
   exact k a _ (.inl rfl) e
 | ext φ=>obtain⟨p,⟨o,e⟩,st⟩:=x;exact⟨st _ _ p fun o q=>k _ _ (.inl rfl) q,⟨o,k _ _ (.inl rfl) e⟩,st⟩
theorem HOk.lt (x:HOk P w H h) (e:H a=some o):a<h.objs.size:=(x a o e).lt
theorem HOk.fresh (x:HOk P w H h) (e:h.objs.size<=a):H a=none:=by
 cases q:H a with
 | none=>rfl
 | some u=>exact absurd (bH (x.lt q) e) (dD _)
theorem HOk.kept (x:HOk P w H h) (k:∀b u,h.get? b=some u->h'.get? b=some u):HOk P w H h':=fun a o e=>
 (x a o e).stay (fun b u _ q=>k b u q) (fun _ q=>q) fun _ _ q=>q
theorem HOk.laid (x:HOk P w H h) (k:∀b u,h.get? b=some u->h'.get? b=some u) (hp:h.objs.size<=a) (G:Dk P w (upd H a o) h' a o):HOk P w (upd H a o) h':=fun b u e=>by
 have J:=x.fresh hp
 by_cases L:b=a
 . subst L;rw [Ag]at e;cases e;exact G
 . rw [Bm L]at e
   exact(x b u e).stay (fun c v _ q=>k c v q) (fun c q=>by rw [Bm (Bg q J)];exact q) fun c xs q=>by rw [Bm (Bg q J)];exact q
end
noncomputable def Rd (H:Hp) (a:Addr) (u:HO):Prop:=H a=some u\/∃o,H a=some (.frz o u)
variable {P:Program}{w:World}{h:Heap}
theorem Rd.ok {u:HO} (r:Rd H a u) (x:HOk P w H h):Dk P w H h a u:=by
 rcases r with r | ⟨o,r⟩
 . exact x a u r
 . obtain⟨_,q⟩:=x a _ r
   exact q
noncomputable def Mut:Option HO->Prop
 | some (.lst _)=>True
 | some (.dK _)=>True
 | some (.dT _)=>True
 | some (.set _ _)=>True
 | some (.ins _ _ _)=>True
 | some (.ext _)=>True
 | _=>False
section
variable {P:Program}{w:World}{H:Hp}{h h':Heap}{x e:Addr}{o':HO}
theorem HOk.write (ok:HOk P w H h) (M:Mut (H x)) (he:e=x\/H e=some (.own x)) (k:∀b u,b≠e->h.get? b=some u->h'.get? b=some u) (W:∃u,h'.get? e=some u)
 (Z:Dk P w (upd H x o') h' x o'):HOk P w (upd H x o') h':=fun b u q=>by
 have J:∀c y,H c=some (.own y)->c≠x:=fun c y r z=>by subst z;rw [r]at M;exact M
 have L:∀c xs,H c=some (.tup xs)->c≠x:=fun c xs r z=>by subst z;rw [r]at M;exact M
 by_cases O:b=x
 . subst O;rw [Ag]at q;cases q;exact Z
 . rw [Bm O]at q
   by_cases G:b=e
   . have q':H b=some (.own x):=by
      rcases he with z | z
      . exact absurd (G.trans z) O
      . rw [G];exact z
     rw [q]at q';cases q'
     obtain⟨v,hv⟩:=W
     exact⟨v,by rw [G];exact hv⟩
   . refine(ok b u q).stay (fun c v U r=>k c v ?_ r) (fun c r=>by rw [Bm (J c b r)];exact r) fun c xs r=>by rw [Bm (L c xs r)];exact r
     rcases U with rfl | U
     . exact G
     . rintro rfl
       rcases he with z | z
       . exact J c b U z
       . rw [U]at z;cases z;exact O rfl
end
structure Un (fs ex:List Addr) (H H':Hp) (h h':Heap):Prop where
 keep:∀b o,h.get? b=some o->H b=none->b∉fs->b∉ex->h'.get? b=some o
 slot:∀b o,h.get? b=some o->H b=none->b∈fs->b∉ex->∃sl,h'.get? b=some { o with slots:=sl}
 free:∀b o,h.get? b=some o->H b=none->b∉ex->H' b=none
 there:∀b o,h.get? b=some o->b∉ex->∃o',h'.get? b=some o'
 tups:∀b xs,H b=some (.tup xs)->H' b=some (.tup xs)
 frzs:∀b o u,H b=some (.frz o u)->H' b=some (.frz o u)
 tbls:∀b ps,H b=some (.tbl ps)->∃more,H' b=some (.tbl (ps++more))
section
variable {fs fs' ex ex':List Addr}{H H1 H2:Hp}{h h1 h2 h':Heap}{a x e:Addr}{o:HO}
theorem Un.any (u:Un fs ex H H1 h h1) {G:Obj} (q:h.get? b=some G) (n:H b=none) (J:b∉ex):∃M,h1.get? b=some { G with slots:=M}:=by
 by_cases L:b∈fs
 . exact u.slot b G q n L J
 . exact⟨G.slots,u.keep b G q n L J⟩
theorem Un.trans (a:Un fs ex H H1 h h1) (b:Un fs ex H1 H2 h1 h2):Un fs ex H H2 h h2 where
 keep:=fun c G q n M J=>b.keep c G (a.keep c G q n M J) (a.free c G q n J) M J
 slot:=fun c G q n M J=>by
  obtain⟨sl,L⟩:=a.slot c G q n M J
  obtain⟨O,U⟩:=b.slot c _ L (a.free c G q n J) M J
  exact⟨O,U⟩
 free:=fun c G q n J=>by
  obtain⟨o',L⟩:=a.there c G q J
  exact b.free c o' L (a.free c G q n J) J
 there:=fun c G q J=>by
  obtain⟨o',L⟩:=a.there c G q J
  exact b.there c o' L J
 tups:=fun c xs q=>b.tups c xs (a.tups c xs q)
 frzs:=fun c G xs q=>b.frzs c G xs (a.frzs c G xs q)
 tbls:=fun c ps q=>by
  obtain⟨W,L⟩:=a.tbls c ps q
  obtain⟨Z,U⟩:=b.tbls c _ L
  exact⟨W++Z,by rw [U,Array.append_assoc]⟩
theorem Un.kept (k:∀b u,h.get? b=some u->h'.get? b=some u):Un fs ex H H h h':=
 ⟨fun b G q _ _ _=>k b G q,fun b G q _ _ _=>⟨G.slots,k b G q⟩,fun _ _ _ n _=>n,fun b G q _=>⟨G,k b G q⟩,fun _ _ q=>q,fun _ _ _ q=>q,fun _ ps q=>⟨#[],by rw [q];simp⟩⟩
theorem Un.refl:Un fs ex H H h h:=Un.kept fun _ _ q=>q
theorem Un.laid (k:∀b u,h.get? b=some u->h'.get? b=some u) (hp:h.objs.size<=a) (G:H a=none):Un fs ex H (upd H a o) h h' where
 keep:=fun b u q _ _ _=>k b u q
 slot:=fun b u q _ _ _=>⟨u.slots,k b u q⟩
 free:=fun b u q n _=>by rw [Bm (aV (bH (aM q) hp))];exact n
 there:=fun b u q _=>⟨u,k b u q⟩
 tups:=fun b xs q=>by rw [Bm (Bg q G)];exact q
 frzs:=fun b u xs q=>by rw [Bm (Bg q G)];exact q
 tbls:=fun b ps q=>⟨#[],by rw [Bm (Bg q G),q];simp⟩
theorem Un.write (J:Mut (H x)) (W:e=x\/H e=some (.own x)) (k:∀b u,b≠e->h.get? b=some u->h'.get? b=some u) (L:∃u,h'.get? e=some u):Un fs ex H (upd H x o) h h':=by
 have O:∀b,H b=none->b≠x:=fun b n z=>by subst z;rw [n]at J;exact J
 have U:∀b,H b=none->b≠e:=fun b n z=>by
  subst z
  rcases W with r | r
  . exact O b n r
  . rw [n]at r;cases r
 have M:∀b u,H b=some u->¬Mut (some u)->b≠x:=fun b u q nm z=>by subst z;rw [q]at J;exact nm J
 refine⟨fun b u q n _ _=>k b u (U b n) q,fun b u q n _ _=>⟨u.slots,k b u (U b n) q⟩,fun b u q n _=>by rw [Bm (O b n)];exact n,fun b u q _=> ?_,
  fun b xs q=>by rw [Bm (M b _ q fun z=>z)];exact q,fun b u xs q=>by rw [Bm (M b _ q fun z=>z)];exact q,fun b ps q=>⟨#[],by rw [Bm (M b _ q fun z=>z),q];simp⟩⟩
 by_cases G:b=e
 . subst G;exact L
 . exact⟨u,k b u G q⟩
end
noncomputable def trk (h:Heap) (H:Hp):List Addr:=(List.range h.objs.size).filter fun a=>(H a).isSome
noncomputable def Ade (h:Heap) (H:Hp):Heap:=hideAll h (trk h H)
theorem Z4 (h:Heap) (H:Hp):(Ade h H).objs.size=h.objs.size:=PySem.W.hideAll_size _ _
theorem Adf {o:Obj} (e:h.get? b=some o) (n:H b=none):(Ade h H).get? b=some o:=
 hideAll_get _ e fun G=>by
  have q:(H b).isSome=true:=(bQ.mp G).2
  rw [n]at q;simp at q
theorem Age {o:Obj} (e:(Ade h H).get? b=some o):h.get? b=some o/\H b=none:=by
 have G:h.get? b=some o:=of_hideAll (trk h H) e
 refine⟨G,?_⟩
 cases q:H b with
 | none=>rfl
 | some x=>
   have J:b∈trk h H:=bQ.mpr ⟨eD.mpr (aM G),by simp [q]⟩
   have z:(Ade h H).get? b=none:=PySem.W.hideAll_none (trk h H) J
   rw [z]at e;cases e
noncomputable def Afm (g h:Heap) (L:Addr):List (Addr × Obj):=(List.range h.objs.size).filterMap fun a=>if a=L\/(g.get? a).isSome=true then none else(h.get? a).map fun o=>(a,o)
noncomputable def rest (g h:Heap) (L d:Addr):List (Addr × Obj):=(Afm g h L).filter fun p=>decide (p.1≠d)
structure Mod (K:Frag) (mg:Str->Option Value) (base:Heap):Prop where
 kin:K.In base
 glob:base.Ns mainGlobals mg
 blt:∃mb,base.Ns builtinsNs mb/\∀x:Str,x≠"__name__"->mb x=bootBuiltins x
 nolimit:base.NoLimit
structure Cx where
 prog:Program
 w:World
 K:Frag
 mg:Str->Option Value
 base:Heap
 A:Around
 N:List Str
 s₀:Shared
 H₀:Hp
 env:Env
 outer:List Env
 stack:List Env
 ex:List Addr
 fn:Str->Bool
 calm:Bool
 pn:List (Addr × Obj)
 xe:Value->Shared->Prop
noncomputable def frs (l:List Env):List Addr:=l.filterMap (·.frame)
noncomputable abbrev Cx.fs (X:Cx):List Addr:=frs X.outer
noncomputable def Vis (sc:Scope) (x:Str):Prop:=sc.names.lookup x=some .local \/sc.names.lookup x=some .cell\/sc.names.lookup x=some .free
noncomputable def Loc (sc:Scope) (x:Str):Prop:=sc.names.lookup x=some .local \/sc.names.lookup x=some .cell
noncomputable def Look (env:Env) (h:Heap) (m:Str->Option Value) (x:Str) (u:Value):Prop:=
 (env.kindOf x=some .local /\m x=some u)\/((env.kindOf x=some .cell\/env.kindOf x=some .free)/\∃c,env.cells.lookup x=some c/\h.IsCell c (some u))
structure Cx.Ok (X:Cx):Prop where
 mod:Mod X.K X.mg X.base
 kind:X.env.scope.kind= .function
 glob:X.env.globals=mainGlobals
 blt:X.env.builtins=builtinsNs
 above:X.s₀.heap.objs.size<=X.env.locals
 inj:∀x y c,X.env.cells.lookup x=some c->X.env.cells.lookup y=some c->x=y
 has:∀x,(X.env.kindOf x=some .cell\/X.env.kindOf x=some .free)->∃c,X.env.cells.lookup x=some c
 cab:∀x c,X.fn x=true->X.env.cells.lookup x=some c->X.s₀.heap.objs.size<=c
 hd:X.calm=true->X.A.handled=none
 frames:X.A.frames=some X.stack
 stk:X.stack=X.outer\/(X.stack=X.env::X.outer/\X.env.frame=some X.env.locals)
 exf:∀b∈X.ex,b≠X.env.locals/\∀x c,X.env.cells.lookup x=some c->c≠b
 bs:∀b o,X.base.get? b=some o->X.s₀.heap.get? b=some o/\X.H₀ b=none
 bsz:X.base.objs.size<=X.s₀.heap.objs.size
 noex:∀b o,X.base.get? b=some o->b∉X.ex
 exfs:∀b∈X.ex,b∉X.fs
 funs:X.s₀.heap.FunFrames X.base X.outer
 frf:∀b∈X.fs,X.H₀ b=none
structure Inv (X:Cx) (pins:List (Addr × Obj)) (σ:List (Option V)) (H:Hp) (s:Shared):Prop where
 ok:X.Ok
 os:s.os=X.s₀.os
 bare:AllBare s.gens
 base:Un X.fs X.ex X.H₀ H X.s₀.heap s.heap
 loc:∃m,s.heap.Ns X.env.locals m/\∀(i:Nat) (x:Str) (v:V),X.N[i]? =some x->σ[i]? =some (some v)->Vis X.env.scope x->∃u,RelV v u/\Look X.env s.heap m x u
 cell:∀x c,X.env.cells.lookup x=some c->∃v,s.heap.IsCell c v
 free:H X.env.locals=none
 freeC:∀x c,X.env.cells.lookup x=some c->H c=none
 pin:∀p∈X.pn++pins,s.heap.get? p.1=some p.2/\H p.1=none/\p.1≠X.env.locals/\p.1∉X.fs/\∀v,p.2.data≠ .cell v
 hok:HOk X.prog X.w H s.heap
 len:σ.length=X.N.length
variable {ch:List Addr}{it:Addr}{N:List Str}{i j:Nat}{x:Str}{v:V}{u:Value}
section
variable {X:Cx}{pins:List (Addr × Obj)}{σ:List (Option V)}{H H':Hp}{s:Shared}{h':Heap}
theorem Cx.Ok.nofr (ok:X.Ok) {o:Obj} (e:X.base.get? b=some o):b∉X.fs:=fun q=>by
 have:=(ok.funs.mem q).1
 rw [e]at this;cases this
theorem Inv.bs (I:Inv X pins σ H s):∀b o,X.base.get? b=some o->s.heap.get? b=some o/\H b=none:=fun b o e=>
 ⟨I.base.keep b o (I.ok.bs b o e).1 (I.ok.bs b o e).2 (I.ok.nofr e) (I.ok.noex b o e),I.base.free b o (I.ok.bs b o e).1 (I.ok.bs b o e).2 (I.ok.noex b o e)⟩
theorem Inv.bk (I:Inv X pins σ H s):∀b o,X.base.get? b=some o->s.heap.get? b=some o:=fun b o e=>(I.bs b o e).1
theorem Inv.mod (I:Inv X pins σ H s):Mod X.K X.mg X.base:=I.ok.mod
theorem Inv.kIn (I:Inv X pins σ H s):X.K.In s.heap:=I.ok.mod.kin.keeps I.bk
theorem Inv.lt (I:Inv X pins σ H s):X.env.locals<s.heap.objs.size:=let ⟨_,hn,_⟩:=I.loc;hn.lt
theorem Inv.sz (I:Inv X pins σ H s):X.s₀.heap.objs.size<=s.heap.objs.size:=aO I.ok.above (eR I.lt)
theorem Inv.nofs (I:Inv X pins σ H s)  (h:s.heap.objs.size<=a):a∉X.fs:=fun q=>by
 obtain⟨_,o,G,_⟩:=I.ok.funs.mem q
 exact absurd (bH (aM G) (aO I.sz h)) (dD _)
theorem Inv.cne (I:Inv X pins σ H s):∀x c,X.env.cells.lookup x=some c->c≠X.env.locals:=fun x c e z=>by
 obtain⟨v,o,J,L⟩:=I.cell x c e
 obtain⟨m,⟨o',es,ep,q,G,_⟩,_⟩:=I.loc
 rw [z,q]at J;cases J;rw [G]at L;cases L
theorem Inv.funs (I:Inv X pins σ H s):s.heap.FunFrames X.base X.outer:=by
 have all:∀(l:List Env),(∀b∈frs l,b∈X.fs)->X.s₀.heap.FunFrames X.base l->s.heap.FunFrames X.base l:=by
  intro l
  induction l with
  | nil=>intro _ _;trivial
  | cons O r U=>
    intro M W
    obtain⟨Z,⟨L,o,q,hn,ho,hd⟩,hr⟩:=W
    have G:L∈X.fs:=M L (by unfold frs;rw [List.filterMap_cons,q];exact eE)
    obtain⟨sl,e⟩:=I.base.slot L o ho (I.ok.frf L G) G fun z=>I.ok.exfs L z G
    exact⟨Z,⟨L,_,q,hn,e,hd⟩,U (fun b J=>M b (by unfold frs;rw [List.filterMap_cons,q];exact cO _ J)) hr⟩
 exact all X.outer (fun _ J=>J) I.ok.funs
theorem Inv.stack (I:Inv X pins σ H s):s.heap.FunFrames X.base X.stack:=by
 rcases I.ok.stk with e | ⟨e,q⟩
 . rw [e];exact I.funs
 . rw [e]
   obtain⟨m,G,_⟩:=I.loc
   refine .cons (by rw [I.ok.kind];decide) q G ?_ I.funs
   exact Heap.get?_none_of_le (aO I.ok.bsz I.ok.above)
theorem Inv.stkSub (I:Inv X pins σ H s):∀b∈frs X.stack,b∈X.env.locals::X.fs:=fun b q=>by
 rcases I.ok.stk with e | ⟨e,G⟩
 . rw [e]at q;exact cO _ q
 . rw [e]at q
   unfold frs at q
   rw [List.filterMap_cons,G]at q
   exact q
theorem Inv.stkFree (I:Inv X pins σ H s):∀b∈frs X.stack,H b=none:=fun b q=>by
 rcases aQ.mp (I.stkSub b q)with e | q
 . rw [e];exact I.free
 . obtain⟨_,o,G,_⟩:=I.ok.funs.mem q
   exact I.base.free b o G (I.ok.frf b q) fun z=>I.ok.exfs b z q
theorem Inv.step {g':Array GenState}{t':Nat}{d':Drawn}{ch:List Addr} (I:Inv X pins σ H s)
 (J:∀b∈ch,(b∈X.ex\/X.s₀.heap.objs.size<=b)/\b≠X.env.locals/\(∀x c,X.env.cells.lookup x=some c->c≠b)/\∀p∈X.pn++pins,p.1≠b)
 (keep:∀b o,b≠X.env.locals->b∉X.fs->b∉ch->s.heap.get? b=some o->H b=none->h'.get? b=some o)
 (U:∀b o,b≠X.env.locals->b∈X.fs->b∉ch->s.heap.get? b=some o->H b=none->∃sl,h'.get? b=some { o with slots:=sl}) (free:∀b o,b∉ch->s.heap.get? b=some o->H b=none->H' b=none)
 (there:∀b o,b∉ch->s.heap.get? b=some o->∃o',h'.get? b=some o')
 (a0:∀b xs,H b=some (.tup xs)->H' b=some (.tup xs)) (a1:∀b o u,H b=some (.frz o u)->H' b=some (.frz o u)) (a2:∀b ps,H b=some (.tbl ps)->∃a3,H' b=some (.tbl (ps++a3)))
 (ns:∀m,s.heap.Ns X.env.locals m->h'.Ns X.env.locals m) (a5:HOk X.prog X.w H' h') (hg:AllBare g'):
 Inv X pins σ H' { s with heap:=h',gens:=g',drawn:=d',toks:=t'}:=by
 have a4:∀b o,X.s₀.heap.get? b=some o->b≠X.env.locals:=fun b o e=>aV (bH (aM e) I.ok.above)
 have M:∀b o,X.s₀.heap.get? b=some o->b∉X.ex->b∉ch:=fun b o e G W=>by
  rcases(J b W).1 with z | z
  . exact G z
  . exact absurd (bH (aM e) z) (dD _)
 have cellK:∀x c,X.env.cells.lookup x=some c->∀v,s.heap.IsCell c v->h'.IsCell c v:=fun x c e v ⟨o,Z,hd⟩=>by
  have L:c∉ch:=fun z=>(J c z).2.2.1 x c e rfl
  by_cases hc:c∈X.fs
  . obtain⟨sl,q⟩:=U c o (I.cne x c e) hc L Z (I.freeC x c e)
    exact⟨_,q,hd⟩
  . exact⟨o,keep c o (I.cne x c e) hc L Z (I.freeC x c e),hd⟩
 refine⟨I.ok,I.os,hg,⟨fun b o e n W G=> ?_,fun b o e n W G=> ?_,fun b o e n G=> ?_,fun b o e G=> ?_,fun b xs e=>a0 b xs (I.base.tups b xs e),fun b o xs e=>a1 b o xs (I.base.frzs b o xs e),fun b ps e=> ?_⟩,?_,fun x c e=> ?_,?_,fun x c e=> ?_,fun p hp=> ?_,a5,I.len⟩
 . exact keep b o (a4 b o e) W (M b o e G) (I.base.keep b o e n W G) (I.base.free b o e n G)
 . obtain⟨sl,O⟩:=I.base.slot b o e n W G
   obtain⟨a6,e2⟩:=U b _ (a4 b o e) W (M b o e G) O (I.base.free b o e n G)
   exact⟨a6,e2⟩
 . obtain⟨o',O⟩:=I.base.there b o e G
   exact free b o' (M b o e G) O (I.base.free b o e n G)
 . obtain⟨o',O⟩:=I.base.there b o e G
   exact there b o' (M b o e G) O
 . obtain⟨m1,O⟩:=I.base.tbls b ps e
   obtain⟨m2,e2⟩:=a2 b _ O
   exact⟨m1++m2,by rw [e2,Array.append_assoc]⟩
 . obtain⟨m,hn,hl⟩:=I.loc
   refine⟨m,ns m hn,fun i x v O e2 e3=> ?_⟩
   obtain⟨u,r,l⟩:=hl i x v O e2 e3
   refine⟨u,r,?_⟩
   rcases l with l | ⟨k,c,e,z⟩
   . exact .inl l
   . exact .inr ⟨k,c,e,cellK x c e _ z⟩
 . obtain⟨v,z⟩:=I.cell x c e
   exact⟨v,cellK x c e v z⟩
 . obtain⟨m,⟨o,_,_,Z,_⟩,_⟩:=I.loc
   exact free _ o (fun z=>(J _ z).2.1 rfl) Z I.free
 . obtain⟨v,o,Z,hd⟩:=I.cell x c e
   exact free c o (fun z=>(J c z).2.2.1 x c e rfl) Z (I.freeC x c e)
 . obtain⟨e,n,ne,nf,d⟩:=I.pin p hp
   have L:p.1∉ch:=fun z=>(J p.1 z).2.2.2 p hp rfl
   exact⟨keep p.1 p.2 ne nf L e n,free p.1 p.2 L e n,ne,nf,d⟩
theorem Inv.un {t':Nat} (I:Inv X pins σ H s) (u:Un X.fs [] H H' s.heap h') (G:HOk X.prog X.w H' h'):Inv X pins σ H' { s with heap:=h',toks:=t'}:=by
 obtain⟨m,⟨o,es,ep,O,r⟩,_⟩:=id I.loc
 obtain⟨sl,U⟩:=u.any O I.free (by simp)
 exact I.step (g':=s.gens) (d':=s.drawn) (ch:=[]) (fun _ z=>nomatch z) (fun b o _ J _ e n=>u.keep b o e n J (by simp)) (fun b o _ J _ e n=>u.slot b o e n J (by simp)) (fun b o _ e n=>u.free b o e n (by simp)) (fun b o _ e=>u.there b o e (by simp)) u.tups u.frzs u.tbls (fun m' W=>by
  obtain⟨o',L,M,q,Z⟩:=W
  rw [O]at q;cases q
  exact⟨_,L,M,U,Z⟩) G I.bare
theorem Inv.call {g':Array GenState}{t':Nat}{d':Drawn} (I:Inv X pins σ H s) (u:Un (frs X.stack) ch H H' s.heap h') (L:HOk X.prog X.w H' h') (Z:AllBare g')
 (G:∀b∈ch,(b∈X.ex\/X.s₀.heap.objs.size<=b)/\b≠X.env.locals/\(∀x c,X.env.cells.lookup x=some c->c≠b)/\∀p∈X.pn++pins,p.1≠b):
 Inv X pins σ H' { s with heap:=h',gens:=g',drawn:=d',toks:=t'}:=by
 obtain⟨m,⟨o,es,ep,W,r⟩,_⟩:=id I.loc
 obtain⟨sl,M⟩:=u.any W I.free fun z=>(G _ z).2.1 rfl
 exact I.step (ch:=ch) G (fun b o M hb q e n=>u.keep b o e n (fun z=>(aQ.mp (I.stkSub b z)).elim M hb) q) (fun b o _ _ q e n=>u.any e n q) (fun b o q e n=>u.free b o e n q) (fun b o q e=>u.there b o e q) u.tups u.frzs u.tbls (fun m' hm=>by
  obtain⟨o',O,U,J,r'⟩:=hm
  rw [W]at J;cases J
  exact⟨_,O,U,M,r'⟩) L Z
theorem Inv.turned {t':Nat} (I:Inv X pins σ H s) (k:∀b o,b≠it->s.heap.get? b=some o->h'.get? b=some o) (M:H it=none) (L:it≠X.env.locals)
 (h1:it∈X.ex\/X.s₀.heap.objs.size<=it) (h2:∀x c,X.env.cells.lookup x=some c->c≠it) (O:∀p∈X.pn++pins,p.1≠it):Inv X pins σ H { s with heap:=h',toks:=t'}:=by
 have J:∀b u,H b=some u->b≠it:=fun b u e z=>by rw [z,M]at e;cases e
 refine I.step (g':=s.gens) (d':=s.drawn) (ch:=[it]) (fun b U=> ?_) (fun b o _ _ G e _=>k b o (fun z=>G (by simp [z])) e) (fun b o _ _ G e _=>⟨o.slots,k b o (fun z=>G (by simp [z])) e⟩) (fun _ _ _ _ n=>n)
  (fun b o G e=>⟨o,k b o (fun z=>G (by simp [z])) e⟩) (fun _ _ e=>e) (fun _ _ _ e=>e) (fun b ps e=>⟨#[],by rw [e];simp⟩) (fun m W=> ?_) (fun b u e=> ?_) I.bare
 . have e:b=it:=by simpa using U
   subst e
   exact⟨h1,L,h2,O⟩
 . obtain⟨o,es,ep,Z,r⟩:=W
   exact⟨o,es,ep,k _ o (cS L) Z,r⟩
 . refine(I.hok b u e).stay (fun c v G q=>k c v ?_ q) (fun _ q=>q) fun _ _ q=>q
   rcases G with z | z
   . rw [z];exact J b u e
   . exact J c _ z
theorem Inv.tok (I:Inv X pins σ H s) (t:Nat):Inv X pins σ H { s with toks:=t}:=I.un (h':=s.heap) (t':=t) Un.refl I.hok
theorem Inv.kept {t':Nat} (I:Inv X pins σ H s) (k:∀b u,s.heap.get? b=some u->h'.get? b=some u):Inv X pins σ H { s with heap:=h',toks:=t'}:=I.un (Un.kept k) (I.hok.kept k)
theorem Inv.laid {a:Addr}{o:HO}{t':Nat} (I:Inv X pins σ H s) (k:∀b u,s.heap.get? b=some u->h'.get? b=some u) (hp:s.heap.objs.size<=a) (q:Dk X.prog X.w (upd H a o) h' a o):
 Inv X pins σ (upd H a o) { s with heap:=h',toks:=t'}:=I.un (Un.laid k hp (I.hok.fresh hp)) (I.hok.laid k hp q)
theorem Inv.write {x e:Addr}{o:HO}{t':Nat} (I:Inv X pins σ H s) (J:Mut (H x)) (L:e=x\/H e=some (.own x)) (k:∀b u,b≠e->s.heap.get? b=some u->h'.get? b=some u) (q:∃u,h'.get? e=some u)
 (G:Dk X.prog X.w (upd H x o) h' x o):Inv X pins σ (upd H x o) { s with heap:=h',toks:=t'}:=I.un (Un.write J L k q) (I.hok.write J L k q G)
theorem Inv.pins_of {q:List (Addr × Obj)} (I:Inv X pins σ H s) (h:∀p∈q,s.heap.get? p.1=some p.2/\H p.1=none/\p.1≠X.env.locals/\p.1∉X.fs/\∀v,p.2.data≠ .cell v):Inv X q σ H s:=
 ⟨I.ok,I.os,I.bare,I.base,I.loc,I.cell,I.free,I.freeC,fun p hp=>(bG.mp hp).elim (fun z=>I.pin p (bD _ z)) (h p),I.hok,I.len⟩
theorem V8 (q:N.Nodup)  (a:N[i]? =some x) (b:N[j]? =some x):i=j:=by
 obtain⟨h1,G⟩:=bL.mp a
 obtain⟨h2,J⟩:=bL.mp b
 exact(List.getElem_inj q).mp (G.trans J.symm)
theorem Abq {M:Model}{A:Around}{E:Value->Shared->Prop}{Q:Unit->Shared->Prop} (I:Inv X pins σ H s) (hN:X.N.Nodup) (hi:X.N[i]? =some x) (O:Loc X.env.scope x) (r:RelV v u)
 (h:∀s',Inv X pins (σ.set i (some v)) H s'->(∃a,Heap.SameBut a s.heap s'.heap/\(a=X.env.locals\/X.env.cells.lookup x=some a))->Q () s') (hf:X.fn x=true\/X.env.scope.names.lookup x=some .local :=by first | exact .inl rfl | exact .inr rfl | assumption):wpAny M A (storeName X.env x u) Q E s:=by
 obtain⟨m,hn,hl⟩:=id I.loc
 have a1:(X.env.scope.kind== .class||(X.env.scope.kind== .module&&X.env.locals != X.env.globals))=false:=by rw [I.ok.kind];rfl
 have Z:i<σ.length:=by rw [I.len];exact(bL.mp hi).1
 have cne:=I.cne
 have tracked:∀ {a:Addr}{h':Heap},(∃o,s.heap.get? a=some o/\H a=none)->Heap.SameBut a s.heap h'->HOk X.prog X.w H h':=fun {a h'} ha G b ob e=>by
  obtain⟨_,_,U⟩:=ha
  refine(I.hok b ob e).stay (fun c w' L q=>(G.2 c ?_).trans q) (fun _ q=>q) fun _ _ q=>q
  rintro rfl
  rcases L with rfl | L
  . rw [U]at e;cases e
  . rw [U]at L;cases L
 rcases O with hk | hk
 . refine wpAny_storeName_local hk hn (fun h' a6 G=> ?_) a1
   obtain⟨oL,_,_,a7,_⟩:=id hn
   refine h _ ⟨I.ok,I.os,I.bare,⟨fun b o e n hb O=> ?_,fun b o e n hb O=> ?_,I.base.free,fun b o e O=> ?_,I.base.tups,I.base.frzs,I.base.tbls⟩,⟨_,a6,fun j y v' J W e3=> ?_⟩,fun y c e=> ?_,I.free,I.freeC,fun p hp=> ?_,tracked ⟨oL,a7,I.free⟩ G,by simpa using I.len⟩ ⟨_,G,.inl rfl⟩
   . exact(G.2 b (aV (bH (aM e) I.ok.above))).trans (I.base.keep b o e n hb O)
   . obtain⟨sl,J⟩:=I.base.slot b o e n hb O
     exact⟨sl,(G.2 b (aV (bH (aM e) I.ok.above))).trans J⟩
   . obtain⟨o',J⟩:=I.base.there b o e O
     exact⟨o',(G.2 b (aV (bH (aM e) I.ok.above))).trans J⟩
   . by_cases hj:j=i
     . subst hj
       rw [hi]at J;cases J
       rw [kT Z]at W
       cases W
       exact⟨u,r,.inl ⟨hk,by simp⟩⟩
     . rw [jD (cS hj)]at W
       obtain⟨u',r',q⟩:=hl j y v' J W e3
       refine⟨u',r',?_⟩
       rcases q with⟨k,e⟩ | ⟨k,c,e,z⟩
       . refine .inl ⟨k,?_⟩
         have:y≠x:=fun e=>hj (V8 hN J (e▸hi))
         simp [this,e]
       . exact .inr ⟨k,c,e,z.sameBut G (cne y c e)⟩
   . obtain⟨w',z⟩:=I.cell y c e
     exact⟨w',z.sameBut G (cne y c e)⟩
   . obtain⟨e,n,ne,nf,d⟩:=I.pin p hp
     exact⟨(G.2 p.1 ne).trans e,n,ne,nf,d⟩
 . have a0:X.fn x=true:=by
    rcases hf with z | z
    . exact z
    . rw [z]at hk;cases hk
   obtain⟨c,L⟩:=I.ok.has x (.inl hk)
   obtain⟨w',z⟩:=I.cell x c L
   refine wpAny_storeName_cell I.ok.kind hk L z (fun h' a2 G=> ?_)
   obtain⟨oc,a3,a4⟩:=id z
   refine h { s with heap:=h'} ⟨I.ok,I.os,I.bare,⟨fun b o e n hb O=> ?_,fun b o e n hb O=> ?_,I.base.free,fun b o e O=> ?_,I.base.tups,I.base.frzs,I.base.tbls⟩,⟨m,hn.sameBut G (cS (cne x c L)),fun j y v' J W e3=> ?_⟩,fun y c' e=> ?_,I.free,I.freeC,fun p hp=> ?_,tracked ⟨oc,a3,I.freeC x c L⟩ G,by simpa using I.len⟩ ⟨c,G,.inr L⟩
   . exact(G.2 b (aV (bH (aM e) (I.ok.cab x c a0 L)))).trans (I.base.keep b o e n hb O)
   . obtain⟨sl,J⟩:=I.base.slot b o e n hb O
     exact⟨sl,(G.2 b (aV (bH (aM e) (I.ok.cab x c a0 L)))).trans J⟩
   . obtain⟨o',J⟩:=I.base.there b o e O
     exact⟨o',(G.2 b (aV (bH (aM e) (I.ok.cab x c a0 L)))).trans J⟩
   . by_cases hj:j=i
     . subst hj
       rw [hi]at J;cases J
       rw [kT Z]at W
       cases W
       exact⟨u,r,.inr ⟨.inl hk,c,L,a2⟩⟩
     . rw [jD (cS hj)]at W
       obtain⟨u',r',q⟩:=hl j y v' J W e3
       refine⟨u',r',?_⟩
       rcases q with q | ⟨k,c',e,z'⟩
       . exact .inl q
       . refine .inr ⟨k,c',e,z'.sameBut G ?_⟩
         rintro rfl
         exact hj (V8 hN J (I.ok.inj _ _ _ e L▸hi))
   . by_cases a5:c'=c
     . subst a5;exact⟨_,a2⟩
     . obtain⟨w2,z2⟩:=I.cell y c' e
       exact⟨w2,z2.sameBut G a5⟩
   . obtain⟨e,n,ne,nf,d⟩:=I.pin p hp
     refine⟨(G.2 p.1 ?_).trans e,n,ne,nf,d⟩
     intro q
     rw [q,a3]at e
     have q':oc=p.2:=bE e
     exact d w' (by rw [<-q'];exact a4)
theorem Mu {M:Model}{A:Around}{E:Value->Shared->Prop}{Q:Unit->Shared->Prop} (I:Inv X pins σ H s) (q:X.N.Nodup) (hi:X.N[i]? =some x) (G:Loc X.env.scope x) (r:RelV v u)
 (h:∀s',Inv X pins (σ.set i (some v)) H s'->Q () s') (J:X.fn x=true\/X.env.scope.names.lookup x=some .local :=by first | exact .inl rfl | exact .inr rfl | assumption):wpAny M A (storeName X.env x u) Q E s:=
 Abq I q hi G r (fun s' L _=>h s' L) J
theorem Inv.call' {s':Shared} (I:Inv X pins σ H s) (O:s'.os=s.os) (u:Un (frs X.stack) ch H H' s.heap s'.heap) (q:HOk X.prog X.w H' s'.heap) (U:AllBare s'.gens)
 (G:∀b∈ch,(b∈X.ex\/X.s₀.heap.objs.size<=b)/\b≠X.env.locals/\(∀x c,X.env.cells.lookup x=some c->c≠b)/\∀p∈X.pn++pins,p.1≠b):Inv X pins σ H' s':=by
 obtain⟨h',J,L,M,o'⟩:=s'
 have e:o'=s.os:=O
 subst e
 exact I.call (g':=J) (t':=M) (d':=L) u q U G
end
noncomputable abbrev XK:=Value->Option Addr->Hp->Prop
noncomputable abbrev St:=List (Option V)
noncomputable abbrev VK:=V->Hp->Prop
noncomputable abbrev TE:=St->Hp->VK->Prop
noncomputable abbrev TT:=St->Hp->(Bool->Hp->Prop)->Prop
noncomputable abbrev TA:=St->Hp->(List V->Hp->Prop)->Prop
structure Ends where
 nx:St->Hp->Prop
 rt:VK
 bk:St->Hp->Prop:=fun _ _=>False
 ct:St->Hp->Prop:=fun _ _=>False
noncomputable abbrev TS:=Ends->St->Hp->Prop
noncomputable def EP (X:Cx) (pins:List (Addr × Obj)) (σ:St) (Q:VK) (u:Value) (s':Shared):Prop:=∃v H',Inv X pins σ H' s'/\RelV v u/\Q v H'
noncomputable def TP (X:Cx) (pins:List (Addr × Obj)) (σ:St) (Q:Bool->Hp->Prop) (b:Bool) (s':Shared):Prop:=∃H',Inv X pins σ H' s'/\Q b H'
noncomputable def AP (X:Cx) (pins:List (Addr × Obj)) (σ:St) (Q:List V->Hp->Prop) (us:List Value) (s':Shared):Prop:=∃vs H',Inv X pins σ H' s'/\Vals vs us/\Q vs H'
noncomputable def SP (X:Cx) (pins:List (Addr × Obj)) (D:Ends) (f:Flow) (s':Shared):Prop:=
 match f with
 | .next=>∃σ' H',Inv X pins σ' H' s'/\D.nx σ' H'
 | .brk=>∃σ' H',Inv X pins σ' H' s'/\D.bk σ' H'
 | .cont=>∃σ' H',Inv X pins σ' H' s'/\D.ct σ' H'
 | .ret u=>∃v σ' H',Inv X pins σ' H' s'/\RelV v u/\D.rt v H'
noncomputable def PE (X:Cx) (e:Expr) (t:TE):Prop:=
 ∀(pins:List (Addr × Obj)) (s:Shared) (σ:St) (H:Hp) (Q:VK),Inv X pins σ H s->t σ H Q->wpAny (model X.prog X.w) X.A (eval e X.env) (EP X pins σ Q) X.xe s
noncomputable def PT (X:Cx) (e:Expr) (t:TT):Prop:=
 ∀(pins:List (Addr × Obj)) (s:Shared) (σ:St) (H:Hp) (Q:Bool->Hp->Prop),Inv X pins σ H s->t σ H Q->wpAny (model X.prog X.w) X.A (isTrue e X.env (eval e X.env)) (TP X pins σ Q) X.xe s
noncomputable def PW (X:Cx) (e:Expr) (t:TT):Prop:=
 ∀(whole:Sem Value) (pins:List (Addr × Obj)) (s:Shared) (σ:St) (H:Hp) (Q:Bool->Hp->Prop),Inv X pins σ H s->t σ H Q->wpAny (model X.prog X.w) X.A (isTrue e X.env whole) (TP X pins σ Q) X.xe s
theorem PW.pt {X:Cx}{e:Expr}{t:TT} (h:PW X e t):PT X e t:=h _
noncomputable def PA (X:Cx) (es:List Expr) (t:TA):Prop:=
 ∀(pos:Pos) (pins:List (Addr × Obj)) (s:Shared) (σ:St) (H:Hp) (Q:List V->Hp->Prop),Inv X pins σ H s->t σ H Q->wpAny (model X.prog X.w) X.A (spliced (backTo pos (starEach es X.env))) (AP X pins σ Q) X.xe s
noncomputable def PS (X:Cx) (st:Stmt) (t:TS):Prop:=
 ∀(pins:List (Addr × Obj)) (s:Shared) (σ:St) (H:Hp) (D:Ends),Inv X pins σ H s->t D σ H->wpAny (model X.prog X.w) X.A (exec st X.env) (SP X pins D) X.xe s
noncomputable def PSs (X:Cx) (st:List Stmt) (t:TS):Prop:=
 ∀(pins:List (Addr × Obj)) (s:Shared) (σ:St) (H:Hp) (D:Ends),Inv X pins σ H s->t D σ H->wpAny (model X.prog X.w) X.A (execs st X.env) (SP X pins D) X.xe s
variable {M:Model}{A:Around}{s:Shared}
theorem thn {α:Type}{t:Sem α}{Q q:α->Shared->Prop}{E:Value->Shared->Prop} (h:wpAny M A t Q E s) (G:∀a s,Q a s->q a s):wpAny M A t q E s:=cT h G fun _ _ x=>x
variable {ta tb:TE}{pins:List (Addr × Obj)}{σ:St}
section
variable {X:Cx}
theorem bin {a b:Expr} (L:PE X a ta) (M:PE X b tb) {R:V->V->Hp->Prop} (I:Inv X pins σ H s) (h:ta σ H fun x H1=>tb σ H1 fun y H2=>R x y H2)
 {α:Type}{Q:α->Shared->Prop}{f:Value->Value->Sem α}
 (O:∀v u J x y H2,Inv X pins σ H2 J->RelV x v->RelV y u->R x y H2->wpAny (model X.prog X.w) X.A (f v u) Q X.xe J):
 wpAny (model X.prog X.w) X.A (eval a X.env) (fun v q=>wpAny (model X.prog X.w) X.A (eval b X.env) (fun u G=>wpAny (model X.prog X.w) X.A (f v u) Q X.xe G) X.xe q) X.xe s:=by
 refine thn (L pins s σ H _ I h) fun v U ⟨x,H1,W,Z,q1⟩=> ?_
 refine thn (M pins U σ H1 _ W q1) fun u J ⟨y,H2,I2,r2,q2⟩=> ?_
 exact O v u J x y H2 I2 Z r2 q2
noncomputable def Ahp (i:Nat):TE:=fun σ H Q=>∃v,σ[i]? =some (some v)/\Q v H
noncomputable def tC (v:V):TE:=fun _ H Q=>Q v H
theorem Aj3 {pos:Pos} (U:X.N[i]? =some x) (W:Vis X.env.scope x) (L:(x==("__debug__":Str))=false:=by decide) (M:(x==("__classdict__":Str))=false:=by decide):PE X (.Name x pos) (Ahp i):=by
 intro pins s σ H Q I h
 obtain⟨v,e,h⟩:=h
 obtain⟨m,Z,hl⟩:=I.loc
 obtain⟨u,r,l⟩:=hl i x v U e W
 have G:EP X pins σ Q u s:=⟨v,H,I,r,h⟩
 rcases l with⟨J,hm⟩ | ⟨J,c,O,q⟩
 . exact wpAny_Name (wpAny_loadName_local I.ok.kind J Z hm G) L
 . rcases J with J | J
   . exact wpAny_Name (wpAny_loadName_cell I.ok.kind J O q G) L
   . exact wpAny_Name (wpAny_loadName_free I.ok.kind J O q G M) L
theorem Ajx {i j pos}:PE X (.Constant (.int i) j pos) (tC (.int i)):=fun _ _ _ H _ I h=>wpAny_Constant_int ⟨.int i,H,I.tok _,⟨_,rfl⟩,h⟩
theorem Am3 {b j pos}:PE X (.Constant (.bool b) j pos) (tC (.bl b)):=fun _ _ _ H _ I h=>Constant_bool ⟨.bl b,H,I,rfl,h⟩
theorem Aj1 {x j pos}:PE X (.Constant (.str x) j pos) (tC (.str x)):=fun _ _ _ H _ I h=>Calls.Constant_str ⟨.str x,H,I.tok _,⟨_,rfl⟩,h⟩
noncomputable def Gl (X:Cx) (x:Str):Prop:=X.env.kindOf x=some .globalImplicit
theorem Aaj {E:Value->Shared->Prop}{pos:Pos}{Q:Value->Shared->Prop} (I:Inv X pins σ H s) (q:Gl X x) (G:X.mg x=some u) (h:Q u s)
 (J:(x==("__debug__":Str))=false:=by decide):wpAny (model X.prog X.w) X.A (eval (.Name x pos) X.env) Q E s:=
 Calls.Name_function_global I.ok.kind q (Calls.loadGlobal_global (by rw [I.ok.glob];exact I.mod.glob.keeps I.bk) G h) J
theorem Lp {E:Value->Shared->Prop}{pos:Pos}{Q:Value->Shared->Prop} (I:Inv X pins σ H s) (q:Gl X x) (G:X.mg x=none) (J:bootBuiltins x=some u) (h:Q u s)
 (L:x≠"__name__":=by decide) (M:(x==("__debug__":Str))=false:=by decide):wpAny (model X.prog X.w) X.A (eval (.Name x pos) X.env) Q E s:=by
 obtain⟨O,h1,h2⟩:=I.mod.blt
 exact Calls.Name_function_global I.ok.kind q (Calls.loadGlobal_builtin (by rw [I.ok.glob];exact I.mod.glob.keeps I.bk) G (by rw [I.ok.blt];exact h1.keeps I.bk) ((h2 x L).trans J) h) M
theorem Aa5 {x:Str}{v:V}{u:Value}{pos:Pos} (q:Gl X x) (G:X.mg x=some u) (r:RelV v u) (J:(x==("__debug__":Str))=false:=by decide):PE X (.Name x pos) (tC v):=
 fun _ _ _ H _ I h=>Aaj I q G ⟨v,H,I,r,h⟩ J
theorem Uz {x:Str}{v:V}{u:Value}{pos:Pos} (q:Gl X x) (G:X.mg x=none) (J:bootBuiltins x=some u) (r:RelV v u) (L:x≠"__name__":=by decide) (M:(x==("__debug__":Str))=false:=by decide):PE X (.Name x pos) (tC v):=
 fun _ _ _ H _ I h=>Lp I q G J ⟨v,H,I,r,h⟩ L M
variable {a b:Expr}{ta tb:TE}{pos:Pos}
noncomputable def tB (t:TE):TT:=fun σ H Q=>t σ H fun x H1=>∃c,x= .bl c/\Q c H1
theorem Ae7 {e:Expr}{t:TE} (h:PE X e t) (G:∀whole,isTrue e X.env whole=(do let v<-whole;standAt e.pos;holding [v] (truthy v)):=by intro _;rfl):PT X e (tB t):=by
 intro pins s σ H Q I J
 refine isTrue_plain (thn (h pins s σ H _ I J) fun v U ⟨x,H1,L,M,O⟩=> ?_) (G _)
 obtain⟨d,rfl,q⟩:=O
 cases M
 exact fR ⟨H1,L,q⟩
variable {tA tB':TT}{rest:List Expr}
noncomputable def Ang (t u:TT):TT:=fun σ H Q=>t σ H fun c H1=>if c=true then u σ H1 Q else Q false H1
noncomputable def tOr (t u:TT):TT:=fun σ H Q=>t σ H fun c H1=>if c=true then Q true H1 else u σ H1 Q
noncomputable def Anl (t:TT):TT:=fun σ H Q=>t σ H fun c H1=>Q (!c) H1
theorem Ag8 (q:PT X a tA):PW X (.BoolOp .And [a] pos) tA:=by
 intro G pins s σ H Q I h
 refine isTrue_and (thn (q pins s σ H Q I h) fun c J e=> ?_)
 cases c with
 | true=>exact isTrue_and_nil e
 | false=>exact e
theorem Akf (q:PT X a tA):PW X (.BoolOp .Or [a] pos) tA:=by
 intro G pins s σ H Q I h
 refine isTrue_or (thn (q pins s σ H Q I h) fun c J e=> ?_)
 cases c with
 | false=>exact isTrue_or_nil e
 | true=>exact e
theorem Ake (J:PT X a tA) (L:PW X (.BoolOp .And (b::rest) pos) tB'):PW X (.BoolOp .And (a::b::rest) pos) (Ang tA tB'):=by
 intro M pins s σ H Q I h
 refine isTrue_and (thn (J pins s σ H _ I h) fun c O ⟨H1,q,G⟩=> ?_)
 cases c with
 | true=>exact L M pins O σ H1 Q q G
 | false=>exact⟨H1,q,G⟩
theorem Am9 (J:PT X a tA) (L:PW X (.BoolOp .Or (b::rest) pos) tB'):PW X (.BoolOp .Or (a::b::rest) pos) (tOr tA tB'):=by
 intro M pins s σ H Q I h
 refine isTrue_or (thn (J pins s σ H _ I h) fun c O ⟨H1,q,G⟩=> ?_)
 cases c with
 | true=>exact⟨H1,q,G⟩
 | false=>exact L M pins O σ H1 Q q G
theorem Akc (q:PT X a tA):PT X (.UnaryOp .Not a pos) (Anl tA):=by
 intro pins s σ H Q I h
 exact isTrue_not (q pins s σ H (fun c H1=>Q (!c) H1) I h)
noncomputable def Ahg (ta tb:TE):TE:=fun σ H Q=>ta σ H fun x H1=>∃c,x= .bl c/\if c=true then tb σ H1 Q else Q (.bl false) H1
noncomputable def Ahm (ta:TE):TE:=fun σ H Q=>ta σ H fun x H1=>∃c,x= .bl c/\Q (.bl (!c)) H1
theorem Aj0 {op}{t:TE} (h:PE X a t):PE X (.BoolOp op [a] pos) t:=fun pins s σ H Q I q=>BoolOp_one (h pins s σ H Q I q)
theorem Ajw (J:PE X a ta) (L:PE X (.BoolOp .And (b::rest) pos) tb):PE X (.BoolOp .And (a::b::rest) pos) (Ahg ta tb):=by
 intro pins s σ H Q I h
 refine BoolOp_and (thn (J pins s σ H _ I h) fun v M ⟨x,H1,G,O,q⟩=> ?_)
 obtain⟨c,rfl,q⟩:=q
 cases O
 refine fR ?_
 cases c with
 | true=>exact L pins M σ H1 Q G q
 | false=>exact⟨.bl false,H1,G,rfl,q⟩
theorem Ajz (G:PE X a ta):PE X (.UnaryOp .Not a pos) (Ahm ta):=by
 intro pins s σ H Q I h
 refine UnaryOp_ (thn (G pins s σ H _ I h) fun v M ⟨x,H1,J,L,q⟩=> ?_)
 obtain⟨c,rfl,q⟩:=q
 cases L
 exact not_of (fR ⟨.bl (!c),H1,J,rfl,q⟩)
noncomputable def tIf (t:TT) (ta tb:TE):TE:=fun σ H Q=>t σ H fun c H1=>if c=true then ta σ H1 Q else tb σ H1 Q
theorem Adt {c:Expr} (L:PT X c tA) (M:PE X a ta) (O:PE X b tb):PE X (.IfExp c a b pos) (tIf tA ta tb):=by
 intro pins s σ H Q I h
 refine wpAny_IfExp (thn (L pins s σ H _ I h) fun d q ⟨H1,G,J⟩=> ?_)
 cases d with
 | true=>exact M pins q σ H1 Q G J
 | false=>exact O pins q σ H1 Q G J
end
noncomputable def SqL (K:Frag) (H:Hp) (a:Addr) (xs:List V):Prop:=
 Rd H a (.lst xs)\/
  ∃(o:Obj) (its:Array Value) (n:Nat),K.lookup a=some o/\o.cls= .type "list"/\o.dict=none/\o.data= .seq its n/\its.size<=sizeLine/\Vals xs its.toList
noncomputable def SqT (K:Frag) (H:Hp) (a:Addr) (xs:List V):Prop:=
 Rd H a (.tup xs)\/
  ∃(o:Obj) (its:Array Value) (n:Nat),K.lookup a=some o/\o.cls= .type "tuple"/\o.data= .seq its n/\its.size<=sizeLine/\Vals xs its.toList
noncomputable def Apm:Value->Option V
 | .none=>some .non
 | .bool b=>some (.bl b)
 | .int i _=>some (.int i)
 | .str x _=>some (.str x)
 | .bytes b _=>some (.byt b)
 | .float b _=>some (.flt b)
 | .ref a=>some (.ref a)
 | .type n=>some (.ty n)
 | _=>none
theorem RelV.abs {x:V} (r:RelV x u):Apm u=some x:=by
 cases x with
 | non=>cases r;rfl
 | bl _=>cases r;rfl
 | int _=>obtain⟨t,rfl⟩:=r;rfl
 | str _=>obtain⟨t,rfl⟩:=r;rfl
 | byt _=>obtain⟨t,rfl⟩:=r;rfl
 | flt _=>obtain⟨t,rfl⟩:=r;rfl
 | ref _=>cases r;rfl
 | ty _=>cases r;rfl
theorem RelV.inj {x y:V}{u:Value} (r:RelV x u) (q:RelV y u):x=y:=bE (r.abs.symm.trans q.abs)
theorem Vals.inj:∀ {xs ys:List V}{us:List Value},Vals xs us->Vals ys us->xs=ys
 | _,_,_,.nil,.nil=>rfl
 | _,_,_,.cons r t,.cons r' t'=>by rw [r.inj r',Vals.inj t t']
section
variable {X:Cx}{pins:List (Addr × Obj)}{σ:St}{H:Hp}{s:Shared}{a:Addr}{xs ys:List V}
theorem SqL.of {K:Frag} (h:H a=some (.lst xs)):SqL K H a xs:= .inl (.inl h)
theorem SqT.of {K:Frag} (h:H a=some (.tup xs)):SqT K H a xs:= .inl (.inl h)
theorem Inv.list (I:Inv X pins σ H s) (h:SqL X.K H a xs):∃q:List Value,Vals xs q/\PlainL s.heap a q.toArray/\xs.length<=sizeLine:=by
 rcases h with h | ⟨o,q,n,G,J,L,M,O,r⟩
 . obtain⟨z,q,n,r,e⟩:=h.ok I.hok
   exact⟨q,r,⟨_,n,e,rfl,rfl,rfl⟩,z⟩
 . refine⟨q.toList,r,⟨o,n,I.kIn a o G,J,L,by simpa using M⟩,?_⟩
   have e:=r.length
   simp only [bJ]at e
   omega
theorem Inv.tuple (I:Inv X pins σ H s) (h:SqT X.K H a xs):∃q:List Value,Vals xs q/\IsTup s.heap a q.toArray/\xs.length<=sizeLine:=by
 rcases h with h | ⟨o,q,n,G,J,L,M,r⟩
 . obtain⟨z,q,r,p⟩:=h.ok I.hok
   exact⟨q,r,p,z⟩
 . refine⟨q.toList,r,⟨o,I.kIn a o G,J,n,by simpa using L⟩,?_⟩
   have e:=r.length
   simp only [bJ]at e
   omega
theorem Inv.list_inj (I:Inv X pins σ H s) (h:SqL X.K H a xs) (h':SqL X.K H a ys):xs=ys:=by
 obtain⟨G,r,⟨o,n,e,_,_,d⟩,_⟩:=I.list h
 obtain⟨q,M,⟨o',O,J,_,_,L⟩,_⟩:=I.list h'
 rw [e]at J;cases J
 rw [d]at L
 injection L with d1 _
 have:G=q:=by simpa using bK Array.toList d1
 subst this
 exact r.inj M
theorem Inv.tuple_inj (I:Inv X pins σ H s) (h:SqT X.K H a xs) (h':SqT X.K H a ys):xs=ys:=by
 obtain⟨G,r,⟨o,e,_,n,d⟩,_⟩:=I.tuple h
 obtain⟨q,M,⟨o',J,_,O,L⟩,_⟩:=I.tuple h'
 rw [e]at J;cases J
 rw [d]at L
 injection L with d1 _
 have:G=q:=by simpa using bK Array.toList d1
 subst this
 exact r.inj M
end
noncomputable abbrev Cx.wish (X:Cx) (E:Value->Shared->Prop):Cx:={ X with xe:=E}
noncomputable abbrev Cx.nox (X:Cx):Cx:=X.wish fun _ _=>False
theorem Cx.Ok.wish {X:Cx} (ok:X.Ok) (E:Value->Shared->Prop):(X.wish E).Ok:=
 ⟨ok.mod,ok.kind,ok.glob,ok.blt,ok.above,ok.inj,ok.has,ok.cab,ok.hd,ok.frames,ok.stk,ok.exf,ok.bs,ok.bsz,ok.noex,ok.exfs,ok.funs,ok.frf⟩
variable {X:Cx}
theorem Cx.Ok.unwish {E:Value->Shared->Prop} (ok:(X.wish E).Ok):X.Ok:=
 ⟨ok.mod,ok.kind,ok.glob,ok.blt,ok.above,ok.inj,ok.has,ok.cab,ok.hd,ok.frames,ok.stk,ok.exf,ok.bs,ok.bsz,ok.noex,ok.exfs,ok.funs,ok.frf⟩
section
variable {X:Cx}{pins:List (Addr × Obj)}{σ:St}{H:Hp}{s:Shared}{E:Value->Shared->Prop}
theorem Inv.wish (I:Inv X pins σ H s) (E:Value->Shared->Prop):Inv (X.wish E) pins σ H s:=⟨I.ok.wish E,I.os,I.bare,I.base,I.loc,I.cell,I.free,I.freeC,I.pin,I.hok,I.len⟩
theorem Inv.unwish (I:Inv (X.wish E) pins σ H s):Inv X pins σ H s:=⟨I.ok.unwish,I.os,I.bare,I.base,I.loc,I.cell,I.free,I.freeC,I.pin,I.hok,I.len⟩
theorem SP.unwish {D:Ends}{f:Flow}{s':Shared} (h:SP (X.wish E) pins D f s'):SP X pins D f s':=by
 cases f with
 | next=>obtain⟨G,H',I,q⟩:=h;exact⟨G,H',I.unwish,q⟩
 | brk=>obtain⟨G,H',I,q⟩:=h;exact⟨G,H',I.unwish,q⟩
 | cont=>obtain⟨G,H',I,q⟩:=h;exact⟨G,H',I.unwish,q⟩
 | ret u=>obtain⟨v,G,H',I,r,q⟩:=h;exact⟨v,G,H',I.unwish,r,q⟩
theorem PSs.nox {st:List Stmt}{t:TS} (h:PSs X.nox st t):PSs X st t:=fun pins s σ H D I G=>
 cT (h pins s σ H D (I.wish _) G) (fun _ _ q=>q.unwish) fun _ _ z=>False.elim z
end
section
variable {X:Cx}{st:Stmt}{rest:List Stmt}{t u:TS}{e:Expr}{te:TE}{pos:Pos}
noncomputable def Ahl:TS:=fun D σ H=>D.nx σ H
noncomputable def Al6 (t u:TS):TS:=fun D σ H=>t { D with nx:=u D} σ H
theorem Ag3:PSs X [] Ahl:=fun _ _ σ H _ I h=>wpAny_execs_nil ⟨σ,H,I,h⟩
theorem Ad0 (h1:PS X st t) (h2:PSs X rest u):PSs X (st::rest) (Al6 t u):=by
 intro pins s σ H D I h
 refine wpAny_execs_cons (thn (h1 pins s σ H { D with nx:=u D} I h) fun f J q=> ?_)
 cases f with
 | next=>
   obtain⟨G,H',L,q⟩:=q
   exact h2 pins J G H' D L q
 | ret v=>exact q
 | brk=>exact q
 | cont=>exact q
theorem Ag4 (h1:PS X st t):PSs X [st] t:=by
 intro pins s σ H D I h
 refine wpAny_execs_cons (thn (h1 pins s σ H D I h) fun f G q=> ?_)
 cases f with
 | next=>exact wpAny_execs_nil q
 | ret v=>exact q
 | brk=>exact q
 | cont=>exact q
theorem Inv.quiet (I:Inv X pins σ H s):interactive X.env=false:=by simp [interactive,I.ok.kind]
noncomputable def Ahj (te:TE):TS:=fun D σ H=>te σ H fun _ H1=>D.nx σ H1
theorem Abe (q:PE X e te) (G:swapsWith e none pos.line X.env=pure false:=by rfl):PS X (.Expr e pos) (Ahj te):=by
 intro pins s σ H D I h
 exact wpAny_Expr_any (thn (q pins s σ H _ I h) fun v M ⟨x,H1,J,O,L⟩=>⟨σ,H1,J,L⟩) I.quiet G
noncomputable def Ann (te:TE):TS:=fun D σ H=>te σ H D.rt
theorem Akb (q:PE X e te):PS X (.Return (some e) pos) (Ann te):=by
 intro pins s σ H D I h
 exact wpAny_Return_some (thn (q pins s σ H _ I h) fun v M ⟨x,H1,G,J,L⟩=>⟨x,σ,H1,G,J,L⟩)
noncomputable def Anj (c:TT) (t u:TS):TS:=fun D σ H=>c σ H fun b H1=>if b=true then t D σ H1 else u D σ H1
theorem Am8 {c:Expr}{a b:List Stmt}{tc:TT} (L:PT X c tc) (M:PSs X a t) (O:PSs X b u):PS X (.If c a b pos) (Anj tc t u):=by
 intro pins s σ H D I h
 refine wpAny_If (thn (L pins s σ H _ I h) fun d q ⟨H1,G,J⟩=> ?_)
 cases d with
 | true=>exact M pins q σ H1 D G J
 | false=>exact O pins q σ H1 D G J
noncomputable def Afc:TS:=fun _ _ _=>False
theorem Ady:PS X st Afc:=fun _ _ _ _ _ _ h=>h.elim
end
noncomputable abbrev TG:=V->St->Hp->(St->Hp->Prop)->Prop
noncomputable abbrev TGs:=List V->St->Hp->(St->Hp->Prop)->Prop
noncomputable def PG (X:Cx) (target:Expr) (t:TG):Prop:=
 ∀(pins:List (Addr × Obj)) (s:Shared) (σ:St) (H:Hp) (v:V) (u:Value) (Q:St->Hp->Prop),Inv X pins σ H s->RelV v u->t v σ H Q->
   wpAny (model X.prog X.w) X.A (assign target X.env u) (fun _ s'=>∃σ' H',Inv X pins σ' H' s'/\Q σ' H') X.xe s
noncomputable def PGs (X:Cx) (ts:List Expr) (t:TGs):Prop:=
 ∀(pins:List (Addr × Obj)) (s:Shared) (σ:St) (H:Hp) (vs:List V) (us:List Value) (Q:St->Hp->Prop),Inv X pins σ H s->Vals vs us->t vs σ H Q->
   wpAny (model X.prog X.w) X.A (assignInOrder ((assignEach ts X.env).map (·.2)) us) (fun _ s'=>∃σ' H',Inv X pins σ' H' s'/\Q σ' H') X.xe s
noncomputable abbrev Aia:=V->V->V->Hp->(Hp->Prop)->Prop
noncomputable def Amd (X:Cx) (t:Aia):Prop:=
 ∀(pins:List (Addr × Obj)) (s:Shared) (σ:St) (H:Hp) (o i v:V) (ov iv u:Value) (Q:Hp->Prop),Inv X pins σ H s->RelV o ov->RelV i iv->RelV v u->t o i v H Q->
   wpAny (model X.prog X.w) X.A (setItem ov iv u) (fun _ s'=>∃H',Inv X pins σ H' s'/\Q H') X.xe s
section
variable {X:Cx}{pos:Pos}
noncomputable def Jq (i:Nat):TG:=fun v σ H Q=>Q (σ.set i (some v)) H
theorem U0 {i:Nat}{x:Str} (q:X.N.Nodup) (hi:X.N[i]? =some x) (G:Loc X.env.scope x) (J:X.fn x=true\/X.env.scope.names.lookup x=some .local :=by first | exact .inl rfl | exact .inr rfl | assumption):PG X (.Name x pos) (Jq i):=by
 intro pins s σ H v u Q I r h
 exact wpAny_assign_Name (Mu I q hi G r (fun s' L=>⟨_,H,L,h⟩) J)
noncomputable def Al2:TGs:=fun vs σ H Q=>vs=[]/\Q σ H
noncomputable def Ud (t:TG) (u:TGs):TGs:=fun vs σ H Q=>∃v r,vs=v::r/\t v σ H fun σ' H'=>u r σ' H' Q
theorem Agu:PGs X [] Al2:=by
 intro pins s σ H q G Q I r h
 obtain⟨e,h⟩:=h
 subst e
 cases r
 exact assignInOrder_nil ⟨σ,H,I,h⟩
theorem Wc {e:Expr}{es:List Expr}{t:TG}{u:TGs} (h1:PG X e t) (h2:PGs X es u)
 (G:(assignEach (e::es) X.env).map (·.2)=assign e X.env::(assignEach es X.env).map (·.2):=by rfl):PGs X (e::es) (Ud t u):=by
 intro pins s σ H W Z Q I r h
 obtain⟨v,vr,J,h⟩:=h
 subst J
 cases r with
 | cons r L=>
   rw [G]
   refine assignInOrder_cons (thn (h1 pins s σ H _ _ _ I r h) fun _ M ⟨q,H1,O,U⟩=> ?_)
   exact h2 pins M q H1 _ _ Q O L U
noncomputable def Ah5 (K:Frag) (n:Nat) (t:TGs):TG:=fun v σ H Q=>∃a xs,v= .ref a/\SqT K H a xs/\xs.length=n/\t xs σ H Q
theorem Wb {es:List Expr}{k:Nat}{t:TGs}{n:Nat} (L:X.calm=true) (h:PGs X es t)
 (M:(assignEach es X.env).length=n:=by rfl) (q:(assignEach es X.env).findIdx? (·.1)=none:=by rfl):PG X (.Tuple es k pos) (Ah5 X.K n t):=by
 intro pins s σ H v u Q I r G
 obtain⟨a,xs,O,U,W,G⟩:=G
 subst O
 cases r
 obtain⟨Z,J,ht,hz⟩:=I.tuple U
 refine assign_Tuple_tuple (I.ok.hd L) ht (by simp [M,<-W,J.length]) q fun h' hx=> ?_
 have I1:Inv X pins σ H { s with heap:=h'}:=I.kept (t':=s.toks) fun b o e=>hx b o (aV (aM e)) e
 exact h pins _ σ H xs _ Q I1 (by simpa using J) G
noncomputable def Amq (to ti:TE) (t:Aia):TG:=fun v σ H Q=>to σ H fun o H1=>ti σ H1 fun i H2=>t o i v H2 fun H3=>Q σ H3
theorem Ae0 {o i:Expr}{to J:TE}{t:Aia} (L:PE X o to) (hi:PE X i J) (M:Amd X t)
 (O:∀v,assign (.Subscript o i pos) X.env v=(do
   let q<-holding [v] (eval o X.env)
   let G<-holding [v,q] (eval i X.env)
   standAt pos
   holding [v,q,G] (setItem q G v)
   release [v,q,G] []):=by intro _;rfl):PG X (.Subscript o i pos) (Amq to J t):=by
 intro pins s σ H v u Q I r h
 rw [O]
 refine aA (dP (thn (L pins s σ H _ I h) fun q U ⟨x,H1,W,Z,q1⟩=> ?_))
 refine aA (dP (thn (hi pins U σ H1 _ W q1) fun G s2 ⟨y,H2,I2,r2,q2⟩=> ?_))
 refine aA (wpAny_standAt (aA (dP (thn (M pins s2 σ H2 x y v q G u _ I2 Z r2 r q2) fun _ s3 ⟨H3,I3,q3⟩=> ?_))))
 exact wpAny_release ⟨σ,H3,I3,q3⟩
noncomputable def Ad5 (te:TE) (g:TG):TS:=fun D σ H=>te σ H fun x H1=>g x σ H1 D.nx
theorem Wg {tg e:Expr}{te:TE}{g:TG} (G:PE X e te) (J:PG X tg g) (L:swapsWithSole [tg] e pos.line X.env=pure false:=by rfl) (M:swappedStores [tg] e X.env=pure none:=by rfl)
 (h1:(assignEach [tg] X.env).map (·.2)=[assign tg X.env]:=by rfl):PS X (.Assign [tg] e pos) (Ad5 te g):=by
 intro pins s σ H D I h
 refine wpAny_Assign_stores (thn (G pins s σ H _ I h) fun v O ⟨x,H1,U,W,Z⟩=> ?_) L M
 rw [h1]
 exact thn (J pins O σ H1 x v _ U W Z) fun _ s2 q=>q
theorem Wi {i:Nat}{x:Str}{e:Expr}{te:TE}{pos':Pos} (q:X.N.Nodup) (hi:X.N[i]? =some x) (G:Loc X.env.scope x) (J:PE X e te) (L:swapsWith e (some (.Name x pos')) pos.line X.env=pure false:=by rfl) (M:X.fn x=true\/X.env.scope.names.lookup x=some .local :=by first | exact .inl rfl | exact .inr rfl | assumption):
 PS X (.Assign [.Name x pos'] e pos) (Ad5 te (Jq i)):=by
 intro pins s σ H D I h
 refine wpAny_Assign_Name (thn (J pins s σ H _ I h) fun v s1 ⟨y,H1,O,U,W⟩=> ?_) L
 exact Mu O q hi G U (fun s2 Z=>⟨_,H1,Z,W⟩) M
noncomputable def Anm (i j:Nat) (ta:TA):TS:=fun D σ H=>ta σ H fun vs H1=>∃v w,vs=[v,w]/\D.nx ((σ.set i (some v)).set j (some w)) H1
theorem Ae6 {i j:Nat}{x y:Str}{a b:Expr}{ta:TA}{M O pt:Pos}{kt k2 pt2} (hc:X.calm=true) (hN:X.N.Nodup) (hi:X.N[i]? =some x) (hj:X.N[j]? =some y) (U:i≠j)
 (hx:X.env.scope.names.lookup x=some .local) (hy:X.env.scope.names.lookup y=some .local) (ha:PA X [a,b] ta)
 (hw:swappedStores [.Tuple [.Name x M,.Name y O] kt pt] (.Tuple [a,b] k2 pt2) X.env=pure (some [x,y]))
 (hs:swapsWithSole [.Tuple [.Name x M,.Name y O] kt pt] (.Tuple [a,b] k2 pt2) pos.line X.env=pure false:=by rfl):
 PS X (.Assign [.Tuple [.Name x M,.Name y O] kt pt] (.Tuple [a,b] k2 pt2) pos) (Anm i j ta):=by
 intro pins s σ H D I h
 rw [exec_Assign_arm]
 refine aA (wpAny_standAt ?_)
 rw [hs]
 refine aA (aE ?_)
 rw [aF (by decide)]
 refine aA (Tuple_ (thn (ha _ pins s σ H _ I h) fun us G ⟨vs,H1,I1,r1,W⟩=> ?_))
 obtain⟨v,w,e1,W⟩:=W
 subst e1
 obtain⟨J,L,rfl,rv,Z⟩:∃J L,us=[J,L]/\RelV v J/\RelV w L:=by
  cases r1 with
  | cons p q=>
    cases q with
    | cons p' q'=>
      cases q'
      exact⟨_,_,rfl,p,p'⟩
 refine cG ?_ (by show 2<=sizeLine;decide)
 have I2:Inv X pins σ H1 { G with heap:=G.heap.push { cls:= .type "tuple",data:= .seq [J,L].toArray}}:=I1.kept (t':=G.toks) fun b o e=>aC _ e
 rw [hw]
 refine aA (aE ?_)
 show wpAny (model X.prog X.w) X.A (do rule "assign.swapped-stores";let items<-unpackItems (.ref G.heap.objs.size) 2 none;assignInOrder [fun v=>bindName X.env y v,fun v=>bindName X.env x v] items.reverse;pure Flow.next) _ _ _
 refine aA (jL (aA (unpackItems_tuple (items:= #[J,L]) (I.ok.hd hc) (IsTup.new G.heap _) fun h' a0=> ?_)))
 have I3:=I2.kept (h':=h') (t':=G.toks) fun b o e=>a0 b o (aV (aM e)) e
 show wpAny _ _ (assignInOrder [fun v=>bindName X.env y v,fun v=>bindName X.env x v] [L,J]>>=fun _=>pure Flow.next) _ _ _
 refine aA (assignInOrder_cons (wpAny_bindName (Mu I3 hN hj (.inl hy) Z (fun s2 I4=> ?_) (.inr hy))))
 refine assignInOrder_cons (wpAny_bindName (Mu I4 hN hi (.inl hx) rv (fun s3 I5=>assignInOrder_nil (aE ?_)) (.inr hx)))
 rw [List.set_comm _ _ (cS U)]at I5
 exact⟨_,H1,I5,W⟩
end
section
variable {X:Cx}{pos:Pos}
noncomputable def Wq (c:TT) (tb:TS):TS:=fun D σ H=>∃W:Nat->St->Hp->Prop,(∃m,W m σ H)/\∀m σ H,W m σ H->
 c σ H fun b H1=>if b=true then ∃N:St->Hp->Prop,(∀σ' H',N σ' H'->∃m',m'<m/\W m' σ' H')/\tb { D with nx:=N,ct:=N,bk:=D.nx} σ H1 else D.nx σ H1
theorem Adz {c:Expr}{J:List Stmt}{tc:TT}{tb:TS} (hp:PassesOwn (model X.prog X.w) X.A X.env X.xe) (hc:PT X c tc) (hb:PSs X J tb):PS X (.While c J [] pos) (Wq tc tb):=by
 intro pins s σ H D I h
 obtain⟨W,⟨m0,w0⟩,L⟩:=h
 refine wpAny_While (codeAny_whileLoop (fun n s'=>∃M H',Inv X pins M H' s'/\W n M H') ?_ m0 ⟨σ,H,I,w0⟩)
 rintro n s1 ⟨G,H1,I1,w1⟩
 refine gK hp (thn (hc pins s1 G H1 _ I1 (L n G H1 w1)) fun b s2 ⟨H2,I2,U⟩=> ?_)
 cases b with
 | true=>
   obtain⟨N,hN,U⟩:=U
   rw [aI rfl]
   refine gK hp (thn (hb pins s2 G H2 _ I2 U) fun f s3 Z=> ?_)
   cases f with
   | next=>
     obtain⟨q,O,I3,n3⟩:=Z
     obtain⟨m',hm,w3⟩:=hN q O n3
     exact⟨m',hm,q,O,I3,w3⟩
   | cont=>
     obtain⟨q,O,I3,n3⟩:=Z
     obtain⟨m',hm,w3⟩:=hN q O n3
     exact⟨m',hm,q,O,I3,w3⟩
   | brk=>exact Z
   | ret v=>exact Z
 | false=>
   rw [aF aY]
   exact wpAny_execs_nil ⟨G,H2,I2,U⟩
end
structure It where
 go:Nat->Hp->Prop
 yld:Nat->Hp->V->Hp->Prop
 stop:Nat->Hp->Prop
noncomputable def P0 (X:Cx) (pins:List (Addr × Obj)) (H:Hp) (b:Addr):Prop:=
 H b=none/\b≠X.env.locals/\b∉X.fs/\(b∈X.ex\/X.s₀.heap.objs.size<=b)/\(∀x c,X.env.cells.lookup x=some c->c≠b)/\∀p∈X.pn++pins,p.1≠b
variable {H':Hp}
theorem Inv.fpOk (I:Inv X pins σ H s) (G:s.heap.objs.size<=b) (J:H' b=none):P0 X pins H' b:=by
 refine⟨J,eI (bH I.lt G),I.nofs G,.inr (aO I.sz G),fun x c e z=> ?_,fun p hp z=> ?_⟩
 . obtain⟨v,q⟩:=I.cell x c e
   exact absurd (bH q.lt (by rw [z];exact G)) (dD _)
 . exact absurd (bH (aM (I.pin p hp).1) (by rw [z];exact G)) (dD _)
structure Turn (P:Program) (w:World) (K:Frag) (tg:Expr) (J:It) (fp:List Addr) (it:Addr) (tn:Nat->Heap->Prop):Prop where
 mem:it∈fp
 obj:∀i h,tn i h->∀b∈fp,∃o,h.get? b=some o/\∀v,o.data≠ .cell v
 keep:∀i h h',tn i h->(∀b∈fp,∀o,h.get? b=some o->h'.get? b=some o)->tn i h'
 item:∀(X:Cx),X.prog=P->X.w=w->X.K=K->X.calm=true->∀(i:Nat) (pins:List (Addr × Obj)) (s:Shared) (σ:St) (H:Hp) (E:Value->Shared->Prop),Inv X pins σ H s->(∀b∈fp,P0 X pins H b)->tn i s.heap->J.go i H->
  wpAny (model P w) X.A (pyNext (.ref it)) (fun r s1=>∃u,r=some u/\
   wpAny (model P w) X.A (letOwnedTupleGo tg (.ref it) u) (fun _ s2=>∃x H',Inv X pins σ H' s2/\RelV x u/\J.yld i H x H'/\tn (i+1) s2.heap/\∀b∈fp,H' b=none) E s1) E s
 done:∀(X:Cx),X.prog=P->X.w=w->X.K=K->X.calm=true->∀(i:Nat) (pins:List (Addr × Obj)) (s:Shared) (σ:St) (H:Hp) (E:Value->Shared->Prop),Inv X pins σ H s->(∀b∈fp,P0 X pins H b)->tn i s.heap->J.stop i H->
  wpAny (model P w) X.A (pyNext (.ref it)) (fun r s1=>r=none/\Inv X pins σ H s1) E s
 self:∀(A:Around) (i:Nat) (s:Shared) (Q:Value->Shared->Prop) (E:Value->Shared->Prop),tn i s.heap->Q (.ref it) s->wpAny (model P w) A (pyIter (.ref it)) Q E s
noncomputable abbrev TI:=St->Hp->(It->Hp->Prop)->Prop
noncomputable def PIE (X:Cx) (pins:List (Addr × Obj)) (σ:St) (tg:Expr) (R:It->Hp->Prop) (itv:Value) (s2:Shared):Prop:=
 ∃(it:Addr) (fp:List Addr) (tn:Nat->Heap->Prop) (J:It) (H':Hp),itv= .ref it/\Inv X pins σ H' s2/\Turn X.prog X.w X.K tg J fp it tn/\tn 0 s2.heap/\(∀b∈fp,P0 X pins H' b)/\R J H'
noncomputable def PI (X:Cx) (tg iter:Expr) (wi:TI):Prop:=
 ∀(pins:List (Addr × Obj)) (s:Shared) (σ:St) (H:Hp) (R:It->Hp->Prop),Inv X pins σ H s->wi σ H R->
   wpAny (model X.prog X.w) X.A (eval iter X.env) (fun v s1=>wpAny (model X.prog X.w) X.A (pyIter v) (PIE X pins σ tg R) X.xe s1) X.xe s
theorem Adb {M:Model}{A:Around}{E:Value->Shared->Prop}{tg:Expr}{u:Value}{o:Obj}{n:String}{vs:Array Value}{Q:Unit->Shared->Prop} (G:s.heap.get? it=some o) (J:o.cls= .type n) (L:o.data= .fields vs)
 (O:["enumerate","zip","dict_itemiterator","dict_reverseitemiterator","odict_iterator","itertools.zip_longest","itertools.pairwise"].contains n=false) (q:Q () s):wpAny M A (letOwnedTupleGo tg (.ref it) u) Q E s:=by
 unfold letOwnedTupleGo
 cases tg<;>first
  | exact aE q
  | (cases u<;>first
      | exact aE q
      | (refine aA (wpAny_load G ?_)
         rw [J,L]
         show wpAny M A (if(["enumerate","zip","dict_itemiterator","dict_reverseitemiterator","odict_iterator","itertools.zip_longest","itertools.pairwise"].contains n&&vs[0]? ==some (rawInt _))=true then _ else _) Q E s
         rw [aF (by intro h;rw [O,Bool.false_and]at h;cases h)]
         exact aE q))
noncomputable def Itl (K:Frag) (a:Addr):It:=
 ⟨fun i H=>∃xs x,SqL K H a xs/\xs[i]? =some x,fun i H x H'=>H'=H/\∀xs,SqL K H a xs->xs[i]? =some x,fun i H=>∃xs,SqL K H a xs/\xs.length<=i⟩
noncomputable def Itt (K:Frag) (a:Addr):It:=
 ⟨fun i H=>∃xs x,SqT K H a xs/\xs[i]? =some x,fun i H x H'=>H'=H/\∀xs,SqT K H a xs->xs[i]? =some x,fun i H=>∃xs,SqT K H a xs/\xs.length<=i⟩
noncomputable def Itr (lo:Int) (n:Nat):It:=⟨fun i _=>i<n,fun i H x H'=>H'=H/\x= .int (lo+i),fun i _=>n<=i⟩
variable {tg:Expr}
theorem Tc {K:Frag} (a it:Addr):Turn P w K tg (Itl K a) [it] it (fun i h=>h.IsListIter it a i) where
 mem:=by simp
 obj:=fun i h st b q=>by
  have e:b=it:=by simpa using q
  subst e
  obtain⟨o,e,c,d⟩:=st
  exact⟨o,e,fun v z=>by rw [d]at z;cases z⟩
 keep:=fun i h h' st k=>st.at fun o e=>k it (by simp) o e
 item:=by
  intro X M O U hc i pins s σ H E I J st Z
  subst M O U
  obtain⟨xs,x,L,hx⟩:=Z
  obtain⟨a0,rv,p,hz⟩:=I.list L
  obtain⟨u,hu,ru⟩:=rv.get hx
  obtain⟨f0,f1,f2,f3,f4,f5⟩:=J it (by simp)
  refine wpAny_pyNext_list_item st p.isList (x:=u) (by simpa using hu) fun h' G sb=> ?_
  have I1:Inv X pins σ H { s with heap:=h'}:=I.turned (t':=s.toks) (fun b o q e=>(sb.2 b q).trans e) f0 f1 f3 f4 f5
  obtain⟨o,e,c,d⟩:=id G
  exact⟨u,rfl,Adb (s:={ s with heap:=h'}) e c d (by decide) ⟨x,H,I1,ru,⟨rfl,fun ys hy=>by rw [I.list_inj hy L];exact hx⟩,G,fun b q=>(J b q).1⟩⟩
 done:=by
  intro X M O U hc i pins s σ H E I J st Z
  subst M O U
  obtain⟨xs,L,hx⟩:=Z
  obtain⟨a0,rv,p,hz⟩:=I.list L
  obtain⟨f0,f1,f2,f3,f4,f5⟩:=J it (by simp)
  have hl:=rv.length
  exact wpAny_pyNext_list_end (I.ok.hd hc) st p.isList (by simp;omega) fun h' eb=>⟨rfl,I.turned (t':=s.toks) (fun b o q e=>eb b o q e) f0 f1 f3 f4 f5⟩
 self:=fun _ _ _ _ _ st h=>wpAny_pyIter_listiter st h
theorem Py {K:Frag} (a it:Addr):Turn P w K tg (Itt K a) [it] it (fun i h=>h.IsTupleIter it a i) where
 mem:=by simp
 obj:=fun i h st b q=>by
  have e:b=it:=by simpa using q
  subst e
  obtain⟨o,e,c,d⟩:=st
  exact⟨o,e,fun v z=>by rw [d]at z;cases z⟩
 keep:=fun i h h' st k=>st.at fun o e=>k it (by simp) o e
 item:=by
  intro X O U Z hc i pins s σ H E I L st hg
  subst O U Z
  obtain⟨xs,x,M,hx⟩:=hg
  obtain⟨G,rv,p,hz⟩:=I.tuple M
  obtain⟨u,hu,ru⟩:=rv.get hx
  obtain⟨f0,f1,f2,f3,f4,f5⟩:=L it (by simp)
  refine wpAny_pyNext_tuple_item st (show s.heap.IsTuple a G.toArray from p) (x:=u) (by simpa using hu) fun h' J sb=> ?_
  have I1:Inv X pins σ H { s with heap:=h'}:=I.turned (t':=s.toks) (fun b o q e=>(sb.2 b q).trans e) f0 f1 f3 f4 f5
  obtain⟨o,e,c,d⟩:=id J
  exact⟨u,rfl,Adb (s:={ s with heap:=h'}) e c d (by decide) ⟨x,H,I1,ru,⟨rfl,fun ys hy=>by rw [I.tuple_inj hy M];exact hx⟩,J,fun b q=>(L b q).1⟩⟩
 done:=by
  intro X O U Z hc i pins s σ H E I L st hg
  subst O U Z
  obtain⟨xs,M,hx⟩:=hg
  obtain⟨G,rv,p,hz⟩:=I.tuple M
  obtain⟨f0,f1,f2,f3,f4,f5⟩:=L it (by simp)
  have hl:=rv.length
  exact wpAny_pyNext_tuple_end (I.ok.hd hc) st (show s.heap.IsTuple a G.toArray from p) (by simp;omega) fun h' eb=>⟨rfl,I.turned (t':=s.toks) (fun b o q e=>eb b o q e) f0 f1 f3 f4 f5⟩
 self:=fun _ _ _ _ _ st h=>wpAny_pyIter_tupleiter st h
theorem Yl {K:Frag} (it:Addr) (lo:Int) (n:Nat):Turn P w K tg (Itr lo n) [it] it (fun i h=>IsRangeIter h it (lo+(i:Nat)*1) ((n:Int)-(i:Nat)) 1) where
 mem:=by simp
 obj:=fun i h st b q=>by
  have e:b=it:=by simpa using q
  subst e
  exact⟨_,st,fun v z=>by
   have z':Data.fields _=Data.cell v:=z
   cases z'⟩
 keep:=fun i h h' st k=>k it (by simp) _ st
 item:=by
  intro X L M O U i pins s σ H E I J st Z
  subst L M O
  obtain⟨f0,f1,f2,f3,f4,f5⟩:=J it (by simp)
  have W:=Walks.range (prog:=X.prog) (w:=X.w) (I.ok.hd U) it lo 1 n
  refine W.item i s _ _ Z st fun v h' tk hv G kk=> ?_
  obtain⟨t,rfl⟩:=hv
  have I1:Inv X pins σ H { s with heap:=h',toks:=tk}:=I.turned (fun b o q e=>kk b o (by simpa using q) e) f0 f1 f3 f4 f5
  refine⟨_,rfl,Adb (s:={ s with heap:=h',toks:=tk}) (n:="range_iterator") G rfl rfl (by decide) ⟨.int (lo+i),H,I1,⟨t,?_⟩,⟨rfl,rfl⟩,G,fun b q=>(J b q).1⟩⟩
  rw [jE]
 done:=by
  intro X L M O U i pins s σ H E I J st Z
  subst L M O
  obtain⟨f0,f1,f2,f3,f4,f5⟩:=J it (by simp)
  exact wpAny_pyNext_range_end (I.ok.hd U) st (by have:n<=i:=Z;omega) fun h' eb=>⟨rfl,I.turned (t':=s.toks) (fun b o q e=>eb b o q e) f0 f1 f3 f4 f5⟩
 self:=fun _ _ _ _ _ st h=>wpAny_pyIter_rangeiter st h
variable {fp:List Addr}
section
variable {X:Cx}{tg:Expr}
noncomputable def Af0 (K:Frag) (tl:TE):TI:=fun σ H R=>tl σ H fun x H1=>∃a,x= .ref a/\(∃xs,SqL K H1 a xs)/\R (Itl K a) H1
noncomputable def Amw (K:Frag) (tl:TE):TI:=fun σ H R=>tl σ H fun x H1=>∃a,x= .ref a/\(∃xs,SqT K H1 a xs)/\R (Itt K a) H1
theorem Agv {l:Expr}{tl:TE} (L:PE X l tl):PI X tg l (Af0 X.K tl):=by
 intro pins s σ H R I h
 refine thn (L pins s σ H _ I h) fun v G ⟨x,H1,J,M,O⟩=> ?_
 obtain⟨a,e,⟨xs,U⟩,q⟩:=O
 subst e
 cases M
 obtain⟨W,rv,p,hz⟩:=J.list U
 refine gS p.isList ?_
 refine⟨G.heap.objs.size,[G.heap.objs.size],_,_,H1,rfl,J.kept (t':=G.toks) fun b o e=>aC _ e,Tc a _,⟨_,aN _ rfl,rfl,rfl⟩,fun b Z=> ?_,q⟩
 have e:b=G.heap.objs.size:=by simpa using Z
 subst e
 exact J.fpOk (aH _) (J.hok.fresh (aH _))
theorem Aj5 {l:Expr}{tl:TE} (M:PE X l tl):PI X tg l (Amw X.K tl):=by
 intro pins s σ H R I h
 refine thn (M pins s σ H _ I h) fun v G ⟨x,H1,J,O,U⟩=> ?_
 obtain⟨a,e,⟨xs,W⟩,q⟩:=U
 subst e
 cases O
 obtain⟨L,rv,p,hz⟩:=J.tuple W
 refine kH (show G.heap.IsTuple a L.toArray from p) ?_
 refine⟨G.heap.objs.size,[G.heap.objs.size],_,_,H1,rfl,J.kept (t':=G.toks) fun b o e=>aC _ e,Py a _,⟨_,aN _ rfl,rfl,rfl⟩,fun b Z=> ?_,q⟩
 have e:b=G.heap.objs.size:=by simpa using Z
 subst e
 exact J.fpOk (aH _) (J.hok.fresh (aH _))
theorem Ad1 {R:It->Hp->Prop}{E:Value->Shared->Prop}{lo hi:Int}{t u v:Tok}{tk:Nat} (I:Inv X pins σ H s) (h1: -(2^62)<=lo) (h2:lo<2^62) (J: -(2^62)<=hi) (L:hi<2^62)
 (q:R (Itr lo (hi-lo).toNat) H):wpAny (model X.prog X.w) X.A (pyIter (.ref s.heap.objs.size)) (PIE X pins σ tg R) E { s with heap:=s.heap.push { cls:= .type "range",data:= .fields #[.int lo t,.int hi u,.int 1 v]},toks:=tk}:=by
 refine wpAny_pyIter_range (IsRange.new ..) (small_one h1 h2 J L) ?_
 have G:Inv X pins σ H { s with heap:=s.heap.push { cls:= .type "range",data:= .fields #[.int lo t,.int hi u,.int 1 v]},toks:=tk}:=I.kept fun b o e=>aC _ e
 refine⟨(s.heap.push { cls:= .type "range",data:= .fields #[.int lo t,.int hi u,.int 1 v]}).objs.size,[(s.heap.push { cls:= .type "range",data:= .fields #[.int lo t,.int hi u,.int 1 v]}).objs.size],_,_,H,rfl,
  G.kept (t':=tk) fun b o e=>aC _ e,Yl _ lo (hi-lo).toNat,?_,fun b M=> ?_,q⟩
 . have O:lo+((0:Nat):Int)*1=lo:=by simp
   have U:(((hi-lo).toNat:Nat):Int)-((0:Nat):Int)=Builtin.Range.rangeSize lo hi 1:=by rw [rangeSize_one];split<;>omega
   show IsRangeIter _ _ (lo+((0:Nat):Int)*1) ((((hi-lo).toNat:Nat):Int)-((0:Nat):Int)) 1
   rw [O,U]
   exact aN _ rfl
 . have e:b=(s.heap.push { cls:= .type "range",data:= .fields #[.int lo t,.int hi u,.int 1 v]}).objs.size:=by simpa using M
   subst e
   exact G.fpOk (aH _) (G.hok.fresh (aH _))
noncomputable def Af1 (ta:TA):TI:=fun σ H R=>ta σ H fun vs H1=>∃j:Int,vs=[.int j]/\ -(2^62)<=j/\j<2^62/\R (Itr 0 j.toNat) H1
theorem Sv {a:Expr}{ta:TA}{p pos:Pos} (J:Gl X "range") (L:X.mg "range"=none) (M:PA X [a] ta) (O:starEach [a] X.env=[(false,eval a X.env)]:=by rfl):PI X tg (.Call (.Name "range" p) [a] [] pos) (Af1 ta):=by
 intro pins s σ H R I h
 refine Call_ (Lp I J L boot_range (eW (thn (M pos pins s σ H _ I h) fun us s1 ⟨vs,H1,U,W,G⟩=> ?_) O rfl))
 obtain⟨j,e,G,Z,q⟩:=G
 subst e
 cases W with
 | cons r rr=>
   cases rr
   obtain⟨t,rfl⟩:=r
   exact call_range_1 (Ad1 U (by omega) (by omega) G Z (by simpa using q))
noncomputable def Ani (wi:TI) (g:TG) (tb:TS):TS:=fun D σ H=>wi σ H fun J H1=>∃W:Nat->Nat->St->Hp->Prop,(∃m,W 0 m σ H1)/\∀i m σ H,W i m σ H->
 (J.stop i H/\D.nx σ H)\/(J.go i H/\∃N:St->Hp->Prop,(∀σ' H',N σ' H'->∃m',m'<m/\W (i+1) m' σ' H')/\∀x H',J.yld i H x H'->g x σ H' fun σ2 H2=>tb { D with nx:=N,ct:=N,bk:=D.nx} σ2 H2)
noncomputable def Sw (fp:List Addr) (h:Heap):List (Addr × Obj):=fp.filterMap fun b=>(h.get? b).map fun o=>(b,o)
theorem Hg {o:Obj} (q:b∈fp) (e:h.get? b=some o):(b,o)∈Sw fp h:=List.mem_filterMap.mpr ⟨b,q,by rw [e];rfl⟩
theorem Aaw {p:Addr × Obj} (hp:p∈Sw fp h):p.1∈fp/\h.get? p.1=some p.2:=by
 obtain⟨b,G,e⟩:=List.mem_filterMap.mp hp
 cases q:h.get? b with
 | none=>rw [q]at e;cases e
 | some o=>
   rw [q]at e
   have J:(b,o)=p:=bE e
   subst J
   exact⟨G,q⟩
theorem Inv.pinned (I:Inv X pins σ H s) (J:∀b∈fp,P0 X pins H b) (L:∀b∈fp,∃o,s.heap.get? b=some o/\∀v,o.data≠ .cell v):Inv X (pins++Sw fp s.heap) σ H s:=
 I.pins_of fun p hp=>(bG.mp hp).elim (fun z=>I.pin p (bI _ z)) fun z=>by
  obtain⟨q,e⟩:=Aaw z
  obtain⟨M,O,U,_⟩:=J p.1 q
  obtain⟨o,G,d⟩:=L p.1 q
  rw [e]at G;cases G
  exact⟨e,M,O,U,d⟩
theorem Inv.unpinned {q:List (Addr × Obj)} (I:Inv X (pins++q) σ H s):Inv X pins σ H s:=I.pins_of fun p hp=>I.pin p (bI _ (bD _ hp))
theorem Ae5 {iter:Expr}{a0:List Stmt}{wi:TI}{g:TG}{tb:TS}{pos:Pos} (hp:PassesOwn (model X.prog X.w) X.A X.env X.xe) (hc:X.calm=true) (hi:PI X tg iter wi) (hg:PG X tg g) (G:PSs X a0 tb)
 (hs:∀x,foldedSetIterable iter X.env x=pure x:=by intro _;rfl):PS X (.For tg iter a0 [] pos) (Ani wi g tb):=by
 intro pins s σ H D I h
 refine wpAny_For (thn (hi pins s σ H _ I h) fun v s1 h1=>thn h1 fun a9 s2 h2=> ?_) hs
 obtain⟨it,fp,tn,J,H2,e,I2,T,a5,f2,W,⟨m0,w0⟩,a2⟩:=h2
 subst e
 have L:∀ {H':Hp},(∀b∈fp,H' b=none)->∀b∈fp,P0 X pins H' b:=fun hn b G=>⟨hn b G,(f2 b G).2⟩
 refine codeAny_forLoop_any (fun n s'=>∃i M H',Inv X pins M H' s'/\tn i s'.heap/\(∀b∈fp,H' b=none)/\W i n M H') ?_ m0 ⟨0,σ,H2,I2,a5,fun b G=>(f2 b G).1,w0⟩
 rintro n s3 ⟨i,O,H3,I3,a3,a4,w3⟩
 rcases a2 i n O H3 w3 with⟨stop,qn⟩ | ⟨go,N,hN,step⟩
 . refine gK hp (thn (T.done X rfl rfl rfl hc i pins s3 O H3 X.xe I3 (L a4) a3 stop) fun r s4 ⟨hr,I4⟩=> ?_)
   subst hr
   exact wpAny_execs_nil ⟨O,H3,I4,qn⟩
 . refine gK hp (thn (T.item X rfl rfl rfl hc i pins s3 O H3 X.xe I3 (L a4) a3 go) fun r s4 ⟨u,hr,h4⟩=> ?_)
   subst hr
   refine gK hp (thn h4 fun _ s5 ⟨x,H5,I5,r5,y5,a1,a6⟩=> ?_)
   have a7:=I5.pinned (L a6) (T.obj _ _ a1)
   refine gK hp (thn (hg _ s5 O H5 x u _ a7 r5 (step x H5 y5)) fun _ s6 ⟨a8,H6,I6,q6⟩=> ?_)
   refine gK hp (thn (G _ s6 a8 H6 _ I6 q6) fun f s7 q7=> ?_)
   have again:∀ {q:St}{U:Hp},Inv X (pins++Sw fp s5.heap) q U s7->N q U->∃m,m<n/\∃i M H',Inv X pins M H' s7/\tn i s7.heap/\(∀b∈fp,H' b=none)/\W i m M H':=fun {q U} Z n7=>by
    obtain⟨m',hm,w7⟩:=hN q U n7
    refine⟨m',hm,i+1,q,U,Z.unpinned,T.keep _ _ _ a1 fun b G o e=>(Z.pin (b,o) (bI _ (bI _ (Hg G e)))).1,fun b G=> ?_,w7⟩
    obtain⟨o,e,d⟩:=T.obj _ _ a1 b G
    exact(Z.pin (b,o) (bI _ (bI _ (Hg G e)))).2.1
   cases f with
   | next=>obtain⟨q,U,Z,n7⟩:=q7;exact again Z n7
   | cont=>obtain⟨q,U,Z,n7⟩:=q7;exact again Z n7
   | brk=>obtain⟨q,U,Z,q7⟩:=q7;exact⟨q,U,Z.unpinned,q7⟩
   | ret v=>obtain⟨x7,q,U,Z,r7,q7⟩:=q7;exact⟨x7,q,U,Z.unpinned,r7,q7⟩
end
noncomputable abbrev R2:=V->V->Hp->VK->Prop
noncomputable def OpR (X:Cx) (f:Value->Value->Sem Value) (r:R2):Prop:=
 ∀(pins:List (Addr × Obj)) (s:Shared) (σ:St) (H:Hp) (x y:V) (v u:Value) (Q:VK),Inv X pins σ H s->RelV x v->RelV y u->r x y H Q->
   wpAny (model X.prog X.w) X.A (f v u) (EP X pins σ Q) X.xe s
noncomputable def UnR (X:Cx) (f:Value->Sem Value) (r:V->Hp->VK->Prop):Prop:=
 ∀(pins:List (Addr × Obj)) (s:Shared) (σ:St) (H:Hp) (x:V) (v:Value) (Q:VK),Inv X pins σ H s->RelV x v->r x H Q->
   wpAny (model X.prog X.w) X.A (f v) (EP X pins σ Q) X.xe s
noncomputable def Gv (X:Cx) (f:Value) (r:List V->Hp->VK->Prop):Prop:=
 ∀(pins:List (Addr × Obj)) (s:Shared) (σ:St) (H:Hp) (xs:List V) (us:List Value) (Q:VK),Inv X pins σ H s->Vals xs us->r xs H Q->
   wpAny (model X.prog X.w) X.A (call f us) (EP X pins σ Q) X.xe s
noncomputable def tOp (r:R2) (ta tb:TE):TE:=fun σ H Q=>ta σ H fun x H1=>tb σ H1 fun y H2=>r x y H2 Q
noncomputable def tUn (r:V->Hp->VK->Prop) (ta:TE):TE:=fun σ H Q=>ta σ H fun x H1=>r x H1 Q
noncomputable def rI (C:Int->Int->Prop) (g:Int->Int->V):R2:=fun x y H Q=>∃i j,x= .int i/\y= .int j/\C i j/\Q (g i j) H
noncomputable def rI0 (g:Int->Int->V):R2:=fun x y H Q=>∃i j,x= .int i/\y= .int j/\Q (g i j) H
noncomputable def rU (g:Int->V):V->Hp->VK->Prop:=fun x H Q=>∃i,x= .int i/\Q (g i) H
section
variable {X:Cx}{a b c:Expr}{ta tb tc:TE}{pos:Pos}
theorem Amh (L:PE X a ta) (M:PE X b tb) {R:V->V->Hp->Prop} (I:Inv X pins σ H s)
 (h:ta σ H fun x H1=>tb σ H1 fun y H2=>R x y H2) {Q:Value->Shared->Prop}{f:Value->Value->Sem Value}
 (O:∀v u J x y H2,Inv X pins σ H2 J->RelV x v->RelV y u->R x y H2->wpAny (model X.prog X.w) X.A (f v u) Q X.xe J):
 wpAny (model X.prog X.w) X.A (eval a X.env) (fun v q=>wpAny (model X.prog X.w) X.A (eval b X.env) (fun u G=>wpAny (model X.prog X.w) X.A (f v u) Q X.xe G) X.xe q) X.xe s:=by
 refine thn (L pins s σ H _ I h) fun v U ⟨x,H1,W,Z,q1⟩=> ?_
 refine thn (M pins U σ H1 _ W q1) fun u J ⟨y,H2,I2,r2,q2⟩=> ?_
 exact O v u J x y H2 I2 Z r2 q2
theorem Am5 {op:Operator}{r:R2} (G:OpR X (binaryOp op) r) (J:PE X a ta) (L:PE X b tb):PE X (.BinOp a op b pos) (tOp r ta tb):=by
 intro pins s σ H Q I h
 exact wpAny_BinOp (Amh J L I h fun v u M x y H2 O U W q=>G pins M σ H2 x y v u Q O U W q)
theorem Am6 {op:UnaryOp}{r:V->Hp->VK->Prop} (q:UnR X (unaryOp op) r) (G:PE X a ta):PE X (.UnaryOp op a pos) (tUn r ta):=by
 intro pins s σ H Q I h
 exact UnaryOp_ (thn (G pins s σ H _ I h) fun v J ⟨x,H1,L,M,O⟩=>q pins J σ H1 x v Q L M O)
theorem opI {f:Value->Value->Sem Value}{C:Int->Int->Prop}{g:Int->Int->Int}
 (G:∀(i j:Int) (t u:Tok) (s:Shared) (Q:Value->Shared->Prop) (E:Value->Shared->Prop),C i j->Q (.int (g i j) s.toks) { s with toks:=s.toks+1}->wpAny (model X.prog X.w) X.A (f (.int i t) (.int j u)) Q E s):
 OpR X f (rI C fun i j=> .int (g i j)):=by
 intro pins s σ H x y v u Q I J L h
 obtain⟨i,j,rfl,rfl,M,q⟩:=h
 obtain⟨t,rfl⟩:=J
 obtain⟨O,rfl⟩:=L
 exact G i j t O s _ _ M ⟨.int (g i j),H,I.tok _,⟨_,rfl⟩,q⟩
theorem Ao6 {f:Value->Value->Sem Value}{g:Int->Int->Int}
 (G:∀(i j:Int) (t u:Tok) (s:Shared) (Q:Value->Shared->Prop) (E:Value->Shared->Prop),Q (.int (g i j) s.toks) { s with toks:=s.toks+1}->wpAny (model X.prog X.w) X.A (f (.int i t) (.int j u)) Q E s):
 OpR X f (rI0 fun i j=> .int (g i j)):=by
 intro pins s σ H x y v u Q I J L h
 obtain⟨i,j,rfl,rfl,q⟩:=h
 obtain⟨t,rfl⟩:=J
 obtain⟨M,rfl⟩:=L
 exact G i j t M s _ _ ⟨.int (g i j),H,I.tok _,⟨_,rfl⟩,q⟩
theorem Al3 {f:Value->Value->Sem Value}{g:Int->Int->Bool}
 (G:∀(i j:Int) (t u:Tok) (s:Shared) (Q:Value->Shared->Prop) (E:Value->Shared->Prop),Q (.bool (g i j)) s->wpAny (model X.prog X.w) X.A (f (.int i t) (.int j u)) Q E s):
 OpR X f (rI0 fun i j=> .bl (g i j)):=by
 intro pins s σ H x y v u Q I J L h
 obtain⟨i,j,rfl,rfl,q⟩:=h
 obtain⟨t,rfl⟩:=J
 obtain⟨M,rfl⟩:=L
 exact G i j t M s _ _ ⟨.bl (g i j),H,I,rfl,q⟩
noncomputable def Apf (i j:Int):Prop:=0<j/\j<1073741824
noncomputable def Aov (i j:Int):Prop:=0<=j/\j<=1000000/\i.natAbs<2^64
noncomputable def Aou (i j:Int):Prop:=(-(2^64)<i/\i<2^64)\/(-(2^64)<j/\j<2^64)
theorem Cg:OpR X (binaryOp .Add) (rI0 fun i j=> .int (i+j)):=Ao6 fun _ _ _ _ _ _ _ q=>add_int q
theorem G7:OpR X (binaryOp .Sub) (rI0 fun i j=> .int (i-j)):=Ao6 fun _ _ _ _ _ _ _ q=>sub_int q
theorem Nj:OpR X (binaryOp .Mod) (rI (fun _ j=>0<j) fun i j=> .int (i%j)):=opI fun i j _ _ _ _ _ G q=>by
 have h1:(0:Int)<j:=G
 exact mod_int' (by omega) (by rw [Int.fmod_eq_emod_of_nonneg i (by omega)];exact q)
theorem J8:OpR X (binaryOp .Pow) (rI Aov fun i j=> .int (i^j.toNat)):=opI fun _ _ _ _ _ _ _ G q=>pow_int_small G.1 G.2.1 G.2.2 q
theorem unI {f:Value->Sem Value}{g:Int->Int}
 (G:∀(i:Int) (t:Tok) (s:Shared) (Q:Value->Shared->Prop) (E:Value->Shared->Prop),Q (.int (g i) s.toks) { s with toks:=s.toks+1}->wpAny (model X.prog X.w) X.A (f (.int i t)) Q E s):
 UnR X f (rU fun i=> .int (g i)):=by
 intro pins s σ H x v Q I J h
 obtain⟨i,rfl,q⟩:=h
 obtain⟨t,rfl⟩:=J
 exact G i t s _ _ ⟨.int (g i),H,I.tok _,⟨_,rfl⟩,q⟩
theorem Kg:UnR X (unaryOp .USub) (rU fun i=> .int (-i)):=unI fun _ _ _ _ _ q=>neg_int q
end
noncomputable def Ah6:V->V->Bool
 | .non,.non=>true | .non,.int _=>true | .int _,.non=>true | .non,.bl _=>true | .bl _,.non=>true | .non,.str _=>true | .str _,.non=>true
 | .int _,.int _=>true | .bl _,.bl _=>true | .str _,.str _=>true | .byt _,.byt _=>true
 | .int _,.str _=>true | .str _,.int _=>true | .bl _,.str _=>true | .str _,.bl _=>true
 | _,_=>false
noncomputable def rEq:R2:=fun x y H Q=>Ah6 x y=true/\Q (.bl (decide (x=y))) H
noncomputable def rNe:R2:=fun x y H Q=>Ah6 x y=true/\Q (.bl (!decide (x=y))) H
theorem Zj {i j:Int}:decide (V.int i=V.int j)=(i==j):=by
 rw [hV]
 simp
theorem Aeg {i j:Bool}:decide (V.bl i=V.bl j)=(i==j):=by
 rw [hV]
 simp
theorem Zk {i j:Str}:decide (V.str i=V.str j)=(i==j):=by
 rw [hV]
 simp
theorem Zi {i j:Array UInt8}:decide (V.byt i=V.byt j)=(i.toList==j.toList):=by
 rw [hV]
 cases i
 cases j
 simp
variable {Q:VK}{us:List Value}{y:V}
section
variable {X:Cx}{a b c:Expr}{ta tb tc:TE}{pos:Pos}
theorem Cq {k G:Bool} (I:Inv X pins σ H s) (q:Q (.bl k) H) (e:k=G):EP X pins σ Q (.bool G) s:=by
 subst e
 exact⟨.bl k,H,I,rfl,q⟩
theorem J7:OpR X (compareOp .Eq) rEq:=by
 intro pins s σ H x y v u Q I M G h
 obtain⟨L,q⟩:=h
 cases x with
 | non=>
   cases M
   cases y with
   | non=>cases G;exact PySem.EqNone.eq_none_none (Cq I q (by simp))
   | bl j=>cases G;exact PySem.EqNone.eq_none_bool (Cq I q (by simp))
   | int j=>obtain⟨J,rfl⟩:=G;exact PySem.EqNone.eq_none_int (Cq I q (by simp))
   | str j=>obtain⟨J,rfl⟩:=G;exact PySem.EqNone.eq_none_str (Cq I q (by simp))
   | _=>exact absurd (show false=true from L) aY
 | bl i=>
   cases M
   cases y with
   | non=>cases G;exact PySem.EqNone.eq_bool_none (Cq I q (by simp))
   | bl j=>cases G;exact eq_bool (Cq I q Aeg)
   | str j=>obtain⟨J,rfl⟩:=G;exact PySem.EqMixed.eq_bool_str (Cq I q (by simp))
   | _=>exact absurd (show false=true from L) aY
 | int i=>
   obtain⟨t,rfl⟩:=M
   cases y with
   | non=>cases G;exact PySem.EqNone.eq_int_none (Cq I q (by simp))
   | int j=>obtain⟨J,rfl⟩:=G;exact eq_int (Cq I q Zj)
   | str j=>obtain⟨J,rfl⟩:=G;exact PySem.EqMixed.eq_int_str (Cq I q (by simp))
   | _=>exact absurd (show false=true from L) aY
 | str i=>
   obtain⟨t,rfl⟩:=M
   cases y with
   | non=>cases G;exact PySem.EqNone.eq_str_none (Cq I q (by simp))
   | bl j=>cases G;exact PySem.EqMixed.eq_str_bool (Cq I q (by simp))
   | int j=>obtain⟨J,rfl⟩:=G;exact PySem.EqMixed.eq_str_int (Cq I q (by simp))
   | str j=>obtain⟨J,rfl⟩:=G;exact eq_str (Cq I q Zk)
   | _=>exact absurd (show false=true from L) aY
 | byt i=>
   obtain⟨t,rfl⟩:=M
   cases y with
   | byt j=>obtain⟨J,rfl⟩:=G;exact PySem.W.eq_bytes (Cq I q Zi)
   | _=>exact absurd (show false=true from L) aY
 | _=>cases y<;>exact absurd (show false=true from L) aY
theorem Nk:OpR X (compareOp .NotEq) rNe:=by
 intro pins s σ H x y v u Q I M G h
 obtain⟨L,q⟩:=h
 cases x with
 | non=>
   cases M
   cases y with
   | non=>cases G;exact PySem.EqNone.ne_none_none (Cq I q (by simp))
   | bl j=>cases G;exact PySem.EqNone.ne_none_bool (Cq I q (by simp))
   | int j=>obtain⟨J,rfl⟩:=G;exact PySem.EqNone.ne_none_int (Cq I q (by simp))
   | str j=>obtain⟨J,rfl⟩:=G;exact PySem.EqNone.ne_none_str (Cq I q (by simp))
   | _=>exact absurd (show false=true from L) aY
 | bl i=>
   cases M
   cases y with
   | non=>cases G;exact PySem.EqNone.ne_bool_none (Cq I q (by simp))
   | bl j=>cases G;exact ne_bool (Cq I q (bK not Aeg))
   | str j=>obtain⟨J,rfl⟩:=G;exact PySem.EqMixed.ne_bool_str (Cq I q (by simp))
   | _=>exact absurd (show false=true from L) aY
 | int i=>
   obtain⟨t,rfl⟩:=M
   cases y with
   | non=>cases G;exact PySem.EqNone.ne_int_none (Cq I q (by simp))
   | int j=>obtain⟨J,rfl⟩:=G;exact ne_int (Cq I q (bK not Zj))
   | str j=>obtain⟨J,rfl⟩:=G;exact PySem.EqMixed.ne_int_str (Cq I q (by simp))
   | _=>exact absurd (show false=true from L) aY
 | str i=>
   obtain⟨t,rfl⟩:=M
   cases y with
   | non=>cases G;exact PySem.EqNone.ne_str_none (Cq I q (by simp))
   | bl j=>cases G;exact PySem.EqMixed.ne_str_bool (Cq I q (by simp))
   | int j=>obtain⟨J,rfl⟩:=G;exact PySem.EqMixed.ne_str_int (Cq I q (by simp))
   | str j=>obtain⟨J,rfl⟩:=G;exact ne_str (Cq I q (bK not Zk))
   | _=>exact absurd (show false=true from L) aY
 | byt i=>
   obtain⟨t,rfl⟩:=M
   cases y with
   | byt j=>obtain⟨J,rfl⟩:=G;exact PySem.W.ne_bytes (Cq I q (bK not Zi))
   | _=>exact absurd (show false=true from L) aY
 | _=>cases y<;>exact absurd (show false=true from L) aY
theorem Agj:OpR X (compareOp .Lt) (rI0 fun i j=> .bl (decide (i<j))):=Al3 fun _ _ _ _ _ _ _ q=>lt_int q
theorem Ajs:OpR X (compareOp .LtE) (rI0 fun i j=> .bl (decide (i<=j))):=Al3 fun _ _ _ _ _ _ _ q=>le_int q
theorem Aa1:OpR X (compareOp .Gt) (rI0 fun i j=> .bl (decide (j<i))):=Al3 fun _ _ _ _ _ _ _ q=>gt_int q
theorem Ajr:OpR X (compareOp .GtE) (rI0 fun i j=> .bl (decide (j<=i))):=Al3 fun _ _ _ _ _ _ _ q=>ge_int q
theorem Bl (b:Expr) {op:CmpOp} (h:op≠ .In:=by decide) (h2:op≠ .NotIn:=by decide):behindInMarks op b=false:=by
 have q:(op==CmpOp.In)=false:=by cases op<;>first | rfl | exact absurd rfl h
 have G:(op==CmpOp.NotIn)=false:=by cases op<;>first | rfl | exact absurd rfl h2
 cases b<;>simp [behindInMarks,q,G]
theorem Agr {op:CmpOp}{r:R2} (G:OpR X (compareOp op) r) (J:PE X a ta) (L:PE X b tb) (M:behindInMarks op b=false):PE X (.Compare a [op] [b] pos) (tOp r ta tb):=by
 intro pins s σ H Q I h
 exact wpAny_Compare1 (Amh J L I h fun v u O x y H2 U W Z q=>G pins O σ H2 x y v u Q U W Z q) M
noncomputable def Aho (t:TE):TT:=fun σ H Q=>t σ H fun x H'=>∃k,x= .bl k/\Q k H'
theorem Ag5 {op:CmpOp}{r:R2} (q:OpR X (compareOp op) r) (G:PE X a ta) (J:PE X b tb) (L:behindInMarks op b=false):PT X (.Compare a [op] [b] pos) (Aho (tOp r ta tb)):=by
 intro pins s σ H Q I h
 refine wpAny_isTrue_Compare1 (thn (G pins s σ H _ I h) fun v M ⟨x,H1,O,U,W⟩=>thn (J pins M σ H1 _ O W) fun u Z ⟨y,H2,I2,r2,q2⟩=>
  thn (q pins Z σ H2 x y v u _ I2 U r2 q2) fun c s3 ⟨z,H3,I3,r3,k,e,q3⟩=> ?_) L
 subst e
 cases r3
 exact fR ⟨H3,I3,q3⟩
theorem R3:(sizeLine:Nat)<2^63:=by rw [eG];decide
theorem vals1 {x:V} (r:Vals [x] us):∃u,us=[u]/\RelV x u:=by
 cases r with
 | cons q G=>cases G;exact⟨_,rfl,q⟩
theorem vals2 {x:V} (r:Vals [x,y] us):∃u q,us=[u,q]/\RelV x u/\RelV y q:=by
 cases r with
 | cons G J=>
   cases J with
   | cons L M=>cases M;exact⟨_,_,rfl,G,L⟩
theorem Tv:Gv X (.builtin "divmod") (fun xs H Q=>∃i j,xs=[.int i,.int j]/\Apf i j/\∀p,H p=none->Q (.ref p) (upd H p (.tup [.int (i/j),.int (i%j)]))):=by
 intro pins s σ H xs J Q I r h
 obtain⟨i,j,rfl,⟨h1,h2⟩,q⟩:=h
 obtain⟨u,L,rfl,⟨t,rfl⟩,⟨M,rfl⟩⟩:=vals2 r
 refine divmod_int (by omega) ?_ (.inl (PyProof.noPylong_small (by omega)))
 rw [Int.fdiv_eq_ediv_of_nonneg i (by omega),Int.fmod_eq_emod_of_nonneg i (by omega)]
 have G:H s.heap.objs.size=none:=I.hok.fresh (aH _)
 refine⟨.ref s.heap.objs.size,_,?_,rfl,q _ G⟩
 refine I.laid (fun b o e=>aC _ e) (aH _) ⟨by simp only [bU,dX];rw [eG];decide,[.int (i/j) s.toks,.int (i%j) (s.toks+1)],.cons ⟨_,rfl⟩ (.cons ⟨_,rfl⟩ .nil),?_⟩
 exact⟨_,aN s.heap rfl,rfl,0,rfl⟩
end
structure Amc (h:Heap) (x dx C:Addr) (mA:Str->Option Value):Prop where
 obj:h.get? x=some (instObj C dx)
 ns:h.Ns1 dx mA
 ne:dx≠x
theorem Aam {dx:Addr}{J:Str->Option Value} (n:h.Ns1 dx J):∃L,h.get? dx=some L/\∀name,lookIn name L=some (J name):=by
 obtain⟨o,es,ep,M,O,U,_,Z⟩:=n
 refine⟨o,M,fun name=> ?_⟩
 have e:=Z name
 unfold nsFind findBy at e
 rw [<-Array.find?_toList]at e
 unfold lookIn
 rw [O]
 dsimp only
 split
 . rename_i y q
   rw [q]at e
   exact bK some e
 . rename_i q
   rw [q]at e
   have a:es.toList.any (·.refKey)=false:=by
    rw [List.any_eq_false]
    intro y hy
    obtain⟨z,t,G⟩:=U y (Array.mem_toList_iff.mp hy)
    simp [DictEntry.refKey,G]
   have a':¬es.toList.any (·.refKey)=true:=by rw [a];exact aY
   rw [aF a']
   exact bK some e
variable {C:Addr}
theorem Amc.look {x dx:Addr}{G:Str->Option Value} (I:Amc h x dx C G):∃q,InstAt h x (instObj C dx) C (some q)/\∀name,lookIn name q=some (G name):=
 let ⟨q,ho,hl⟩:=Aam I.ns
 ⟨q,⟨I.obj,rfl,rfl,ho⟩,hl⟩
theorem Vi.some_of {o:Option Value} (r:Vi (some v) o):∃u,o=some u/\RelV v u:=by
 cases o with
 | none=>exact(show False from r).elim
 | some u=>exact⟨u,rfl,r⟩
section
variable {P:Program}{w:World}{H H':Hp}{h h':Heap}{a C dx:Addr}{fs fs':List (Str × V)}
theorem Af3 (J:HOk P w H h) (e:H a=some (.ins C dx fs)):∃G,Amc h a dx C G/\(∀f,Vi (fs.lookup f) (G f))/\PySem.Within G (fs.map (·.1))/\fs.length<=1000/\H dx=some (.own a):=by
 obtain⟨d,z,ne,L,G,n,r,q⟩:=(show Dk P w H h a (.ins C dx fs)from J a _ e)
 exact⟨G,⟨L,n,ne⟩,r,q,z,d⟩
end
structure Cls (K:Frag) (C:Addr):Prop where
 pg:plainGet K C Str.empty=true
 hd:PySem.W.hasDictIn K C=true
 po:PySem.W.plainOver K C=true
 sa:findIn K (.ref C) "__setattr__"=some (some (.builtin "object.__setattr__"))
theorem Cls.get {K:Frag}{C:Addr} (c:Cls K C) (f:Str):plainGet K C f=true:=c.pg
structure Con (K:Frag) (C:Addr) (f:Str) (v:V) (u:Value):Prop where
 at_:findIn K (.ref C) f=some (some u)
 rel:RelV v u
 get:specialIn K u "__get__"=some none
 cp:PySem.W.copiedNames.contains f=false
structure Meth (K:Frag) (C:Addr) (m:Str) (f:Addr):Prop where
 at_:findIn K (.ref C) m=some (some (.ref f))
 fn:isFn K (.ref f)=true
 kp:keepIn K (.ref f)=true
section
variable {X:Cx}{pins:List (Addr × Obj)}{σ:St}{H:Hp}{s:Shared}{A:Around}{E:Value->Shared->Prop}{Q:Value->Shared->Prop}{c:Value}{b:Bool}
inductive Tg (K:Frag) (H:Hp):V->Value->Prop where
 | non:Tg K H .non (.type "NoneType")
 | bl (x:Bool):Tg K H (.bl x) (.type "bool")
 | int (i:Int):Tg K H (.int i) (.type "int")
 | str (x:Str):Tg K H (.str x) (.type "str")
 | flt (x:UInt64):Tg K H (.flt x) (.type "float")
 | lst {a:Addr}{xs:List V} (e:H a=some (.lst xs)):Tg K H (.ref a) (.type "list")
 | frz {a:Addr}{o:Obj}{xs:List V} (e:H a=some (.frz o (.lst xs))):Tg K H (.ref a) (.type "list")
 | tup {a:Addr}{xs:List V} (e:H a=some (.tup xs)):Tg K H (.ref a) (.type "tuple")
 | dK {a:Addr}{kvs:List (Key × V)} (e:H a=some (.dK kvs)):Tg K H (.ref a) (.type "dict")
 | dT {a:Addr}{kvs:List (List Key × V)} (e:H a=some (.dT kvs)):Tg K H (.ref a) (.type "dict")
 | ins {a C dx:Addr}{fs:List (Str × V)} (e:H a=some (.ins C dx fs)) (cl:Cls K C) (ha:findIn K (.ref C) "__class__"=some (some (.builtin "object.__class__")))
    (hn:specialIn K (.builtin "object.__class__") "__get__"=some (some (.builtin "getset_descriptor.__get__"))) (htk:PySem.W.takesIn K (.builtin "object.__class__")=some true)
    (hm:mroIn K C (.type "object")=some true):Tg K H (.ref a) (.ref C)
theorem Z9 {x:V}{t:Value} (I:Inv X pins σ H s) (G:RelV x u) (ty:Tg X.K H x t) (e:kitOne X.K t c=some b) (h:∀tk,Q (.bool b) { s with toks:=tk}):
 wpAny (model X.prog X.w) A (call (.builtin "isinstance") [u,c]) Q E s:=by
 cases ty with
 | non=>cases(show u=Value.none from G);exact dU PySem.W.kitx_none I.kIn True.intro e (fun z=>nomatch z) h
 | bl y=>cases(show u=Value.bool y from G);exact dU PySem.W.kitx_bool I.kIn True.intro e (fun z=>nomatch z) h
 | int i=>obtain⟨t,q⟩:=(show ∃t,u=Value.int i t from G);cases q;exact dU PySem.W.kitx_int I.kIn True.intro e (fun z=>nomatch z) h
 | str y=>obtain⟨t,q⟩:=(show ∃t,u=Value.str y t from G);cases q;exact dU PySem.W.kitx_str I.kIn True.intro e (fun z=>nomatch z) h
 | flt y=>obtain⟨t,q⟩:=(show ∃t,u=Value.float y t from G);cases q;exact dU PySem.W.kitx_float I.kIn True.intro e (fun z=>nomatch z) h
 | @lst a xs L=>
   cases(show u=Value.ref a from G)
   obtain⟨_,_,n,_,h1⟩:=(show Dk X.prog X.w H s.heap a (.lst xs)from I.hok a _ L)
   exact dU kitx_list I.kIn ⟨_,h1,rfl⟩ e (fun z=>nomatch z) h
 | @frz a Z xs L=>
   cases(show u=Value.ref a from G)
   obtain⟨_,_,_,n,_,h1⟩:=(show Dk X.prog X.w H s.heap a (.frz Z (.lst xs))from I.hok a _ L)
   exact dU kitx_list I.kIn ⟨_,h1,rfl⟩ e (fun z=>nomatch z) h
 | @tup a xs L=>
   cases(show u=Value.ref a from G)
   obtain⟨_,_,_,p⟩:=(show Dk X.prog X.w H s.heap a (.tup xs)from I.hok a _ L)
   obtain⟨o,h1,h2,_⟩:=p
   exact dU kitx_tuple I.kIn ⟨o,h1,h2⟩ e (fun z=>nomatch z) h
 | @dK a kvs L=>
   cases(show u=Value.ref a from G)
   obtain⟨_,_,vs,_,p⟩:=(show Dk X.prog X.w H s.heap a (.dK kvs)from I.hok a _ L)
   obtain⟨o,es,ep,h1,h2,_⟩:=p
   exact dU kitx_dict I.kIn ⟨o,h1,h2.1⟩ e (fun z=>nomatch z) h
 | @dT a kvs L=>
   cases(show u=Value.ref a from G)
   obtain⟨_,_,xs,_,o,es,ep,h1,h2,_⟩:=(show Dk X.prog X.w H s.heap a (.dT kvs)from I.hok a _ L)
   exact dU kitx_dict I.kIn ⟨o,h1,h2.1⟩ e (fun z=>nomatch z) h
 | @ins a C dx fs L U ha hn M hm=>
   cases(show u=Value.ref a from G)
   obtain⟨mA,O,_⟩:=Af3 I.hok L
   obtain⟨od,J,_⟩:=O.look
   exact dU (PySem.W.kitx_own (U.get _) U.hd ha hn M hm) I.kIn J e (fun z=>nomatch z) h
end
structure Km (k:Nat) (A:Around):Prop where
 hd:A.handled=none
 dp:A.depth+3*k+5<recursionLimit
 un:A.units+16*k+200<cLine
theorem Km.mono {k:Nat} (r:Km k A) (h:j<=k):Km j A:=⟨r.hd,by have:=r.dp;omega,by have:=r.un;omega⟩
theorem Km.deeper {k:Nat}{A:Around} (r:Km (k+1) A) (env:Env):Km k (A.deeper env):=
 ⟨r.hd,by have:=r.dp;show A.depth+1+3*k+5<_;omega,by have:=r.un;show A.units+3+16*k+200<_;omega⟩
theorem Km.depth {k:Nat}{A:Around} (r:Km k A):A.depth<recursionLimit:=by have:=r.dp;omega
theorem Km.units {k:Nat}{A:Around} (r:Km k A):A.units+64<cLine:=by have:=r.un;omega
noncomputable def Al5:TA:=fun _ H Q=>Q [] H
noncomputable def Yk (ta:TE) (tr:TA):TA:=fun σ H Q=>ta σ H fun x H1=>tr σ H1 fun xs H2=>Q (x::xs) H2
section
variable {X:Cx}{e:Expr}{es:List Expr}{te:TE}{t:TA}{pos:Pos}
theorem Ajv:PA X [] Al5:=fun _ _ _ _ H Q I h=>Calls.spliced_nil ⟨[],H,I,.nil,h⟩
theorem Agm (q:PE X e te) (G:PA X es t) (J:starEach (e::es) X.env=(false,eval e X.env)::starEach es X.env:=by rfl):PA X (e::es) (Yk te t):=by
 intro pos pins s σ H Q I h
 rw [J]
 show wpAny _ _ (spliced ((false,eval e X.env)::backTo pos (starEach es X.env))) _ _ s
 refine kQ (thn (q pins s σ H _ I h) fun u L ⟨x,H1,M,O,U⟩=> ?_)
 exact thn (G pos pins L σ H1 _ M U) fun us s2 ⟨xs,H2,W,Z,q2⟩=>⟨x::xs,H2,W,.cons O Z,q2⟩
noncomputable def Ano (t:TA):TE:=fun σ H Q=>t σ H fun xs H1=>xs.length<=sizeLine/\∀p,H1 p=none->Q (.ref p) (upd H1 p (.tup xs))
noncomputable def Ank (t:TA):TE:=fun σ H Q=>t σ H fun xs H1=>xs.length<=sizeLine/\∀p,H1 p=none->Q (.ref p) (upd H1 p (.lst xs))
theorem Aj2 {x1} (h:PA X es t):PE X (.Tuple es x1 pos) (Ano t):=by
 intro pins s σ H Q I L
 refine wpAny_Tuple_spliced (thn (h pos pins s σ H _ I L) fun M G ⟨xs,H1,J,r,z,q⟩=>⟨by rw [<-r.length];exact z,?_⟩)
 have O:H1 G.heap.objs.size=none:=J.hok.fresh (aH _)
 refine⟨.ref G.heap.objs.size,upd H1 G.heap.objs.size (.tup xs),J.laid (t':=G.toks) (fun b u e=>aC _ e) (aH _) ?_,rfl,q _ O⟩
 exact⟨z,M,r,⟨_,aN _ rfl,rfl,_,rfl⟩⟩
theorem Ajy (h:PA X es t):PE X (.List es pos) (Ank t):=by
 intro pins s σ H Q I L
 refine wpAny_List_spliced (thn (h pos pins s σ H _ I L) fun M G ⟨xs,H1,J,r,z,q⟩=>⟨by rw [<-r.length];exact z,?_⟩)
 have O:H1 G.heap.objs.size=none:=J.hok.fresh (aH _)
 refine⟨.ref G.heap.objs.size,upd H1 G.heap.objs.size (.lst xs),J.laid (t':=G.toks) (fun b u e=>aC _ e) (aH _) ?_,rfl,q _ O⟩
 exact⟨z,M,0,r,aN _ rfl⟩
end
noncomputable abbrev Sp:=List V->Hp->VK->XK->Prop
noncomputable abbrev CXT:=List Env->Hp->Shared->XK->Value->Shared->Prop
structure Afh (P:Program) (w:World) (K:Frag) (mg:Str->Option Value) (base:Heap) (A:Around) (outer:List Env) (s:Shared) (H:Hp):Prop where
 frames:A.frames=some outer
 mod:Mod K mg base
 bs:∀b o,base.get? b=some o->s.heap.get? b=some o/\H b=none
 bsz:base.objs.size<=s.heap.objs.size
 funs:s.heap.FunFrames base outer
 frf:∀b∈frs outer,H b=none
 hok:HOk P w H s.heap
 bare:AllBare s.gens
noncomputable def CE (outer:List Env) (P:Program) (w:World) (H:Hp) (s:Shared) (Q:VK) (u:Value) (s':Shared):Prop:=
 ∃v H',s'.os=s.os/\AllBare s'.gens/\Un (frs outer) [] H H' s.heap s'.heap/\HOk P w H' s'.heap/\RelV v u/\Q v H'
noncomputable def CR (CX:CXT) (outer:List Env) (P:Program) (w:World) (H:Hp) (s:Shared) (Q:VK) (E:XK) (r:Result) (s':Shared):Prop:=
 match r with
 | .ok (.ret u)=>CE outer P w H s Q u s'
 | .ok _=>False
 | .error e=>CX outer H s E e s'
structure Pz (P:Program) (w:World) (K:Frag) (mg:Str->Option Value) (base:Heap) (CX:CXT) (k:Nat) (f:Addr) (fd:FuncData) (ps:List Str) (sp:Sp):Prop where
 len:∀vs H Q E,sp vs H Q E->vs.length=ps.length
 run:∀(A:Around) (outer:List Env) (s:Shared) (H:Hp) (args:Args) (us:List Value) (vs:List V) (Q:VK) (E:XK),Km k A->Afh P w K mg base A outer s H->BindsTo s fd args (ps.zip us)->Vals vs us->sp vs H Q E->
  codeAny (model P w) A (.call (.ref f) args) (CR CX outer P w H s Q E) s
variable {mg:Str->Option Value}{base:Heap}{CX:CXT}{f:Addr}{fd:FuncData}{ps:List Str}{sp:Sp}
section
variable {X:Cx}{pins:List (Addr × Obj)}{σ:St}{H:Hp}{s s':Shared}
theorem Inv.env0 (I:Inv X pins σ H s):Afh X.prog X.w X.K X.mg X.base X.A X.stack s H:=
 ⟨I.ok.frames,I.ok.mod,I.bs,aO I.ok.bsz I.sz,I.stack,I.stkFree,I.hok,I.bare⟩
theorem Inv.after (I:Inv X pins σ H s) (h:CE X.stack X.prog X.w H s Q u s'):EP X pins σ Q u s':=by
 obtain⟨v,H',os,G,un,J,r,q⟩:=h
 obtain⟨M,g,d,t,L⟩:=s'
 obtain rfl:L=s.os:=os
 exact⟨v,H',I.call (h':=M) (g':=g) (d':=d) (t':=t) (ch:=[]) un J G (fun b z=>absurd z (by simp)),r,q⟩
end
noncomputable def S7 (sp:Sp) (dvs:List V) (E:XK) (t:TA):TE:=fun σ H Q=>t σ H fun vs H1=>sp (vs++dvs) H1 Q E
noncomputable def Binds (K:Frag) (fd:FuncData) (ps:List Str) (ds:List Value):Prop:=
 ∀(s:Shared) (us:List Value),K.In s.heap->(us++ds).length=ps.length->BindsTo s fd ⟨us,[]⟩ (ps.zip (us++ds))
theorem Binds.all {K:Frag} (h:∀q:List Value,q.length=ps.length->bindArgs fd ⟨q,[]⟩=pure (ps.zip q)):Binds K fd ps []:=fun s q _ G=>by
 rw [cP]at G ⊢
 exact .of_eq (h q G)
noncomputable def Passes (CX:CXT) (X:Cx) (E:XK):Prop:=∀(pins:List (Addr × Obj)) (σ:St) (H:Hp) (s:Shared) (e:Value) (s':Shared),Inv X pins σ H s->CX X.stack H s E e s'->X.xe e s'
section
variable {X:Cx}{CX:CXT}{k:Nat}{f C:Addr}{fd:FuncData}{ps:List Str}{sp:Sp}{dvs:List V}{ds:List Value}{E:XK}{x m:Str}{p pos apos:Pos}{e o:Expr}{es:List Expr}{ta:TE}{t:TA}
theorem Akl {pins:List (Addr × Obj)}{σ:St}{H:Hp}{s:Shared}{Q:VK}{us:List Value}{vs:List V} (F:Pz X.prog X.w X.K X.mg X.base CX k f fd ps sp) (J:Km k X.A) (L:Binds X.K fd ps ds) (M:Vals dvs ds) (O:Passes CX X E)
 (I:Inv X pins σ H s) (r:Vals vs us) (h:sp (vs++dvs) H Q E):wpAny (model X.prog X.w) X.A (call (.ref f) us) (EP X pins σ Q) X.xe s:=by
 have G:Vals (vs++dvs) (us++ds):=r.append M
 have U:(us++ds).length=ps.length:=by rw [<-G.length];exact F.len _ _ _ _ h
 refine wpAny_call (codeAny_mono (F.run X.A X.stack s H ⟨us,[]⟩ (us++ds) (vs++dvs) Q E J I.env0 (L s us I.kIn U) G h) fun r s' q=> ?_)
 cases r with
 | error e=>exact O pins σ H s e s' I q
 | ok W=>
   cases W with
   | ret u=>exact I.after q
   | next=>exact False.elim q
   | brk=>exact False.elim q
   | cont=>exact False.elim q
theorem Agq (F:Pz X.prog X.w X.K X.mg X.base CX k f fd ps sp) (M:Km k X.A) (O:Gl X x) (U:X.mg x=some (.ref f)) (Z:keepIn X.K (.ref f)=true) (hb:Binds X.K fd ps ds) (hd:Vals dvs ds) (hx:Passes CX X E)
 (ha:PA X (e::es) t) (G:(x==("__debug__":Str))=false:=by decide) (he:starEach (e::es) X.env=(false,eval e X.env)::starEach es X.env:=by rfl) (J:(backTo pos (starEach es X.env)).any (·.1)=false:=by rfl):
 PE X (.Call (.Name x p) (e::es) [] pos) (S7 sp dvs E t):=by
 intro pins s σ H Q I h
 refine kJ (Aaj I O U ?_ G)
 refine PySem.W.callWith_K (h₀:=X.base) I.ok.mod.kin Z (thn (ha pos pins s σ H _ I h) fun us s1 ⟨vs,H1,L,r,q⟩=>⟨L.kIn,?_⟩) he J
 exact Akl F M hb hd hx L r q
structure Mk (K:Frag) (C f:Addr):Prop where
 makes:PySem.W.makesIn K C=true
 init:findIn K (.ref C) "__init__"=some (some (.ref f))
 fn:isFn K (.ref f)=true
 kp:keepIn K (.ref C)=true
end
section
variable {X:Cx}{CX:CXT}{k:Nat}{f C:Addr}{fd:FuncData}{ps ks:List Str}{sp:Sp}{E:XK}{x m:Str}{p pos apos kpos:Pos}{e o:Expr}{es:List Expr}{kws:List Keyword}{te ta:TE}{t tk:TA}{nm:Option Str}
structure Aoy (K:Frag) (fd:FuncData) (ps ks:List Str) (g:List Value->List Value->List Value) (gV:List V->List V->List V):Prop where
 to:∀(s:Shared) (us ws:List Value),K.In s.heap->(g us ws).length=ps.length->BindsTo s fd ⟨us,ks.zip ws⟩ (ps.zip (g us ws))
 rel:∀ {vs:List V}{us:List Value}{zs:List V}{ws:List Value},Vals vs us->Vals zs ws->Vals (gV vs zs) (g us ws)
variable {g:List Value->List Value->List Value}{gV:List V->List V->List V}
end
structure Bo (N P:List Str) (sc:Scope):Prop where
 kind:sc.kind= .function
 co:sc.isCoroutine=false
 gen:sc.isGenerator=false
 nd:N.Nodup
 pre:N.take P.length=P
 par:∀x∈P,sc.names.lookup x=some .local \/sc.names.lookup x=some .cell
 nofree:∀y∈sc.names,y.2≠ .free
theorem Ru {kindOf:Str->Option NameKind}{x:Str}:∀ {binds:List (Str × Value)}{m:Str->Option Value},(∀v,(x,v)∉binds)->bindL kindOf binds m x=m x
 | [],_,_=>rfl
 | (n,v)::r,m,h=>by
   unfold bindL
   rw [Ru fun w q=>h w (cO _ q)]
   split
   . have:x≠n:=by rintro rfl;exact h v eE
     simp [this]
   . rfl
theorem Rr {kindOf:Str->Option NameKind}{x:Str}:∀ {binds:List (Str × Value)}{m:Str->Option Value},(∀v,(x,v)∉binds)->bindC kindOf binds m x=m x
 | [],_,_=>rfl
 | (n,v)::r,m,h=>by
   unfold bindC
   rw [Rr fun w q=>h w (cO _ q)]
   split
   . rfl
   . have:x≠n:=by rintro rfl;exact h v eE
     simp [this]
theorem Rt {kindOf:Str->Option NameKind}{x:Str}{v:Value}:∀ {P:List Str}{vs:List Value}{i:Nat}{m:Str->Option Value},P.Nodup->P[i]? =some x->vs[i]? =some v->kindOf x=some .local ->
 bindL kindOf (P.zip vs) m x=some v
 | [],_,_,_,_,h,_,_=>by simp at h
 | _::_,[],_,_,_,_,h,_=>by simp at h
 | p::P,w::vs,0,m,nd,h1,h2,hk=>by
   simp at h1 h2;subst h1;subst h2
   show bindL kindOf ((p,w)::P.zip vs) m p=_
   unfold bindL
   rw [Ru fun v q=>(cZ.mp nd).1 (of_mem_zip q).1,aI hk]
   simp
 | p::P,w::vs,i+1,m,nd,h1,h2,hk=>by
   show bindL kindOf ((p,w)::P.zip vs) m x=_
   unfold bindL
   exact Rt (i:=i) (cZ.mp nd).2 (by simpa using h1) (by simpa using h2) hk
theorem Rq {kindOf:Str->Option NameKind}{x:Str}{v:Value}:∀ {P:List Str}{vs:List Value}{i:Nat}{m:Str->Option Value},P.Nodup->P[i]? =some x->vs[i]? =some v->kindOf x≠some .local ->
 bindC kindOf (P.zip vs) m x=some v
 | [],_,_,_,_,h,_,_=>by simp at h
 | _::_,[],_,_,_,_,h,_=>by simp at h
 | p::P,w::vs,0,m,nd,h1,h2,hk=>by
   simp at h1 h2;subst h1;subst h2
   show bindC kindOf ((p,w)::P.zip vs) m p=_
   unfold bindC
   rw [Rr fun v q=>(cZ.mp nd).1 (of_mem_zip q).1,aF hk]
   simp
 | p::P,w::vs,i+1,m,nd,h1,h2,hk=>by
   show bindC kindOf ((p,w)::P.zip vs) m x=_
   unfold bindC
   exact Rq (i:=i) (cZ.mp nd).2 (by simpa using h1) (by simpa using h2) hk
noncomputable def start (N:List Str) (vs:List V):St:=vs.map some++List.replicate (N.length-vs.length) none
noncomputable def Aef (CX:CXT) (P:Program) (w:World) (K:Frag) (mg:Str->Option Value) (base:Heap) (N:List Str) (qual:Str) (scope:Scope) (f:Addr) (cd:Value) (A:Around) (outer:List Env) (s:Shared) (H:Hp) (E:XK):Cx where
 prog:=P
 w:=w
 K:=K
 mg:=mg
 base:=base
 A:=A.deeper (envOfC qual scope s.heap.objs.size f cd)
 N:=N
 s₀:=s
 H₀:=H
 env:=envOfC qual scope s.heap.objs.size f cd
 outer:=outer
 stack:=envOfC qual scope s.heap.objs.size f cd::outer
 ex:=[]
 calm:=true
 fn:=fun _=>true
 pn:=[]
 xe:=fun e s'=>wpAny (model P w) (A.deeper (envOfC qual scope s.heap.objs.size f cd)) (leaving (envOfC qual scope s.heap.objs.size f cd) e) (fun _ s''=>CX outer H s E e s'') (fun e' s''=>CX outer H s E e' s'') s'
variable {n:Nat}
theorem Vl {sc:Scope} (h:sc.names.lookup x=some .cell):∃c,(cellsFrom n sc.names []).lookup x=some c:=by
 have q:=cellsFrom_some sc.names n [] (.inl h)
 exact Option.isSome_iff_exists.mp q
theorem Z8 {CX:CXT}{P:Program}{w:World}{K:Frag}{mg:Str->Option Value}{base:Heap}{N ps:List Str}{qual:Str}{scope:Scope}{f:Addr}{cd:Value}{A:Around}{outer:List Env}{s O:Shared}{H:Hp}{E:XK}{us:List Value}{vs:List V}
 (S:Bo N ps scope) (hd:A.handled=none) (G:Afh P w K mg base A outer s H) (hl:vs.length=ps.length) (r:Vals vs us)
 (x:InCallC s s.heap.objs.size (bindL (envOfC qual scope s.heap.objs.size f cd).kindOf (ps.zip us) fun _=>none) (cellsFrom (s.heap.objs.size+1) scope.names []) (bindC (envOfC qual scope s.heap.objs.size f cd).kindOf (ps.zip us) fun _=>none) O):
 Inv (Aef CX P w K mg base N qual scope f cd A outer s H E) [] (start N vs) H O:=by
 have a0:ps.length<=N.length:=by have:=bK length S.pre;rw [bT]at this;omega
 obtain⟨h1,tk,rfl,U⟩:=x.done
 have J:∀b:Addr,b∉(Aef CX P w K mg base N qual scope f cd A outer s H E).ex:=fun b z=>absurd (show b∈([]:List Addr)from z) (by simp)
 refine⟨⟨G.mod,S.kind,rfl,rfl,aH _,fun y z c h1 h2=> ?_,fun y L=> ?_,fun y c _ h=> ?_,fun _=>hd,Around.frames_deeper G.frames,.inr ⟨rfl,rfl⟩,fun b z=>absurd z (J b),G.bs,G.bsz,fun b _ _=>J b,fun b z=>absurd z (J b),G.funs,G.frf⟩,
  rfl,G.bare,Un.kept U,⟨_,x.toInCall.ns,fun i y v h1 h2 h3=> ?_⟩,fun y c h=>⟨_,x.cell y c h⟩,G.hok.fresh (aH _),fun y c h=> ?_,fun p hp=>absurd (show p∈([]:List (Addr × Obj))from hp) (by simp),G.hok.kept U,?_⟩
 . exact name_of_addr x.apart (gW h1) (gW h2)
 . have L:scope.names.lookup y=some .cell\/scope.names.lookup y=some .free:=L
   rcases L with L | L
   . exact Vl L
   . exact absurd rfl (S.nofree _ (gW L))
 . exact eR (x.above y c (gW h))
 . have hi:i<vs.length:=by
    unfold start at h2
    by_cases hi:i<vs.length
    . exact hi
    . rw [cR (by simpa using hi)]at h2
      rw [List.getElem?_replicate]at h2
      split at h2<;>cases h2
   have ha:vs[i]? =some v:=by
    unfold start at h2
    rw [jW (by simpa using hi),aZ]at h2
    cases e:vs[i]? with
    | none=>rw [e]at h2;cases h2
    | some a=>rw [e]at h2;cases h2;rfl
   obtain⟨u,Z,rv⟩:=r.get ha
   have hp:ps[i]? =some y:=by
    rw [<-S.pre,List.getElem?_take_of_lt (by omega)];exact h1
   have M:ps.Nodup:=by rw [<-S.pre];exact S.nd.sublist (List.take_sublist _ _)
   refine⟨u,rv,?_⟩
   rcases S.par y (dR hp)with k | k
   . exact .inl ⟨k,Rt M hp Z k⟩
   . obtain⟨c,e⟩:=Vl (n:=s.heap.objs.size+1) k
     refine .inr ⟨.inl k,c,e,?_⟩
     have q:=x.cell y c e
     rw [Rq M hp Z (by show scope.names.lookup y≠_;rw [k];decide)]at q
     exact q
 . exact G.hok.fresh (eR (x.above y c (gW h)))
 . unfold start
   show _=N.length
   rw [aL,aB,List.length_replicate]
   omega
theorem Amo {CX:CXT}{P:Program}{w:World}{K:Frag}{mg:Str->Option Value}{base:Heap}{k:Nat}{f:Addr}{name qual:Str}{params:Arguments}{L:List Stmt}{scope:Scope}{dV kV a0 pm G ct oc:Value}{an od:Option Addr}
 {a3:Array (Option Value)}{N ps:List Str}{sp:Sp} (lk:K.lookup f=some ⟨oc,od,.func (PySem.W.fnOf name qual params L scope dV kV a0 pm an G ct),a3⟩) (a4:PySem.W.codeIn K G qual=true) (S:Bo N ps scope)
 (len:∀vs H Q E,sp vs H Q E->vs.length=ps.length)
 (O:∀(A:Around) (outer:List Env) (s:Shared) (H:Hp) (vs:List V) (Q:VK) (E:XK),Km k (A.deeper (envOfC qual scope s.heap.objs.size f G))->sp vs H Q E->
   ∃t,PSs (Aef CX P w K mg base N qual scope f G A outer s H E) L t/\t { nx:=fun _ H'=>Q .non H',rt:=Q} (start N vs) H):
 Pz P w K mg base CX (k+1) f (PySem.W.fnOf name qual params L scope dV kV a0 pm an G ct) ps sp:=by
 refine⟨len,fun A outer s H args us vs Q E hr e0 hb r a1=> ?_⟩
 have hl:=len _ _ _ _ a1
 have KX:K.In s.heap:=e0.mod.kin.keeps fun b o e=>(e0.bs b o e).1
 have a5:s.heap.NoLimit:=e0.mod.nolimit.keeps fun b o e=>(e0.bs b o e).1
 have U:∀y∈ps.zip us,scope.names.lookup y.1=some .local \/(scope.names.lookup y.1=some .cell/\((cellsFrom (s.heap.objs.size+1) scope.names []).lookup y.1).isSome=true):=fun⟨n,v⟩ hy=>by
  rcases S.par n (of_mem_zip hy).1 with q | q
  . exact .inl q
  . exact .inr ⟨q,cellsFrom_some _ _ _ (.inl q)⟩
 refine codeAny_call_function hr.depth (KX _ _ lk) rfl S.co S.gen rfl (PySem.W.codeRec_of KX a4) (hb _ _ _ _ ?_)
 refine wpAny_newFunctionEnv_cells S.kind U fun a6 he s1 x=> ?_
 subst he
 refine⟨a5.keeps x.toInCall.keep,codeAny_func ?_⟩
 obtain⟨t,ht,hq⟩:=O A outer s H vs Q E (hr.deeper _) a1
 have I:Inv (Aef CX P w K mg base N qual scope f G A outer s H E) [] (start N vs) H s1:=Z8 S hr.hd e0 hl r x
 refine cT (ht [] s1 (start N vs) H _ I hq) (fun fl s' Z=> ?_) fun e s' Z=>Z
 have a2:∀ {M:St}{H':Hp}{v:V}{u:Value},Inv (Aef CX P w K mg base N qual scope f G A outer s H E) [] M H' s'->RelV v u->Q v H'->CE outer P w H s Q u s':=
  fun {M H' v u} J rv q=>⟨v,H',J.os,J.bare,J.base,J.hok,rv,q⟩
 cases fl with
 | ret u=>
   obtain⟨v,M,H',J,rv,q⟩:=Z
   exact a2 J rv q
 | next=>
   obtain⟨M,H',J,q⟩:=Z
   exact a2 (v:=V.non) (u:=Value.none) J rfl q
 | brk=>
   obtain⟨_,_,_,q⟩:=Z
   exact False.elim q
 | cont=>
   obtain⟨_,_,_,q⟩:=Z
   exact False.elim q
section
variable {X:Cx}{x:Str}{p pos:Pos}{e:Expr}{es:List Expr}{t:TA}{id T:String}{r:List V->Hp->VK->Prop}
noncomputable def tCB (r:List V->Hp->VK->Prop) (t:TA):TE:=fun σ H Q=>t σ H fun vs H1=>r vs H1 Q
theorem Ado (J:Gv X (.builtin id) r) (L:Gl X x) (M:X.mg x=none) (O:bootBuiltins x=some (.builtin id)) (U:PA X (e::es) t) (W:x≠"__name__":=by decide) (q:(x==("__debug__":Str))=false:=by decide)
 (Z:starEach (e::es) X.env=(false,eval e X.env)::starEach es X.env:=by rfl) (G:(backTo pos (starEach es X.env)).any (·.1)=false:=by rfl):PE X (.Call (.Name x p) (e::es) [] pos) (tCB r t):=by
 intro pins s σ H Q I h
 refine kJ (Lp I L M O ?_ W q)
 exact PyProof.Rows.callWith_builtin1 (thn (U pos pins s σ H _ I h) fun us s1 ⟨vs,H1,I1,r1,q1⟩=>J pins s1 σ H1 vs us Q I1 r1 q1) Z G
theorem Aa4 (J:Gv X (.type T) r) (L:Gl X x) (M:X.mg x=none) (O:bootBuiltins x=some (.type T)) (U:PA X (e::es) t) (W:x≠"__name__":=by decide) (q:(x==("__debug__":Str))=false:=by decide)
 (Z:starEach (e::es) X.env=(false,eval e X.env)::starEach es X.env:=by rfl) (G:(backTo pos (starEach es X.env)).any (·.1)=false:=by rfl):PE X (.Call (.Name x p) (e::es) [] pos) (tCB r t):=by
 intro pins s σ H Q I h
 refine kJ (Lp I L M O ?_ W q)
 exact eW (thn (U pos pins s σ H _ I h) fun us s1 ⟨vs,H1,I1,r1,q1⟩=>J pins s1 σ H1 vs us Q I1 r1 q1) Z G
end
end L2
namespace HT
open PySem PyProof.Rows
noncomputable def lexLt:List Int->List Int->Bool
 | [],[]=>false
 | [],_::_=>true
 | _::_,[]=>false
 | x::xs,y::ys=>if x=y then lexLt xs ys else decide (x<y)
theorem Bu (x y:Int) (xs ys:List Int):lexLt (x::xs) (y::ys)=if x=y then lexLt xs ys else decide (x<y):=rfl
theorem Qj:lexLt [] []=false:=rfl
theorem Ov (y:Int) (ys:List Int):lexLt [] (y::ys)=true:=rfl
theorem Ou (x:Int) (xs:List Int):lexLt (x::xs) []=false:=rfl
theorem Ac7 (A:Around) (s:Shared) (a:Int) (t:Tok) (c:Int) (u:Tok):∃e,SeqAt.EqAt A s (.int a t) (.int c u) e/\(e=true↔a=c):=
 ⟨(a==c),SeqAt.EqAt.int_int a t c u,by simp⟩
theorem Ad2 (A:Around) (s:Shared) (a:Int) (t:Tok) (c:Int) (u:Tok) (prog:Program) (w:World) (E:Value->Shared->Prop) (Q:Value->Shared->Prop) (h:Q (.bool (decide (a<c))) s):
 wpAny (model prog w) A (richCompare .Lt (.int a t) (.int c u)) Q E s:=
 (PyProof.Rows.lt_int h:wpAny (model prog w) A (compareOp .Lt (.int a t) (.int c u)) Q E s)
section
open PySem.SeqAt
open PySem.AutoSeq1 (wpAny_loadPart')
open PySem.MeetsSeq PySem.MeetsSeq2 PySem.MeetsSeq3
theorem Rk (l b:Addr) (items G:Array Value) (n n2:Nat) (dd a4:Option Addr) (sl a5:Array (Option Value)) (ns ms:List Int) (hi:IntsAre items.toList ns) (hj:IntsAre G.toList ms):
 Meets (Builtin.«tuple.__lt__» ⟨[.ref l,.ref b],[]⟩)
  (fun _ R s=>s.heap.get? l=some { cls:= .type "tuple",dict:=dd,data:= .seq items n,slots:=sl}/\s.heap.get? b=some { cls:= .type "tuple",dict:=a4,data:= .seq G n2,slots:=a5}/\
    R (.ok (.ret (.bool (lexLt ns ms)))) s):=
 .of_wp fun prog w A R s h=>by
  obtain⟨hp,g,d,tk,os⟩:=s;obtain⟨hl,hb,h⟩:=h
  have f2:=AutoSeq1.sub_tuple_tuple
  have z1:items.size=ns.length:=by rw [<-hi.length];simp
  have z2:G.size=ms.length:=by rw [<-hj.length];simp
  wp_walk using wpAny_loadPart' hl,wpAny_loadPart' hb,wpAny_forIn_list _ (fun rest b s'=>b.1=none/\s'=⟨hp,g,d,tk,os⟩/\∃(vs ws:List Value) (L M:List Int),rest=vs.zip ws/\
   IntsAre vs L/\IntsAre ws M/\L.length+G.size=M.length+items.size/\R (.ok (.ret (.bool (lexLt L M)))) ⟨hp,g,d,tk,os⟩) _
  case turn=>
   rintro⟨y,x⟩ rest b s' ⟨a0,rfl,vs,ws,L,M,O,a1,U,J,W⟩
   cases a1 with
   | nil=>rw [List.zip_nil_left]at O;cases O
   | cons a t a2=>
     cases U with
     | nil=>rw [List.zip_nil_right]at O;cases O
     | cons c u a3=>
       rw [List.zip_cons_cons]at O
       injection O with hyx hrest
       injection hyx with hy hx
       subst hy hx
       rw [Bu]at W
       simp only [bU]at J
       obtain⟨e,he,Z⟩:=Ac7 A.in1 ⟨hp,g,d,tk,os⟩ a t c u
       refine aA (he prog w _ _ ?_)
       cases e with
       | true=>
         rw [aI (Z.mp rfl)]at W
         wp_walk
         exact⟨rfl,rfl,_,_,_,_,hrest,a2,a3,by omega,W⟩
       | false=>
         rw [aF (fun q=>absurd (Z.mpr q) aY)]at W
         have a6:=Ad2 A.in1 ⟨hp,g,d,tk,os⟩ a t c u prog w
         wp_walk using a6
         exact⟨_,rfl,by simpa using W⟩
  case fin=>
   rintro⟨b1,b2⟩ s' ⟨a0,rfl,vs,ws,L,M,O,a1,U,J,W⟩
   simp only at a0
   subst a0
   have hv:lexLt L M=decide (items.size<G.size):=by
    cases a1 with
    | nil=>
      cases U with
      | nil=>
        simp only [dX]at J
        rw [Qj]
        exact(bZ (by omega)).symm
      | cons c u hw=>
        simp only [dX,bU]at J
        rw [Ov]
        exact(cD (by omega)).symm
    | cons a t hv=>
      cases U with
      | nil=>
        simp only [dX,bU]at J
        rw [Ou]
        exact(bZ (by omega)).symm
      | cons c u hw=>
        rw [List.zip_cons_cons]at O
        cases O
   rw [hv]at W
   wp_walk
   exact⟨_,rfl,by simpa [Builtin.Tuple.tupleCompareSizes]using W⟩
  case h=>
   exact⟨rfl,rfl,items.toList,G.toList,ns,ms,rfl,hi,hj,by omega,h⟩
end
section
variable {prog:Program}{w:World}{A:Around}{E:Value->Shared->Prop}{s:Shared}
theorem O9 {l b:Addr}{items q:Array Value}{ns ms:List Int}{Q:Value->Shared->Prop} (hl:IsTup s.heap l items) (hb:IsTup s.heap b q) (hi:IntsAre items.toList ns) (hj:IntsAre q.toList ms)
 (hu:A.units<cLine) (h:Q (.bool (lexLt ns ms)) s):wpAny (model prog w) A (compareOp .Lt (.ref l) (.ref b)) Q E s:=by
 obtain⟨⟨cls,dd,data,sl⟩,U,W,n,Z⟩:=id hl
 obtain⟨⟨a0,M,data2,O⟩,G,J,n2,L⟩:=id hb
 simp only at W Z J L
 subst W Z J L
 exact richCompare_meets_room (op:= .Lt) ⟨_,U,rfl⟩ ⟨_,G,rfl⟩ PySem.F.slot_tuple_lt PySem.F.entry_tuple_lt (PySem.F.args_tuple_lt_2 _ _) (Rk l b items q n n2 dd M sl O ns ms hi hj)
  ⟨U,G,show Value.bool (lexLt ns ms)≠Value.notImplemented/\Q (.bool (lexLt ns ms)) s from⟨(fun x=>nomatch x),h⟩⟩ hu
theorem Afo {t b:Addr}{vs q:List Value}{Q:Value->Shared->Prop} (ht:IsTup s.heap t vs.toArray) (hb:IsTup s.heap b q.toArray) (Z:vs≠ [])
 (h1:q=[]->Q (.ref t) s) (h2:q≠ []->Q (.ref s.heap.objs.size) { s with heap:=s.heap.push { cls:= .type "tuple",data:= .seq (vs++q).toArray}})
 (hsz:vs.length+q.length<=sizeLine):wpAny (model prog w) A (binaryOp .Add (.ref t) (.ref b)) Q E s:=by
 obtain⟨⟨cls,dd,data,sl⟩,U,hc,n,hd⟩:=id ht
 obtain⟨⟨a0,J,data2,L⟩,G,M,n2,O⟩:=id hb
 simp only at hc hd M O
 subst hc hd M O
 have e:vs.toArray++q.toArray=(vs++q).toArray:=by simp
 by_cases W:q=[]
 . exact concat_meets ⟨_,U,rfl⟩ ⟨_,G,rfl⟩ noFill_tuple_add seq_tuple_add kR kL (kC _ _)
    (tuple_addW1 t b vs.toArray q.toArray n n2 dd J sl L (by simpa using Z) (by simp [W])) ⟨U,G,h1 W⟩
 . refine concat_meets ⟨_,U,rfl⟩ ⟨_,G,rfl⟩ noFill_tuple_add seq_tuple_add kR kL (kC _ _)
    (tuple_addW2 t b vs.toArray q.toArray n n2 dd J sl L (by simpa using Z) (by simpa using W) (by rw [aR,aR];exact hsz)) ⟨U,G,?_⟩
   rw [e]
   exact h2 W
noncomputable def sIx (n d:Nat):Option Int->Nat
 | none=>d
 | some v=>if v<0 then(v+(n:Int)).toNat else min v.toNat n
theorem Wj (n d:Nat):sIx n d none=d:=rfl
theorem Abi (n d k:Nat):sIx n d (some (k:Int))=min k n:=by
 show(if(k:Int)<0 then((k:Int)+(n:Int)).toNat else min (k:Int).toNat n)=min k n
 rw [aF (by omega),eU]
theorem Akm (n d:Nat) (G:d<=n) (o:Option Int):sIx n d o<=n:=by
 cases o with
 | none=>exact G
 | some v=>
   show(if v<0 then(v+(n:Int)).toNat else min v.toNat n)<=n
   by_cases q:v<0
   . rw [aI q];omega
   . rw [aF q];exact Nat.min_le_right _ _
theorem Zb (v:Int) (n d:Nat):(if v<0 then max (v+(n:Int)) 0 else min v (n:Int))=((sIx n d (some v):Nat):Int):=by
 show(if v<0 then max (v+(n:Int)) 0 else min v (n:Int))=(((if v<0 then(v+(n:Int)).toNat else min v.toNat n):Nat):Int)
 by_cases q:v<0
 . simp only [aI q];omega
 . simp only [aF q];omega
theorem W4 (lo hi:Option Int) (n:Nat):Builtin.Slice.sliceAdjust lo hi 1 (n:Int)=(((sIx n 0 lo:Nat):Int),((sIx n n hi:Nat):Int)):=by
 have h1:¬((1:Int)<0):=by omega
 unfold Builtin.Slice.sliceAdjust
 simp only [h1,fY]
 refine Prod.ext ?_ ?_
 . cases lo with
   | none=>rfl
   | some v=>exact Zb v n 0
 . cases hi with
   | none=>rfl
   | some v=>exact Zb v n n
theorem X6 (i j:Nat):Builtin.Slice.slicePlaces (i:Int) (j:Int) 1=j-i:=by
 unfold Builtin.Slice.slicePlaces
 have h1:(1:Int)>0:=by omega
 simp only [h1,gG,Int.ediv_one]
 split<;>omega
theorem Pj {v:Value}{o:Option Int}{Q:Option Int->Shared->Prop} (p:IsPart v o) (h:Q o s):wpAny (model prog w) A (Builtin.Slice.slicePartIndex v) Q E s:=by
 cases p with
 | none=>exact slicePart_none h
 | int i t=>exact slicePart_int h
theorem Ie {M:Addr}{J L:Value}{lo hi:Option Int}{n:Nat}{Q:Int × Int × Nat->Shared->Prop} (O:s.heap.IsSliceOf M J L .none) (U:IsPart J lo) (W:IsPart L hi)
 (h:Q (((sIx n 0 lo:Nat):Int),1,sIx n n hi-sIx n 0 lo) s):wpAny (model prog w) A (Builtin.Slice.sliceApplied (.ref M) (pure (n:Int))) Q E s:=by
 obtain⟨os,q,Z,G⟩:=id O
 unfold Builtin.Slice.sliceApplied Builtin.Slice.sliceFields
 refine aA (aA (dE q G (x:=J) rfl (aA (dE q G (x:=L) rfl (aA (dE q G (x:= .none) rfl (aE ?_)))))))
 refine aA (slicePart_none ?_)
 show wpAny _ _ (if((1:Int)==0)=true then _ else _) _ _ s
 rw [aF (by decide)]
 refine aA (Pj U (aA (Pj W (aA (aE ?_)))))
 show wpAny _ _ (match Builtin.Slice.sliceAdjust lo hi 1 (n:Int)with | (lo,hi)=>pure (lo,(1:Int),Builtin.Slice.slicePlaces lo hi 1)) _ _ s
 rw [W4 lo hi n]
 show wpAny _ _ (pure (((sIx n 0 lo:Nat):Int),(1:Int),Builtin.Slice.slicePlaces ((sIx n 0 lo:Nat):Int) ((sIx n n hi:Nat):Int) 1)) _ _ s
 rw [X6]
 exact aE h
theorem Adx (xs:Array Value) (i k:Nat):((List.range k).filterMap fun(m:Nat)=>xs[((i:Int)+(m:Int)*1).toNat]?).toArray=((xs.toList.drop i).take k).toArray:=by
 have e:(fun(m:Nat)=>xs[((i:Int)+(m:Int)*1).toNat]?)=fun m=>xs[i+m]? :=by
  funext m
  have:((i:Int)+(m:Int)*1).toNat=i+m:=by omega
  rw [this]
 rw [e]
 have:=pick_run xs i k
 rw [List.filterMap_map]at this
 have q:((fun x=>xs[x]?) ∘ fun x=>i+x)=fun m=>xs[i+m]? :=rfl
 rw [q]at this
 rw [this]
theorem Kv {t L:Addr}{items:Array Value}{Z vu:Value}{lo hi:Option Int}{Q:Value->Shared->Prop} (J:IsTup s.heap t items) (hs:s.heap.IsSliceOf L Z vu .none) (pl:IsPart Z lo) (pu:IsPart vu hi)
 (hw:¬(sIx items.size 0 lo=0/\sIx items.size items.size hi=items.size))
 (h:Q (.ref s.heap.objs.size) { s with heap:=s.heap.push { cls:= .type "tuple",data:= .seq ((items.toList.drop (sIx items.size 0 lo)).take (sIx items.size items.size hi-sIx items.size 0 lo)).toArray}})
 (hsz:items.size<=sizeLine):wpAny (model prog w) A (getItem (.ref t) (.ref L)) Q E s:=by
 have G:sizeOk (.seq ((items.toList.drop (sIx items.size 0 lo)).take (sIx items.size items.size hi-sIx items.size 0 lo)).toArray):=by
  show((items.toList.drop (sIx items.size 0 lo)).take (sIx items.size items.size hi-sIx items.size 0 lo)).toArray.size<=sizeLine
  rw [aR,bT,iT,bJ]
  omega
 have hj:sIx items.size items.size hi<=items.size:=Akm _ _ (aH _) hi
 obtain⟨os,M,O,a0⟩:=id hs
 have U:s.TypeIs (.ref L) "slice":=⟨os,M,O⟩
 unfold getItem
 try with_reducible refine dP ?_
 first | refine aA (aE ?_) | skip
 refine aA (wpAny_sequenceKey J.typeIs (by decide) ?_)
 refine aA (cU (name:=Str.ofString "__getitem__") J.typeIs dQ
  (cN dQ J.typeIs entry_tuple_getitem ?_ (args_tuple_getitem _ _)))
 show wpAny _ _ (Builtin.Tuple.tupleItemsOf (.ref t)>>=_) _ _ s
 refine aA (tupleItemsOf_ J ?_)
 refine aA (wpAny_typeOf U ?_)
 rw [aI (by decide)]
 refine aA (Ie hs pl pu ?_)
 have W:¬((((sIx items.size 0 lo:Nat):Int)==0&&(1:Int)==1&&(sIx items.size items.size hi-sIx items.size 0 lo)==items.size)=true):=by
  intro q
  rw [cM,cM]at q
  have q1:((sIx items.size 0 lo:Nat):Int)=0:=eq_of_beq q.1.1
  have q2:sIx items.size items.size hi-sIx items.size 0 lo=items.size:=eq_of_beq q.2
  exact hw ⟨by omega,by omega⟩
 show wpAny _ _ (if(((sIx items.size 0 lo:Nat):Int)==0&&(1:Int)==1&&(sIx items.size items.size hi-sIx items.size 0 lo)==items.size)=true then _ else _) _ _ s
 rw [aF W,Adx]
 first
  | exact aA (m:=Builtin.Tuple.tupleExact _) (cG (aE ⟨_,rfl,aE h⟩) G)
  | exact aA (m:=Builtin.Tuple.tupleExact _) (cG (aA (aE (aE ⟨_,rfl,aE h⟩))) G)
  | exact aA (aA (m:=Builtin.Tuple.tupleExact _) (cG (aE (aE ⟨_,rfl,aE h⟩)) G))
  | exact aA (aA (m:=Builtin.Tuple.tupleExact _) (cG (aE ⟨_,rfl,aE h⟩) G))
end
end HT
namespace L2
open PySem PySem.Spec PyProof.Rows
noncomputable abbrev TO:=St->Hp->(Option Int->Hp->Prop)->Prop
noncomputable def PO (X:Cx) (e:Option Expr) (t:TO):Prop:=
 ∀(pins:List (Addr × Obj)) (s:Shared) (σ:St) (H:Hp) (Q:Option Int->Hp->Prop),Inv X pins σ H s->t σ H Q->
   wpAny (model X.prog X.w) X.A (evalPart e X.env) (fun u s'=>∃o H',Inv X pins σ H' s'/\IsPart u o/\Q o H') X.xe s
noncomputable def Vc:TO:=fun _ H Q=>Q none H
noncomputable def Ahn (t:TE):TO:=fun σ H Q=>t σ H fun x H1=>∃i,x= .int i/\Q (some i) H1
variable {ns:List Int}
theorem intsAre_of:∀ {us:List Value},Vals (ns.map V.int) us->IntsAre us ns:=by
 induction ns with
 | nil=>intro us r;rw [jN]at r;cases r;exact .nil
 | cons n ns q=>
   intro us r
   rw [aU]at r
   cases r with
   | cons G J=>
     obtain⟨t,e⟩:=G
     subst e
     exact .cons n t (q J)
variable {us:List Value}
section
variable {X:Cx}{e:Expr}{te:TE}{lo hi:Option Expr}{tl th:TO}{pos p2:Pos}
theorem Ag0:PO X none Vc:=by
 intro pins s σ H Q I h
 rw [evalPart_none]
 exact aE ⟨none,H,I,.none,h⟩
theorem Ag1 (h:PE X e te):PO X (some e) (Ahn te):=by
 intro pins s σ H Q I G
 rw [evalPart_some]
 refine thn (h pins s σ H _ I G) fun u O ⟨x,H1,J,L,M⟩=> ?_
 obtain⟨i,rfl,q⟩:=M
 obtain⟨t,rfl⟩:=L
 exact⟨some i,H1,J,.int i t,q⟩
noncomputable def SlR (X:Cx) (r:V->Option Int->Option Int->Hp->VK->Prop):Prop:=
 ∀(pins:List (Addr × Obj)) (s:Shared) (σ:St) (H:Hp) (x:V) (v vl vu:Value) (lo hi:Option Int) (sl:Addr) (Q:VK),Inv X pins σ H s->RelV x v->s.heap.IsSliceOf sl vl vu .none->IsPart vl lo->IsPart vu hi->r x lo hi H Q->
   ∃T id,typeLookup (.type T) "__getitem__"=pure (some (.builtin id))/\s.TypeIs v T/\wpAny (model X.prog X.w) X.A (getItem v (.ref sl)) (EP X pins σ Q) X.xe s
noncomputable def tSl (r:V->Option Int->Option Int->Hp->VK->Prop) (te:TE) (tl th:TO):TE:=fun σ H Q=>te σ H fun x H1=>tl σ H1 fun l H2=>th σ H2 fun u H3=>r x l u H3 Q
theorem Adu {r:V->Option Int->Option Int->Hp->VK->Prop} (O:SlR X r) (U:PE X e te) (W:PO X lo tl) (Z:PO X hi th):PE X (.Subscript e (.Slice lo hi none p2) pos) (tSl r te tl th):=by
 intro pins s σ H Q I h
 refine Subscript_ (thn (U pins s σ H _ I h) fun v s1 ⟨x,H1,I1,r1,q1⟩=> ?_)
 refine wpAny_Slice (thn (W pins s1 σ H1 _ I1 q1) fun J s2 ⟨l,H2,I2,pl,q2⟩=>thn (Z pins s2 σ H2 _ I2 q2) fun L G ⟨u,M,I3,pu,q3⟩=> ?_)
 rw [evalPart_none]
 refine aE ?_
 have I4:Inv X pins σ M { G with heap:=G.heap.push { cls:= .type "slice",data:= .fields #[J,L,.none]}}:=I3.kept (t':=G.toks) fun b ob q=>aC _ q
 obtain⟨T,id,hT,ht,hg⟩:=O pins { G with heap:=G.heap.push { cls:= .type "slice",data:= .fields #[J,L,.none]}} σ M x v J L l u G.heap.objs.size Q I4 r1 (Heap.IsSliceOf.new ..) pl pu q3
 show wpAny (model X.prog X.w) X.A (subscriptTail e (.Slice lo hi none p2) v (.ref G.heap.objs.size)) (EP X pins σ Q) X.xe { G with heap:=G.heap.push { cls:= .type "slice",data:= .fields #[J,L,.none]}}
 exact tail_any (ops:=[.ref G.heap.objs.size,v]) ht hT hg (by with_unfolding_all rfl)
noncomputable def O2 (xs:List V) (lo hi:Option Int):List V:=(xs.drop (HT.sIx xs.length 0 lo)).take (HT.sIx xs.length xs.length hi-HT.sIx xs.length 0 lo)
theorem M8 (xs:List V) (lo hi:Option Int):(O2 xs lo hi).length<=xs.length:=by
 unfold O2
 rw [bT,iT]
 omega
noncomputable def Ap3 (K:Frag):V->Option Int->Option Int->Hp->VK->Prop:=fun x lo hi H Q=>∃a xs,x= .ref a/\SqT K H a xs/\
 ¬(HT.sIx xs.length 0 lo=0/\HT.sIx xs.length xs.length hi=xs.length)/\∀p,H p=none->Q (.ref p) (upd H p (.tup (O2 xs lo hi)))
theorem Ako:SlR X (Ap3 X.K):=by
 intro pins s σ H x v vl vu lo hi sl Q I O U W Z h
 obtain⟨a,xs,rfl,hx,hw,q⟩:=h
 cases O
 obtain⟨J,r,L,M⟩:=I.tuple hx
 have G:J.toArray.size=xs.length:=by rw [aR];exact r.length.symm
 refine⟨"tuple",_,dQ.lookup,L.typeIs,?_⟩
 refine HT.Kv L U W Z (by rw [G];exact hw) ?_ (by rw [G];exact M)
 rw [G]
 refine⟨.ref s.heap.objs.size,_,I.laid (t':=s.toks) (o:= .tup (O2 xs lo hi)) (fun b ob q=>aC _ q) (aH _) ?_,rfl,q _ (I.hok.fresh (aH _))⟩
 exact⟨aO (M8 xs lo hi) M,_,(r.drop (HT.sIx xs.length 0 lo)).take (HT.sIx xs.length xs.length hi-HT.sIx xs.length 0 lo),IsTup.new _ _⟩
noncomputable def Ao9 (K:Frag):R2:=fun x y H Q=>∃a b ns ms,x= .ref a/\y= .ref b/\SqT K H a (ns.map V.int)/\SqT K H b (ms.map V.int)/\Q (.bl (HT.lexLt ns ms)) H
theorem Ajt (L:X.A.units<cLine):OpR X (compareOp .Lt) (Ao9 X.K):=by
 intro pins s σ H x y v u Q I M O h
 obtain⟨a,b,ns,ms,rfl,rfl,U,W,q⟩:=h
 cases M
 cases O
 obtain⟨J,Z,p1,_⟩:=I.tuple U
 obtain⟨G,r2,p2,_⟩:=I.tuple W
 have i1:IntsAre J.toArray.toList ns:=intsAre_of Z
 have i2:IntsAre G.toArray.toList ms:=intsAre_of r2
 exact HT.O9 p1 p2 i1 i2 L ⟨.bl (HT.lexLt ns ms),H,I,rfl,q⟩
noncomputable def Anc (K:Frag):R2:=fun x y H Q=>∃a b xs ys,x= .ref a/\y= .ref b/\SqT K H a xs/\SqT K H b ys/\xs≠ []/\xs.length+ys.length<=sizeLine/\
 (ys=[]->Q (.ref a) H)/\(ys≠ []->∀p,H p=none->Q (.ref p) (upd H p (.tup (xs++ys))))
theorem Vals.nil_iff {xs:List V} (r:Vals xs us):us=[]↔xs=[]:=by
 cases r with
 | nil=>simp
 | cons _ _=>simp
theorem Agi:OpR X (binaryOp .Add) (Anc X.K):=by
 intro pins s σ H x y v u Q I O U h
 obtain⟨a,b,xs,ys,rfl,rfl,W,Z,hx,L,q1,q2⟩:=h
 cases O
 cases U
 obtain⟨a0,J,p1,_⟩:=I.tuple W
 obtain⟨M,G,p2,_⟩:=I.tuple Z
 refine HT.Afo p1 p2 (fun z=>hx (J.nil_iff.mp z)) (fun z=>⟨.ref a,H,I,rfl,q1 (G.nil_iff.mp z)⟩) (fun z=> ?_) (by rw [<-J.length,<-G.length];exact L)
 refine⟨.ref s.heap.objs.size,_,I.laid (t':=s.toks) (o:= .tup (xs++ys)) (fun b ob q=>aC _ q) (aH _) ?_,rfl,q2 (fun w=>z (G.nil_iff.mpr w)) _ (I.hok.fresh (aH _))⟩
 exact⟨by rw [aL];exact L,_,J.append G,IsTup.new _ _⟩
end
noncomputable def ixN (n:Nat) (i:Int):Option Nat:=if 0<=i then(if i<n then some i.toNat else none)else if-(n:Int)<=i then some (i+n).toNat else none
noncomputable def atI {α:Type} (xs:List α) (i:Int):Option α:=(ixN xs.length i).bind fun j=>xs[j]?
variable {n j:Nat}
theorem Aac {i:Int} (h:ixN n i=some j):seqIndex? i n=some j/\j<n/\ -(n:Int)<=i/\i<n:=by
 unfold ixN at h
 by_cases q:0<=i
 . rw [aI q]at h
   by_cases h1:i<n
   . rw [aI h1]at h
     have e:i.toNat=j:=bE h
     exact⟨by rw [seqIndex_of q h1,e],by omega,by omega,h1⟩
   . rw [aF h1]at h;cases h
 . rw [aF q]at h
   by_cases h1: -(n:Int)<=i
   . rw [aI h1]at h
     have e:(i+n).toNat=j:=bE h
     exact⟨by rw [seqIndex_neg (by omega) h1,e],by omega,h1,by omega⟩
   . rw [aF h1]at h;cases h
theorem Tr {α:Type}{xs:List α}{i:Int}{v:α} (h:atI xs i=some v):∃j,seqIndex? i xs.length=some j/\xs[j]? =some v/\j<xs.length/\ -(xs.length:Int)<=i/\i<xs.length:=by
 unfold atI at h
 cases e:ixN xs.length i with
 | none=>rw [e]at h;cases h
 | some j=>
   rw [e]at h
   obtain⟨h1,h2,q,G⟩:=Aac e
   exact⟨j,h1,h,h2,q,G⟩
theorem Gf {α:Type}{xs:List α}{v:α} (h:xs[j]? =some v):atI xs (j:Int)=some v:=by
 have q:j<xs.length:=(bL.mp h).1
 have e:ixN xs.length (j:Int)=some j:=by
  unfold ixN
  rw [aI (by omega),aI (by omega)];simp
 unfold atI;rw [e];exact h
theorem Ml {α:Type} (xs:List α) (v:α):atI (xs++ [v]) (-1)=some v:=by
 have q:(xs++ [v]).length=xs.length+1:=by simp
 have e:ixN (xs++ [v]).length (-1)=some xs.length:=by
  unfold ixN
  rw [q,aF (by decide),aI (by omega)]
  congr 1
  omega
 unfold atI
 rw [e]
 show(xs++ [v])[xs.length]? =some v
 simp
noncomputable def Yo (b:Expr):Prop:=∀o i,subscripted b false o i=operate [o,i] (getItem o i)
noncomputable def IxR (X:Cx) (r:R2):Prop:=
 ∀(value slice:Expr) (pins:List (Addr × Obj)) (s:Shared) (σ:St) (H:Hp) (x y:V) (v u:Value) (Q:VK),Inv X pins σ H s->RelV x v->RelV y u->r x y H Q->
   subscripted slice false v u=operate [v,u] (getItem v u)->wpAny (model X.prog X.w) X.A (subscriptTail value slice v u) (EP X pins σ Q) X.xe s
noncomputable def MtR (X:Cx) (id:String) (r:V->List V->Hp->VK->Prop):Prop:=
 ∀(pins:List (Addr × Obj)) (s:Shared) (σ:St) (H:Hp) (x:V) (xs:List V) (v:Value) (us:List Value) (Q:VK),Inv X pins σ H s->RelV x v->Vals xs us->r x xs H Q->
   wpAny (model X.prog X.w) X.A (call (.builtin id) (v::us)) (EP X pins σ Q) X.xe s
variable {pins:List (Addr × Obj)}{σ:St}{H:Hp}{s:Shared}{p:Addr}{A:Around}{y:V}{u:Value}{T:String}
section
variable {X:Cx}{a b:Expr}{ta tb:TE}{pos:Pos}
theorem Am4 {r:R2} (G:IxR X r) (J:PE X a ta) (L:PE X b tb) (M:Yo b):PE X (.Subscript a b pos) (tOp r ta tb):=by
 intro pins s σ H Q I h
 exact Subscript_ (Amh J L I h fun v u O x y H2 U W Z q=>G a b pins O σ H2 x y v u Q U W Z q (M _ _))
noncomputable def Ao7 (K:Frag):R2:=fun x y H Q=>∃p xs i v,x= .ref p/\y= .int i/\SqL K H p xs/\atI xs i=some v/\Q v H
noncomputable def Ane (K:Frag):R2:=fun x y H Q=>∃p xs i v,x= .ref p/\y= .int i/\SqT K H p xs/\atI xs i=some v/\Q v H
noncomputable def Ao8:R2:=fun x y H Q=>∃z i c,x= .str z/\y= .int i/\z.length<=sizeLine/\atI z.cps.toList i=some c/\Q (.str ⟨#[c]⟩) H
theorem Ht:IxR X (Ao7 X.K):=by
 intro value slice pins s σ H x y v u Q I rx ry h U
 obtain⟨p,xs,i,z,rfl,rfl,hq,he,q⟩:=h
 cases rx
 obtain⟨t,rfl⟩:=ry
 obtain⟨J,r,L,hz⟩:=I.list hq
 obtain⟨j,h1,h2,h3,h4,h5⟩:=Tr he
 obtain⟨w,W,M⟩:=r.get h2
 have hl:=r.length
 have hn:=R3
 have G:EP X pins σ Q w s:=⟨z,H,I,M,q⟩
 by_cases Z:0<=i
 . have O:i.toNat=j:=by
    rw [seqIndex_of Z h5]at h1
    exact bE h1
   exact item_listR L.isList Z (by omega) (by rw [O];simpa using W) G U
 . have O:(i+(J.toArray.size:Int)).toNat=j:=by
    rw [seqIndex_neg (by omega) h4]at h1
    rw [aR,<-hl]
    exact bE h1
   exact subscriptTail_builtinR (x:=w) L.isList.typeIs slot_list_getitem.lookup
    (wpAny_getItem_list_neg (Q:=fun r s'=>r=w/\EP X pins σ Q r s') L.isList (by omega) (by rw [aR]<;>omega) (by omega) (by rw [O];simpa using W) ⟨rfl,G⟩) U
theorem Du:IxR X (Ane X.K):=by
 intro value slice pins s σ H x y v u Q I M O h U
 obtain⟨p,xs,i,z,rfl,rfl,W,Z,q⟩:=h
 cases M
 obtain⟨t,rfl⟩:=O
 obtain⟨a0,r,L,hz⟩:=I.tuple W
 obtain⟨j,h1,h2,h3,h4,h5⟩:=Tr Z
 obtain⟨w,ew,G⟩:=r.get h2
 have hl:=r.length
 have hn:=R3
 have J:EP X pins σ Q w s:=⟨z,H,I,G,q⟩
 exact subscriptTail_builtinR (x:=w) L.typeIs slot_tuple_getitem.lookup
  (getItem_tuple (j:=j) (Q:=fun r s'=>r=w/\EP X pins σ Q r s') L (by omega) (by omega) (by rw [aR,<-hl];exact h1) (by simpa using ew) ⟨rfl,J⟩) U
theorem Ai4:IxR X Ao8:=by
 intro value slice pins s σ H x y v u Q I G J h L
 obtain⟨z,i,c,rfl,rfl,hz,M,q⟩:=h
 obtain⟨t,rfl⟩:=G
 obtain⟨t',rfl⟩:=J
 obtain⟨j,h1,h2,h3,O,U⟩:=Tr M
 have W:z.cps.toList.length=z.length:=by simp [Str.length]
 rw [W]at h1 O U
 have hn:=R3
 exact tail_any (typeIs_str s z t) slot_str_getitem.lookup (getItem_str (c:=c) (by
  have Z:decide (i< -(2^63:Int))=false:=bZ (by omega)
  have e2:decide (i>=2^63)=false:=bZ (by omega)
  rw [Z,e2,Bool.or_false]) (by rw [h1];simpa using h2) ⟨.str ⟨#[c]⟩,H,I.tok _,⟨_,rfl⟩,q⟩) L
theorem Xk (its:List Value) (n j:Nat) (u:Value):Obj.mapSeq (·.setIfInBounds j u) { cls:= .type "list",data:= .seq its.toArray n}={ cls:= .type "list",data:= .seq (its.set j u).toArray n}:=by
 simp [Obj.mapSeq]
theorem Inv.lst {pins:List (Addr × Obj)}{σ:St}{H:Hp}{s:Shared}{p:Addr}{xs:List V} (I:Inv X pins σ H s) (h:H p=some (.lst xs)):
 ∃(its:List Value) (n:Nat),Vals xs its/\s.heap.get? p=some { cls:= .type "list",data:= .seq its.toArray n}/\xs.length<=sizeLine:=by
 obtain⟨z,its,n,r,e⟩:=I.hok p _ h
 exact⟨its,n,r,e,z⟩
theorem Inv.lstUpd {xs ys:List V}{its its':List Value}{n G:Nat}{f:Obj->Obj} (I:Inv X pins σ H s) (h:H p=some (.lst xs))
 (L:s.heap.get? p=some { cls:= .type "list",data:= .seq its.toArray n}) (J:f { cls:= .type "list",data:= .seq its.toArray n}={ cls:= .type "list",data:= .seq its'.toArray G}) (r:Vals ys its') (M:ys.length<=sizeLine) (t:Nat):
 Inv X pins σ (upd H p (.lst ys)) { s with heap:=s.heap.update p f,toks:=t}:=by
 have e:(s.heap.update p f).get? p=some { cls:= .type "list",data:= .seq its'.toArray G}:=by
  rw [fN f L (by rw [J]<;>rfl),J]
 refine I.write (x:=p) (e:=p) (by rw [h];trivial) (.inl rfl) (fun b u O q=>(eQ _ _ (cS O)).trans q) ⟨_,e⟩ ?_
 exact⟨M,its',G,r,e⟩
noncomputable def Aki:V->V->V->Hp->(Hp->Prop)->Prop:=fun o i v H Q=>∃p xs k j,o= .ref p/\i= .int k/\H p=some (.lst xs)/\ixN xs.length k=some j/\Q (upd H p (.lst (xs.set j v)))
theorem set_list:Amd X Aki:=by
 intro pins s σ H o i v ov iv u Q I ro ri rv h
 obtain⟨p,xs,k,j,rfl,rfl,hp,hj,q⟩:=h
 cases ro
 obtain⟨t,rfl⟩:=ri
 obtain⟨G,n,r,J,hz⟩:=I.lst hp
 obtain⟨h1,h2,O,U⟩:=Aac hj
 have L:=r.length
 have hn:=R3
 have Z:Inv X pins σ (upd H p (.lst (xs.set j v))) { s with heap:=s.heap.update p (Obj.mapSeq (·.setIfInBounds j u))}:=
  I.lstUpd hp J (Xk G n j u) (r.set rv j) (by rw [length_set];exact hz) s.toks
 by_cases h0:0<=k
 . have M:k.toNat=j:=by
    rw [seqIndex_of h0 U]at h1
    exact bE h1
   exact PySem.W.ki_setAt J h0 (by omega) (by rw [aR,<-L];exact U) (by rw [M];exact⟨_,Z,q⟩)
 . have M:(k+(G.toArray.size:Int)).toNat=j:=by
    rw [seqIndex_neg (by omega) O]at h1
    rw [aR,<-L]
    exact bE h1
   exact PySem.W.ki_setBack J (by omega) (by rw [aR,<-L];exact O) (by omega) (by rw [M];exact⟨_,Z,q⟩)
theorem S6 (lo hi:Option Int) (n:Nat):(sliceBounds lo hi none n).1=((HT.sIx n 0 lo:Nat):Int)/\(sliceBounds lo hi none n).2.1=((HT.sIx n n hi:Nat):Int)/\(sliceBounds lo hi none n).2.2=1:=by
 refine⟨?_,?_,rfl⟩
 . cases lo with
   | none=>simp [sliceBounds,HT.sIx]
   | some i=>
     simp only [sliceBounds,HT.sIx,getD_none,show(1:Int)>0 by decide,gG]
     by_cases h:i<0
     . simp only [h,gG]<;>omega
     . simp only [h,fY]<;>omega
 . cases hi with
   | none=>simp [sliceBounds,HT.sIx]
   | some i=>
     simp only [sliceBounds,HT.sIx,getD_none,show(1:Int)>0 by decide,gG]
     by_cases h:i<0
     . simp only [h,gG]<;>omega
     . simp only [h,fY]<;>omega
theorem Rf (its:List Value) (lo hi:Option Int):slicePick its.toArray lo hi none=((its.drop (HT.sIx its.length 0 lo)).take (HT.sIx its.length its.length hi-HT.sIx its.length 0 lo)).toArray:=by
 obtain⟨h1,h2,q⟩:=S6 lo hi its.toArray.size
 unfold slicePick
 rw [h1,h2,q]
 simp only [sliceRange_one,pick_run,aR]<;>rfl
noncomputable def Ap2 (K:Frag):V->Option Int->Option Int->Hp->VK->Prop:=fun x lo hi H Q=>∃a xs,x= .ref a/\SqL K H a xs/\∀p,H p=none->Q (.ref p) (upd H p (.lst (O2 xs lo hi)))
theorem Ahe:SlR X (Ap2 X.K):=by
 intro pins s σ H x v vl vu lo hi sl Q I L M O U h
 obtain⟨a,xs,rfl,W,q⟩:=h
 cases L
 obtain⟨Z,r,J,hz⟩:=I.list W
 have G:=r.length
 refine⟨"list",_,slot_list_getitem.lookup,J.isList.typeIs,?_⟩
 refine wpAny_getItem_list_slice J.isList M O U .none (by simp) ?_ (by rw [aR]<;>omega)
 rw [Rf,<-G]
 refine⟨.ref s.heap.objs.size,_,I.laid (t':=s.toks) (o:= .lst (O2 xs lo hi)) (fun b ob q=>aC _ q) (aH _) ?_,rfl,q _ (I.hok.fresh (aH _))⟩
 exact⟨aO (M8 xs lo hi) hz,_,0,(r.drop (HT.sIx xs.length 0 lo)).take (HT.sIx xs.length xs.length hi-HT.sIx xs.length 0 lo),aN _ rfl⟩
noncomputable def Mf:V->Bool
 | .non=>true
 | .bl _=>true
 | .int _=>true
 | .str _=>true
 | _=>false
noncomputable def eqV:V->V->Bool
 | .non,.non=>true
 | .bl a,.bl b=>a==b
 | .bl a,.int b=>(if a then 1 else 0)==b
 | .int a,.bl b=>a==(if b then 1 else 0)
 | .int a,.int b=>a==b
 | .str a,.str b=>a==b
 | _,_=>false
theorem Aiu {x:V}{v:Value} (J:RelV y u) (q:RelV x v) (L:Mf y=true) (fx:Mf x=true):SeqAt.EqAt A s u v (eqV y x):=by
 cases y with
 | non=>
   cases J
   cases x with
   | non=>cases q;exact SeqAt.EqAt.same _
   | bl b=>cases q;exact SeqAt.EqAt.none_bool b
   | int b=>obtain⟨t,rfl⟩:=q;exact SeqAt.EqAt.none_int b t
   | str b=>obtain⟨t,rfl⟩:=q;exact SeqAt.EqAt.none_str b t
   | _=>exact absurd (show false=true from fx) aY
 | bl a=>
   cases J
   cases x with
   | non=>cases q;exact SeqAt.EqAt.bool_none a
   | bl b=>cases q;exact SeqAt.EqAt.bool_bool a b
   | int b=>obtain⟨t,rfl⟩:=q;exact SeqAt.EqAt.bool_int a b t
   | str b=>obtain⟨t,rfl⟩:=q;exact SeqAt.EqAt.bool_str a b t
   | _=>exact absurd (show false=true from fx) aY
 | int a=>
   obtain⟨G,rfl⟩:=J
   cases x with
   | non=>cases q;exact SeqAt.EqAt.int_none a G
   | bl b=>cases q;exact SeqAt.EqAt.int_bool a G b
   | int b=>obtain⟨t,rfl⟩:=q;exact SeqAt.EqAt.int_int a G b t
   | str b=>obtain⟨t,rfl⟩:=q;exact SeqAt.EqAt.int_str a G b t
   | _=>exact absurd (show false=true from fx) aY
 | str a=>
   obtain⟨G,rfl⟩:=J
   cases x with
   | non=>cases q;exact SeqAt.EqAt.str_none a G
   | bl b=>cases q;exact SeqAt.EqAt.str_bool a G b
   | int b=>obtain⟨t,rfl⟩:=q;exact SeqAt.EqAt.str_int a G b t
   | str b=>obtain⟨t,rfl⟩:=q;exact SeqAt.EqAt.str_str a G b t
   | _=>exact absurd (show false=true from fx) aY
 | _=>exact absurd (show false=true from L) aY
noncomputable def eqU (x:V) (u:Value):Bool:=match u with
 | .none=>eqV .non x
 | .bool b=>eqV (.bl b) x
 | .int i _=>eqV (.int i) x
 | .str z _=>eqV (.str z) x
 | _=>false
theorem Zu {x:V} (r:RelV y u) (f:Mf y=true):eqU x u=eqV y x:=by
 cases y with
 | non=>cases r;rfl
 | bl b=>cases r;rfl
 | int i=>obtain⟨t,rfl⟩:=r;rfl
 | str z=>obtain⟨t,rfl⟩:=r;rfl
 | _=>exact absurd (show false=true from f) aY
theorem M7 {x:V}:∀ {xs:List V}{us:List Value},Vals xs us->xs.all Mf=true->us.any (eqU x)=xs.any fun y=>eqV y x
 | _,_,.nil,_=>rfl
 | y::xs,u::us,.cons r t,f=>by
   rw [iY,cM]at f
   rw [gX,gX,Zu r f.1,M7 t f.2]
theorem Jd {A:Around}{s:Shared}{x:V}{v:Value} (G:RelV x v) (fx:Mf x=true):∀ {xs:List V}{us:List Value},Vals xs us->xs.all Mf=true->∀u∈us,SeqAt.EqAt A s u v (eqU x u)
 | _,_,.nil,_=>fun u q=>by cases q
 | y::xs,u::us,.cons r t,f=>fun J q=>by
   rw [iY,cM]at f
   rcases aQ.mp q with rfl | q
   . rw [Zu r f.1];exact Aiu r G f.1 fx
   . exact Jd G fx t f.2 J q
noncomputable def inV (x:V) (xs:List V):Bool:=xs.any fun y=>eqV y x
noncomputable def rIn (K:Frag) (neg:Bool):R2:=fun x y H Q=>∃p xs,y= .ref p/\(SqL K H p xs\/SqT K H p xs)/\Mf x=true/\xs.all Mf=true/\Q (.bl (if neg then !inV x xs else inV x xs)) H
theorem Sd:OpR X (compareOp .In) (rIn X.K false):=by
 intro pins s σ H x y v u Q I O U h
 obtain⟨p,xs,rfl,J,fx,fs,q⟩:=h
 cases U
 rcases J with J | J
 . obtain⟨G,r,L,W⟩:=I.list J
   refine SeqAt.in_listAt (eqU x) L.isList (fun w M=>Jd O fx r fs w (by simpa using M)) ⟨.bl _,H,I,rfl,?_⟩
   rw [show G.toArray.any (eqU x)=G.any (eqU x)by simp,M7 r fs]
   exact q
 . obtain⟨G,r,L,W⟩:=I.tuple J
   refine SeqAt.in_tupleAt (eqU x) L (fun w M=>Jd O fx r fs w (by simpa using M)) ⟨.bl _,H,I,rfl,?_⟩
   rw [show G.toArray.any (eqU x)=G.any (eqU x)by simp,M7 r fs]
   exact q
theorem Sh:OpR X (compareOp .NotIn) (rIn X.K true):=by
 intro pins s σ H x y v u Q I O U h
 obtain⟨p,xs,rfl,J,fx,fs,q⟩:=h
 cases U
 rcases J with J | J
 . obtain⟨G,r,L,W⟩:=I.list J
   refine SeqAt.notIn_listAt (eqU x) L.isList (fun w M=>Jd O fx r fs w (by simpa using M)) ⟨.bl _,H,I,rfl,?_⟩
   rw [show G.toArray.any (eqU x)=G.any (eqU x)by simp,M7 r fs]
   exact q
 . obtain⟨G,r,L,W⟩:=I.tuple J
   refine SeqAt.notIn_tupleAt (eqU x) L (fun w M=>Jd O fx r fs w (by simpa using M)) ⟨.bl _,H,I,rfl,?_⟩
   rw [show G.toArray.any (eqU x)=G.any (eqU x)by simp,M7 r fs]
   exact q
theorem Bt:Gv X (.builtin "len") (fun xs H Q=>∃p ys,xs=[.ref p]/\(SqL X.K H p ys\/SqT X.K H p ys)/\Q (.int ys.length) H):=by
 intro pins s σ H xs Z Q I r h
 obtain⟨p,ys,rfl,J,q⟩:=h
 obtain⟨u,rfl,U⟩:=vals1 r
 cases U
 have hn:=R3
 rcases J with J | J
 . obtain⟨L,M,O,W⟩:=I.list J
   have G:=M.length
   exact Calls.call_len_list O.isList (by simp only [aR]<;>omega) ⟨.int ys.length,H,I.tok _,⟨s.toks+1,by rw [aR,G]⟩,q⟩
 . obtain⟨L,M,O,W⟩:=I.tuple J
   have G:=M.length
   exact len_tuple O (by simp only [aR]<;>omega) ⟨.int ys.length,H,I.tok _,⟨s.toks+1,by rw [aR,G]⟩,q⟩
theorem Lj:Gv X (.type "list") (fun xs H Q=>∃p ys,xs=[.ref p]/\(SqL X.K H p ys\/SqT X.K H p ys)/\∀l,H l=none->Q (.ref l) (upd H l (.lst ys))):=by
 intro pins s σ H xs us Q I r h
 obtain⟨p,ys,rfl,M,q⟩:=h
 obtain⟨u,rfl,rx⟩:=vals1 r
 cases rx
 have O:∀(G:List Value),Vals ys G->ys.length<=sizeLine->∀(h':Heap) (J:Nat),(∀b o',s.heap.get? b=some o'->h'.get? b=some o')->
  h'.get? s.heap.objs.size=some { cls:= .type "list",dict:=none,data:= .seq G.toArray J,slots:= #[]}->EP X pins σ Q (.ref s.heap.objs.size) { s with heap:=h'}:=fun G L U h' J W e=>
  ⟨.ref s.heap.objs.size,_,I.laid (t':=s.toks) W (aH _) (show Dk X.prog X.w _ h' _ (.lst ys)from⟨U,G,J,L,e⟩),rfl,q _ (I.hok.fresh (aH _))⟩
 rcases M with M | M
 . obtain⟨G,L,pl,U⟩:=I.list M
   have Z:=L.length
   obtain⟨o,ho,hc,n,hd⟩:=pl.isList
   exact call_list_seq p (.inl rfl) ho hc hd (fun h' J W e=>O G L U h' J W e) (by simp only [aR]<;>omega)
 . obtain⟨G,L,pl,U⟩:=I.tuple M
   have Z:=L.length
   obtain⟨o,ho,hc,n,hd⟩:=pl
   exact call_list_seq p (.inr rfl) ho hc hd (fun h' J W e=>O G L U h' J W e) (by simp only [aR]<;>omega)
theorem Ed:Gv X (.type "tuple") (fun xs H Q=>∃p ys,xs=[.ref p]/\((SqL X.K H p ys/\∀l,H l=none->Q (.ref l) (upd H l (.tup ys)))\/(SqT X.K H p ys/\Q (.ref p) H))):=by
 intro pins s σ H xs us Q I r h
 obtain⟨p,ys,rfl,h⟩:=h
 obtain⟨u,rfl,Z⟩:=vals1 r
 cases Z
 rcases h with⟨J,q⟩ | ⟨J,q⟩
 . obtain⟨G,L,M,O⟩:=I.list J
   have U:=L.length
   refine call_tuple_list M.isList (fun h' kp=> ?_) (by simp only [aR]<;>omega)
   have W:Inv X pins σ H { s with heap:=h'}:=I.kept (t':=s.toks) kp
   have I2:Inv X pins σ (upd H h'.objs.size (.tup ys)) { s with heap:=h'.push { cls:= .type "tuple",data:= .seq G.toArray}}:=
    W.laid (t':=s.toks) (fun b o e=>aC _ e) (aH _) (show Dk X.prog X.w _ _ _ (.tup ys)from⟨O,G,L,IsTup.new _ _⟩)
   exact⟨.ref h'.objs.size,_,I2,rfl,q _ (W.hok.fresh (aH _))⟩
 . obtain⟨G,L,M,O⟩:=I.tuple J
   exact call_tuple_same M ⟨.ref p,H,I,rfl,q⟩
noncomputable def tyV (K:Frag) (T:String) (x:V) (H:Hp):Prop:=match x with
 | .str _=>T="str"
 | .int _=>T="int"
 | .ref p=>(T="list"/\∃xs,SqL K H p xs)\/(T="tuple"/\∃o,K.lookup p=some o/\o.cls= .type "tuple"/\o.dict=none)\/
    (T="dict"/\((∃kvs,H p=some (.dK kvs))\/∃kvs,H p=some (.dT kvs)))\/(T="set"/\∃S n,H p=some (.set S n))
 | _=>False
theorem Afg {x:V}{v:Value} (I:Inv X pins σ H s) (r:RelV x v) (ty:tyV X.K T x H):
 s.TypeIs v T/\∀a,v= .ref a->∃L,s.heap.get? a=some L/\L.dict=none:=by
 cases x with
 | str z=>
   obtain⟨t,rfl⟩:=r
   cases(show T="str" from ty)
   exact⟨typeIs_str s z t,fun _ e=>nomatch e⟩
 | int i=>
   obtain⟨t,rfl⟩:=r
   cases(show T="int" from ty)
   exact⟨typeIs_int s i t,fun _ e=>nomatch e⟩
 | ref p=>
   cases r
   rcases ty with⟨rfl,xs,O⟩ | ⟨rfl,o,q,U,G⟩ | ⟨rfl,q⟩ | ⟨rfl,S,n,q⟩
   . obtain⟨W,_,M,_⟩:=I.list O
     refine⟨M.isList.typeIs,fun a e=> ?_⟩
     cases e
     obtain⟨o,n,e,c,G,_⟩:=M
     exact⟨o,e,G⟩
   . refine⟨⟨o,I.kIn p o q,U⟩,fun a e=> ?_⟩
     cases e
     exact⟨o,I.kIn _ o q,G⟩
   . have z:∃o,s.heap.get? p=some o/\o.ExactDict:=by
      rcases q with⟨kvs,q⟩ | ⟨kvs,q⟩
      . obtain⟨_,_,_,_,o,_,_,e,ex,_⟩:=I.hok p _ q
        exact⟨o,e,ex⟩
      . obtain⟨_,_,_,_,o,_,_,e,ex,_⟩:=I.hok p _ q
        exact⟨o,e,ex⟩
     obtain⟨o,e,ex⟩:=z
     refine⟨⟨o,e,ex.1⟩,fun a J=> ?_⟩
     cases J
     exact⟨o,e,ex.2.1⟩
   . obtain⟨o,_,_,_,e,ex,_⟩:=I.hok p _ q
     refine⟨⟨o,e,ex.1⟩,fun a J=> ?_⟩
     cases J
     exact⟨o,e,ex.2.1⟩
 | _=>exact False.elim ty
noncomputable def Anh (K:Frag) (T:String) (r:V->List V->Hp->VK->Prop) (to:TE):TE:=fun σ H Q=>to σ H fun x H1=>tyV K T x H1/\r x [] H1 Q
noncomputable def tBM (K:Frag) (T:String) (r:V->List V->Hp->VK->Prop) (to:TE) (t:TA):TE:=fun σ H Q=>to σ H fun x H1=>tyV K T x H1/\t σ H1 fun xs H2=>r x xs H2 Q
variable {o e:Expr}{es:List Expr}{to:TE}{t:TA}{name:Str}{apos cpos:Pos}{T id:String}{r:V->List V->Hp->VK->Prop}
theorem Aa2 (pa:PlainAttrs T) (J:Slot T name id) (L:typeOf (.builtin id)=pure (.type "method_descriptor")) (U:MtR X id r) (W:PE X o to)
 (q:attributeBase o name X.env (eval o X.env)=eval o X.env:=by rfl) (G:(apos.endLine==cpos.line)=true:=by rfl):PE X (.Call (.Attribute o name apos) [] [] cpos) (Anh X.K T r to):=by
 intro pins s σ H Q I h
 refine wpAny_Call_method0_late q G (thn (W pins s σ H _ I h) fun v Z ⟨x,H1,M,O,ty,q1⟩=> ?_)
 obtain⟨h1,h2⟩:=Afg M O ty
 exact⟨T,id,pa,J,L,h1,h2,fH rfl (PySem.evalArgs_none (U pins Z σ H1 x [] v [] Q M O .nil q1))⟩
theorem Xz (pa:PlainAttrs T) (L:Slot T name id) (O:typeOf (.builtin id)=pure (.type "method_descriptor")) (hm:MtR X id r) (ho:PE X o to) (ha:PA X (e::es) t)
 (G:attributeBase o name X.env (eval o X.env)=eval o X.env:=by rfl)
 (M:((backTo cpos (starEach (e::es) X.env)).all (fun x=> !x.1)&&(backToKw cpos (keywordEach [] X.env)).all (fun x=>x.1.isSome)
   &&decide ((e::es).length+([]:List Keyword).length+(if([]:List Keyword).isEmpty then 0 else 1)<30))=true:=by rfl)
 (J:(apos.endLine==cpos.line)=true:=by rfl) (hs:starEach (e::es) X.env=(false,eval e X.env)::starEach es X.env:=by rfl) (q:(backTo cpos (starEach es X.env)).any (·.1)=false:=by rfl):
 PE X (.Call (.Attribute o name apos) (e::es) [] cpos) (tBM X.K T r to t):=by
 intro pins s σ H Q I h
 refine wpAny_Call_method_late G M J rfl (thn (ho pins s σ H _ I h) fun v s1 ⟨x,H1,U,W,ty,q1⟩=> ?_)
 obtain⟨h1,h2⟩:=Afg U W ty
 refine⟨T,id,pa,L,O,h1,h2,?_⟩
 have Z:=ha cpos pins s1 σ H1 _ U q1
 rw [hs]at Z ⊢
 refine fH (by show(false||(backTo cpos (starEach es X.env)).any (·.1))=false;rw [q]<;>rfl) (Calls.evalArgs_plain ?_)
 exact thn Z fun us s2 ⟨vs,H2,I2,r2,q2⟩=>hm pins s2 σ H2 x vs v us Q I2 W r2 q2
/-xs.append(e),list.index on a module's tuple .. are MtR facts of 06m-/
end
noncomputable def MtM (X:Cx) (id:String) (r:V->List V->Hp->VK->Prop):Prop:=
 ∀(pins:List (Addr × Obj)) (s:Shared) (σ:St) (H:Hp) (x:V) (xs:List V) (v:Value) (us:List Value) (Q:VK),Inv X pins σ H s->RelV x v->Vals xs us->r x xs H Q->
   wpAny (model X.prog X.w) X.A (call (.builtin id) (v::us)) (EP X pins σ Q) X.xe s
theorem Vals.one:∀ {x:V}{us:List Value},Vals [x] us->∃u,us=[u]/\RelV x u
 | _,_,.cons r .nil=>⟨_,rfl,r⟩
theorem Vals.zero:∀ {us:List Value},Vals [] us->us=[]
 | _,.nil=>rfl
theorem Vals.dropLast {xs:List V}{us:List Value} (h:Vals xs us):Vals xs.dropLast us.dropLast:=by
 induction h with
 | nil=>exact .nil
 | cons r t G=>
   cases t with
   | nil=>exact .nil
   | cons q J=>exact .cons r G
theorem Vals.eraseIdx:∀ {xs:List V}{us:List Value} (i:Nat),Vals xs us->Vals (xs.eraseIdx i) (us.eraseIdx i)
 | _,_,_,.nil=> .nil
 | _,_,0,.cons _ t=>t
 | _,_,i+1,.cons r t=> .cons r (Vals.eraseIdx i t)
theorem Xf {α:Type} (l:List α):l.eraseIdx (l.length-1)=l.dropLast:=by
 induction l with
 | nil=>rfl
 | cons a r q=>
   cases r with
   | nil=>rfl
   | cons b r=>
     have e:(a::b::r).length-1=((b::r).length-1)+1:=by
      have h1:(a::b::r).length=r.length+2:=rfl
      have h2:(b::r).length=r.length+1:=rfl
      omega
     rw [e,List.eraseIdx_cons_succ,q]
     all_goals rfl
theorem R0 {α:Type}:∀(l:List α) (i:Nat),(l.eraseIdx i).length<=l.length
 | [],_=>aH _
 | _::_,0=>fV _
 | _::r,i+1=>Nat.succ_le_succ (R0 r i)
variable {its:List Value}
section
variable {X:Cx}{pins:List (Addr × Obj)}{σ:St}{H:Hp}{s:Shared}{l b:Addr}{xs ys zs:List V}
theorem Inv.lset {its its':List Value}{n:Nat}{f:Array Value->Array Value}{t':Nat} (I:Inv X pins σ H s) (G:H l=some (.lst xs))
 (e:s.heap.get? l=some { cls:= .type "list",data:= .seq its.toArray n}) (J:f its.toArray=its'.toArray) (L:Vals ys its') (M:ys.length<=sizeLine):
 Inv X pins σ (upd H l (.lst ys)) { s with heap:=s.heap.update l (Obj.mapSeq f),toks:=t'}:=by
 have q:=PySem.IsL.update e f
 rw [J]at q
 refine I.write (x:=l) (e:=l) (by rw [G];exact trivial) (.inl rfl) (fun W u O U=>(eQ s.heap (Obj.mapSeq f) (cS O)).trans U) ⟨_,q⟩ ?_
 exact⟨M,its',_,L,q⟩
theorem Inv.lnew {t':Nat} (I:Inv X pins σ H s) (G:Vals ys its) (J:ys.length<=sizeLine):
 Inv X pins σ (upd H s.heap.objs.size (.lst ys)) { s with heap:=s.heap.push { cls:= .type "list",data:= .seq its.toArray},toks:=t'}:=
 I.laid (fun _ _ q=>aC _ q) (aH _) ⟨J,its,0,G,aN _ rfl⟩
theorem Inv.fresh (I:Inv X pins σ H s):H s.heap.objs.size=none:=I.hok.fresh (aH _)
theorem Inv.lstM (I:Inv X pins σ H s) (q:H l=some (.lst xs)):xs.length<=sizeLine/\∃(its:List Value) (n:Nat),Vals xs its/\xs.length=its.length/\s.heap.get? l=some { cls:= .type "list",data:= .seq its.toArray n}:=by
 obtain⟨z,its,n,r,e⟩:=I.hok l _ q
 exact⟨z,its,n,r,r.length,e⟩
end
section
variable {X:Cx}
noncomputable def Ag9:V->List V->Hp->VK->Prop:=fun x vs H Q=>∃l xs y,x= .ref l/\vs=[y]/\H l=some (.lst xs)/\xs.length<sizeLine/\Q .non (upd H l (.lst (xs++ [y])))
theorem Hh:MtM X "list.append" Ag9:=by
 intro pins s σ H x U v W Q I L M h
 obtain⟨l,xs,y,rfl,rfl,J,Z,q⟩:=h
 cases L
 obtain⟨u,rfl,O⟩:=M.one
 obtain⟨z,G,n,r,hl,e⟩:=I.lstM J
 refine call_meets F.slot_list_append ⟨_,e,rfl⟩ F.entry_list_append (F.args_list_append_2 _ _) (PySem.list_append l G.toArray n u (by rw [aR];omega)) ⟨e,?_⟩
 refine⟨.non,_,I.lset (its':=G++ [u]) J e (by simp) (r.append (.cons O .nil)) ?_,rfl,q⟩
 rw [aL,dJ]
 omega
noncomputable def Ap0:V->List V->Hp->VK->Prop:=fun x vs H Q=>∃l xs y,x= .ref l/\vs=[]/\H l=some (.lst xs)/\xs[xs.length-1]? =some y/\Q y (upd H l (.lst xs.dropLast))
theorem Ajn:MtM X "list.pop" Ap0:=by
 intro pins s σ H x vs v us Q I O U h
 obtain⟨l,xs,y,rfl,rfl,M,W,q⟩:=h
 cases O
 have J:=U.zero
 subst J
 obtain⟨z,G,n,r,Z,e⟩:=I.lstM M
 obtain⟨u,hu,ru⟩:=r.get W
 have L:G.toArray[G.toArray.size-1]? =some u:=by
  show G.toArray[G.length-1]? =some u
  rw [<-eC,<-Z]
  exact hu
 refine call_meets F.slot_list_pop ⟨_,e,rfl⟩ F.entry_list_pop (F.args_list_pop_1 _) (MeetsSeq.list_pop_last l G.toArray n u L (by rw [aR];omega)) ⟨e,?_⟩
 refine⟨y,_,I.lset (its':=G.dropLast) M e ?_ r.dropLast ?_,ru,q⟩
 . show G.toArray.eraseIdxIfInBounds (G.toArray.size-1)=G.dropLast.toArray
   rw [aR,List.eraseIdxIfInBounds_toArray,Xf]
 . rw [List.length_dropLast]
   omega
noncomputable def Akh:V->List V->Hp->VK->Prop:=fun x vs H Q=>∃l xs i k y,x= .ref l/\vs=[.int i]/\H l=some (.lst xs)/\ -(2^63)<=i/\i<2^63/\seqIndex? i xs.length=some k/\xs[k]? =some y/\Q y (upd H l (.lst (xs.eraseIdx k)))
theorem Adi:MtM X "list.pop" Akh:=by
 intro pins s σ H x vs v us Q I M O h
 obtain⟨l,xs,i,k,y,rfl,rfl,L,h1,h2,U,W,q⟩:=h
 cases M
 obtain⟨u,rfl,Z⟩:=O.one
 obtain⟨t,rfl⟩:=Z
 obtain⟨z,G,n,r,hl,e⟩:=I.lstM L
 obtain⟨w,hw,J⟩:=r.get W
 refine call_meets F.slot_list_pop ⟨_,e,rfl⟩ F.entry_list_pop (F.args_list_pop_2 _ _)
  (MeetsSeq.list_pop_at l G.toArray n i t k w (fitsIndex_both h1 h2) (by rw [aR,<-hl];exact U) (by rw [<-eC];exact hw) (by rw [aR];omega)) ⟨e,?_⟩
 refine⟨y,_,I.lset (its':=G.eraseIdx k) L e ?_ (r.eraseIdx k) ?_,J,q⟩
 . show G.toArray.eraseIdxIfInBounds k=(G.eraseIdx k).toArray
   rw [List.eraseIdxIfInBounds_toArray]
 . have:=R0 xs k
   omega
noncomputable def Apz:R2:=fun x y H Q=>∃l b xs zs,x= .ref l/\y= .ref b/\H l=some (.lst xs)/\H b=some (.lst zs)/\xs.length+zs.length<=sizeLine/\∀p,H p=none->Q (.ref p) (upd H p (.lst (xs++zs)))
theorem V9:OpR X (binaryOp .Add) Apz:=by
 intro pins s σ H x y v u Q I L M h
 obtain⟨l,b,xs,zs,rfl,rfl,O,U,hz,q⟩:=h
 cases L
 cases M
 obtain⟨z,J,n,r,hl,e⟩:=I.lstM O
 obtain⟨z2,G,n2,W,Z,e2⟩:=I.lstM U
 refine PySem.P.add_list e e2 ?_ (by rw [aR,aR];omega)
 have ea:J.toArray++G.toArray=(J++G).toArray:=by simp
 rw [ea]
 exact⟨.ref _,_,I.lnew (t':=s.toks) (r.append W) (by rw [aL];omega),rfl,q _ I.fresh⟩
end
end L2
namespace Att
open PySem PySem.W PySem.Calls PyProof.Rows
theorem Nh {P:Params}{h:Heap}:∀(ns:List Int) (vs:List Value),WellAll P h vs (ns.map WData.int)->IntsAre vs ns:=by
 intro ns
 induction ns with
 | nil=>
   intro vs w
   rw [jN]at w
   cases w
   exact .nil
 | cons n ns q=>
   intro vs w
   rw [aU]at w
   cases w with
   | cons a b=>
     cases a
     exact .cons _ _ (q _ b)
theorem Abm {l:OpenLaw}{n:Nat} (hn:l.most=some n) {P:Params}{h:Heap}{args:List WData}{G:List Value}
 (J:l.row.toRowW.claim.pre args=true) (W:WellAll P h G args):
 ∃a vs ns,G=[Value.ref a]/\args=[WData.list (ns.map WData.int)]/\h.get? a=some { cls:= .type "list",data:= .seq vs.toArray}/\IntsAre vs ns/\ns.length<=n:=by
 have Z:WShape.hasAll [] args [.list .int]=true:=(pre_splitW J).1
 have hc:l.pre.holds [] { args:=args}=true:=(pre_splitW J).2
 obtain⟨d,r,rfl,h1,h2⟩:=hasAllW_cons Z
 obtain rfl:=hasAllW_nil h2
 obtain⟨xs,rfl,h3⟩:=hasW_list h1
 obtain⟨ns,rfl⟩:=items_int h3
 have L:ns.length<=n:=by
  unfold OpenLaw.pre at hc
  have O:(WTm.not (.lt (.lit (.int (n:Int))) (.len (.arg 0)))).holds [] { args:=[.list (ns.map .int)]}=true:=by
   have O:=(holds_andW hc).1
   rw [hn]at O
   exact O
  have U:=condW_of O (w_not (w_lt w_lit (w_len_list (w_arg rfl))))
  rw [aB]at U
  refine iR fun q=> ?_
  have q':(n:Int)<((ns.length:Nat):Int):=by omega
  first
   | (rw [cD q']at U;exact absurd U (by decide))
   | (simp at U;omega)
 cases W with
 | cons w1 w2=>
   cases w2
   cases w1 with
   | list ho M=>exact⟨_,_,ns,rfl,rfl,ho,Nh ns _ M,L⟩
theorem Abb (l:OpenLaw) (args:List WData):l.row.toRowW.claim.post args (.bool true) args=true:=
 postW_of (r:=l.row.toRowW) (X:=(true==true))
  (show WShape.has [] (.bool true) .bool=true by first | rfl | decide | simp [WShape.has,WShape.arms,WShape.armsAll])
  (show(WTm.eq .res (.lit (.bool true))).value [] { args:=args,res:=some (.bool true),after:=args}=some (.bool (true==true))from w_eq_bool (w_res rfl) w_lit) rfl
theorem Tt {l:OpenLaw}{n:Nat}{q:Program}{L:List Str}{XP:(Str->Option Value)->Heap->Prop}{YP:World->Heap->Prop}{d:DefRec}
 (hn:l.most=some n) (a2:d.params.defaults=[])
 (call:∀(w:World) (M J:Shared) (mg mb:Str->Option Value) (W:Addr) (o:Obj) (pm cd O:Value) (a:Addr) (vs:List Value) (ns:List Int),
   Ground q L [] XP w M mg mb J.heap->YP w J.heap->
   J.heap.get? W=some o->o.data= .func (docDef d.name d.params d.body d.scope pm cd O)->J.heap.CodeRec cd d.name->mg d.name=some (.ref W)->
   J.heap.get? a=some { cls:= .type "list",data:= .seq vs.toArray}->IntsAre vs ns->ns.length<=n->J.gens= #[]->
   codeAny (model l.prog w) callerA (.call (.ref W) ⟨[.ref a],[]⟩) (fun r s'=>r= .ok (.ret (.bool true))/\OldK J.heap s'.heap/\s'.os=J.os/\AllBare s'.gens) J):
 WalkO q L XP YP l.row.toRowW d [] (fun f vs=>PySem.call f vs):=by
 intro w M J mg mb G Y W o pm cd O dV kV ho hd a3 hD a4 hg args a6 as Z a7 a8 a5 a9
 obtain rfl:dV= .none:=Dflts.none hD a2
 obtain rfl:kV= .none:=Dflts.noKw hD
 obtain⟨a,vs,ns,rfl,rfl,a0,U,a1⟩:=Abm hn Z a5
 refine enter_call (codeAny_mono (call w M J mg mb W o pm cd O a vs ns G Y ho (fd_plain hd) a3 a4 a0 U a1 hg) fun r s' hq=> ?_)
 obtain⟨rfl,h2,h3,h4⟩:=hq
 exact⟨.inl ⟨.bool true,.bool true,[],rfl,fun _=>rfl,.bool true,Abb l _,fun _=>⟨Pairwise.nil,fun _ hm=>(nomatch hm)⟩⟩,h2,h3,h4⟩
end Att
namespace L2
open PySem PySem.Spec PyProof.Rows
theorem Tf:∀ {vs:List Value}{ns:List Int},IntsAre vs ns->Vals (ns.map V.int) vs
 | _,_,.nil=> .nil
 | _,_,.cons n t h=> .cons ⟨t,rfl⟩ (Tf h)
noncomputable def Only (H:Hp):Prop:=∀b,H b=none\/∃o xs,H b=some (.frz o (.lst xs))
theorem Adg {P:Program}{w:World}{K:Frag}{mg mb:Str->Option Value}{CX:CXT}{k:Nat}{fa a:Addr}{fd:FuncData}{x:Str}{sp:Sp}{G:Shared}{vs:List Value}{ns:List Int}
 (KX:K.In G.heap) (Z:G.heap.Ns mainGlobals mg) (L:G.heap.Ns builtinsNs mb) (a6:∀x:Str,x≠"__name__"->mb x=bootBuiltins x) (a0:G.heap.NoLimit) (hg:G.gens= #[])
 (ha:G.heap.get? a=some { cls:= .type "list",data:= .seq vs.toArray}) (hi:IntsAre vs ns) (hl:ns.length<=sizeLine) (hr:Km k callerA)
 (F:∀base:Heap,K.In base->base.Ns mainGlobals mg->Pz P w K mg base CX k fa fd [x] sp) (U:∀(s:Shared) (u:Value),BindsTo s fd ⟨[u],[]⟩ [(x,u)])
 (a7:∀H:Hp,Only H->SqL K H a (ns.map V.int)->sp [.ref a] H (fun v _=>v= .bl true) fun _ _ _=>False)
 (a8:∀H e s',CX [] H G (fun _ _ _=>False) e s'->False):
 codeAny (model P w) callerA (.call (.ref fa) ⟨[.ref a],[]⟩) (fun r s'=>r= .ok (.ret (.bool true))/\OldK G.heap s'.heap/\s'.os=G.os/\AllBare s'.gens) G:=by
 have rv:=Tf hi
 have a1:=hi.length
 have O:∀H:Hp,Only H->SqL K H a (ns.map V.int)->HOk P w H G.heap->(∀b,H b≠none->b=a)->(H a≠none->K.lookup a=none)->
  codeAny (model P w) callerA (.call (.ref fa) ⟨[.ref a],[]⟩) (fun r s'=>r= .ok (.ret (.bool true))/\OldK G.heap s'.heap/\s'.os=G.os/\AllBare s'.gens) G:=by
  intro H hO hS a2 hA hK
  have J:∀ {b:Addr}{o:Obj},G.heap.get? b=some o->H b=none->(Ade G.heap H).get? b=some o:=fun e n=>Adf e n
  have a9:∀ {b:Addr}{o:Obj}{es:Array DictEntry}{ep:Nat},G.heap.get? b=some o->o.data= .dict es ep->H b=none:=fun {b o es ep} e d=>by
   cases q:H b with
   | none=>rfl
   | some u=>
     have e':b=a:=hA b (by rw [q];simp)
     subst e'
     rw [ha]at e;cases e
     have d':Data.seq vs.toArray _=Data.dict es ep:=d
     cases d'
  have M:∀ {b:Addr}{m:Str->Option Value},G.heap.Ns b m->(Ade G.heap H).Ns b m:=fun {b m} ⟨o,es,ep,e,d,r⟩=>⟨o,es,ep,J e (a9 e d),d,r⟩
  have a3:K.In (Ade G.heap H):=fun b o e=>J (KX b o e) (by
   cases q:H b with
   | none=>rfl
   | some u=>
     have e':b=a:=hA b (by rw [q];simp)
     subst e'
     rw [hK (by rw [q];simp)]at e;cases e)
  have hM:Mod K mg (Ade G.heap H):=⟨a3,M Z,⟨mb,M L,a6⟩,let ⟨mc,h1,h2⟩:=a0;⟨mc,M h1,h2⟩⟩
  have e0:Afh P w K mg (Ade G.heap H) callerA [] G H:=⟨rfl,hM,fun b o e=>Age e,eJ (Z4 _ _),trivial,fun b L=>absurd (show b∈([]:List Addr)from L) (by simp),a2,.of_eq hg⟩
  refine codeAny_mono ((F _ a3 (M Z)).run callerA [] G H ⟨[.ref a],[]⟩ [.ref a] [.ref a] _ _ hr e0 (U G (.ref a)) (.cons rfl .nil) (a7 H hO hS)) fun r s' h=> ?_
  cases r with
  | error e=>exact(a8 H e s' h).elim
  | ok fl=>
    cases fl with
    | next=>exact False.elim h
    | brk=>exact False.elim h
    | cont=>exact False.elim h
    | ret u=>
      obtain⟨v,H',os,a4,un,a5,r',q⟩:=h
      have q':v= .bl true:=q
      subst q'
      obtain rfl:u=Value.bool true:=r'
      refine⟨rfl,OldK.of_keep fun b o e=> ?_,os,a4⟩
      cases q:H b with
      | none=>exact un.keep b o e q (by intro z;exact absurd (show b∈([]:List Addr)from z) (by simp)) (by simp)
      | some u=>
        rcases hO b with z | ⟨ob,xs,z⟩
        . rw [q]at z;cases z
        . have z2:=un.frzs b ob _ z
          obtain⟨e1,_⟩:=a2 b _ z
          obtain⟨e2,_⟩:=a5 b _ z2
          rw [e]at e1;cases e1
          exact e2
 cases hk:K.lookup a with
 | some o=>
   have e:=KX a o hk
   rw [ha]at e
   cases e
   refine O (fun _=>none) (fun _=> .inl rfl) (.inr ⟨_,vs.toArray,_,hk,rfl,rfl,rfl,by rw [aR,a1];exact hl,by simpa using rv⟩) (fun b u z=>by have z':(none:Option HO)=some u:=z;cases z') (fun b z=>absurd rfl z) fun z=>absurd rfl z
 | none=>
   refine O (fun b=>if b=a then some (.frz { cls:= .type "list",data:= .seq vs.toArray} (.lst (ns.map V.int)))else none) (fun b=> ?_) (.inl (.inr ⟨{ cls:= .type "list",data:= .seq vs.toArray},aI rfl⟩)) (fun b u z=> ?_) (fun b z=> ?_) fun _=>hk
   . by_cases L:b=a
     . exact .inr ⟨_,_,aI L⟩
     . exact .inl (aF L)
   . by_cases L:b=a
     . have z':=(aI L).symm.trans z
       cases z'
       subst L
       exact⟨ha,by rw [aB];exact hl,vs,_,rv,ha⟩
     . have z':=(aF L).symm.trans z
       cases z'
   . by_cases L:b=a
     . exact L
     . exact absurd (aF L) z
theorem Ace {l:PySem.W.OpenLaw}{n k:Nat}{q:Program}{L:List Str}{XP:(Str->Option Value)->Heap->Prop}{YP:World->Heap->Prop}{d:DefRec}{K:Params->Frag}{CX:World->CXT}{sp:World->Sp}{x:Str}
 (hn:l.most=some n) (a0:n<=sizeLine) (a1:d.params.defaults=[]) (hr:Km k callerA)
 (hY:∀(w:World) (h:Heap),YP w h->(K w.params).In h)
 (F:∀(w:World) (mg:Str->Option Value) (Z:Addr) (h:Heap),(K w.params).In h->h.Ns mainGlobals mg->mg d.name=some (.ref Z)->
   ∃fd:FuncData,(∀(s:Shared) (u:Value),BindsTo s fd ⟨[u],[]⟩ [(x,u)])/\
    ∀base:Heap,(K w.params).In base->base.Ns mainGlobals mg->Pz l.prog w (K w.params) mg base (CX w) k Z fd [x] (sp w))
 (a2:∀(w:World) (H:Hp) (a:Addr) (ns:List Int),ns.length<=n->Only H->SqL (K w.params) H a (ns.map V.int)->sp w [.ref a] H (fun v _=>v= .bl true) fun _ _ _=>False)
 (a3:∀(w:World) (H:Hp) (s:Shared) (e:Value) (s':Shared),CX w [] H s (fun _ _ _=>False) e s'->False):
 PySem.W.WalkO q L XP YP l.row.toRowW d [] (fun f vs=>PySem.call f vs):=by
 refine Att.Tt hn a1 fun w a5 O mg mb Z o pm cd a6 a vs ns G Y ho hd a7 a4 U M J hg=> ?_
 have KX:=hY w _ Y
 obtain⟨fd,hb,hF⟩:=F w mg Z _ KX G.T.g a4
 exact Adg KX G.T.g G.T.b G.T.builtins G.T.nolimit hg U M (aO J a0) hr hF hb (fun H hO hS=>a2 w H a ns J hO hS) fun H e s'=>a3 w H O e s'
end L2
/-THE LAST THEOREM (shape;LID,My.*are yours):
 My.Adr:a structure of the addresses that your layer names (classes,functions);My.Txt K t:a structure (Prop) of the equations over K;
 My.txt_mk:{K}{implicit addresses ..} (e1:nsIn K mainGlobals "law"=some (some (.ref f))) (e2:K.lookup f=some ⟨oc,od,.func (fnOf "law" "law" params body scope dV kV doc pm an cdv ct),sl⟩) (e3:codeIn K cdv "law"=true) .. :∃t,My.Txt K t
set_option maxRecDepth 100000 in
set_option maxHeartbeats 0 in
theorem PySem.Challenge.cw_LID_holds : PySem.Challenge.rw_LID.Holds := by
 w_on;o_law;k_head;(case hw=>w_witness2)
 k_fill
 refine L2.Ace (l:=PySem.Challenge.rw_LID) (n:=63) (k:=40) (x:="script") (CX:=fun w=> ..) (sp:=fun _=>My.sp_law) rfl (by decide) rfl ⟨rfl,by decide,by decide⟩ (fun w h Y=>kIn_of Y) ?F ?S ?C
 case F=>
  intro w mg fa h KX G O
  have T:∃t,My.Txt (L2.KOf KX) t:=by
   dsimp only [L2.KOf]                          --K must stand as «<heap const>w.params» for q
   refine' My.txt_mk ?e1 ?e2 ?e3 ..
   (case e1=>PySem.W.k_is)                    --in L order:a name->its address->its object->its parts
   (case e2=>PySem.W.k_is)
   ..
  obtain⟨t,T⟩:=T
  have e0:=O.symm.trans (iW KX G T.law)
  cases e0                                       --fa is L law's own address
  exact⟨_,fun s u=> .of_eq rfl,fun base U Z=>My.law_fn T U Z⟩     --if «.of_eq rfl» comes too early:refine' ⟨_,?b,fun base U Z=>My.law_fn T U Z⟩;exact fun s u=> .of_eq rfl
 case S=>exact fun w H a ns hl hO hS=> ..
 case C=>exact ..
(L M q has no J:write q)-/
namespace L2
open PySem PySem.Spec PyProof.Rows
noncomputable def Jo (s:Stmt):Arguments:=match s with
 | .FunctionDef _ a _ _ _ _ _ _ _ _=>a
 | _=>{ posonlyargs:=[],args:=[],vararg:=none,kwonlyargs:=[],kw_defaults:=[],kwarg:=none,defaults:=[]}
noncomputable def Ik (s:Stmt):List Stmt:=match s with
 | .FunctionDef _ _ b _ _ _ _ _ _ _=>b
 | _=>[]
noncomputable def Ax (s:Stmt):Scope:=match s with
 | .FunctionDef _ _ _ _ _ _ sc _ _ _=>sc
 | _=>{ kind:= .function,names:=[],isGenerator:=false,isCoroutine:=false}
noncomputable abbrev CX0:CXT:=fun _ _ _ _ _ _=>False
noncomputable abbrev E0:XK:=fun _ _ _=>False
variable {X:Cx}
theorem Am2:Passes CX0 X E0:=fun _ _ _ _ _ _ _ h=>h.elim
structure Fun (K:Frag) (x qual:Str) (st:Stmt) (f:Addr) (fd:FuncData):Prop where
 ex:∃(oc:Value) (od:Option Addr) (kV doc pm:Value) (an:Option Addr) (cdv ct:Value) (osl:Array (Option Value)),
  fd=PySem.W.fnOf x qual (Jo st) (Ik st) (Ax st) .none kV doc pm an cdv ct/\K.lookup f=some ⟨oc,od,.func fd,osl⟩/\PySem.W.codeIn K cdv qual=true
 kp:keepIn K (.ref f)=true
variable {x qual:Str}{f:Addr}{fd:FuncData}{N ps:List Str}{sp:Sp}{q:Value}
section
variable {P:Program}{w:World}{K:Frag}{mg:Str->Option Value}{base:Heap}
theorem Fun.ok {st:Stmt}{k:Nat} (F:Fun K x qual st f fd) (S:Bo N ps (Ax st)) (len:∀vs H Q E,sp vs H Q E->vs.length=ps.length)
 (J:∀(G:Value) (A:Around) (outer:List Env) (s:Shared) (H:Hp) (vs:List V) (Q:VK) (E:XK),Km k (A.deeper (envOfC qual (Ax st) s.heap.objs.size f G))->sp vs H Q E->
   ∃t,PSs (Aef CX0 P w K mg base N qual (Ax st) f G A outer s H E).nox (Ik st) t/\t { nx:=fun _ H'=>Q .non H',rt:=Q} (start N vs) H):Pz P w K mg base CX0 (k+1) f fd ps sp:=by
 obtain⟨oc,od,kV,O,pm,an,G,ct,U,rfl,W,L⟩:=F.ex
 refine Amo W L S len fun A outer s H vs Q E Z M=> ?_
 obtain⟨t,h,q⟩:=J G A outer s H vs Q E Z M
 exact⟨t,h.nox,q⟩
theorem Fun.binds {st:Stmt}{ps:List Str} (F:Fun K x qual st f fd)
 (h:∀(kV q J:Value) (L:Option Addr) (G ct:Value) (us:List Value),us.length=ps.length->bindArgs (PySem.W.fnOf x qual (Jo st) (Ik st) (Ax st) .none kV q J L G ct) ⟨us,[]⟩=pure (ps.zip us)):Binds K fd ps []:=by
 obtain⟨U,Z,kV,q,J,L,G,ct,M,rfl,lk,O⟩:=F.ex
 exact .all (h kV q J L G ct)
theorem Aeo {st:Stmt}{O:Value}{U L:Option Addr}{J:Array (Option Value)}{kV G M ct:Value} (l:K.lookup f=some ⟨O,U,.func (PySem.W.fnOf x qual (Jo st) (Ik st) (Ax st) .none kV G M L q ct),J⟩)
 (c:PySem.W.codeIn K q qual=true) (k:keepIn K (.ref f)=true):Fun K x qual st f (PySem.W.fnOf x qual (Jo st) (Ik st) (Ax st) .none kV G M L q ct):=⟨⟨O,U,kV,G,M,L,q,ct,J,rfl,l,c⟩,k⟩
end
section
variable {X:Cx}
theorem pv (i:Nat) {x:Str}{pos:Pos} (G:X.N[i]? =some x:=by rfl) (J:Vis X.env.scope x:=by first | exact Or.inl rfl | exact Or.inr (Or.inl rfl) | exact Or.inr (Or.inr rfl)) (L:(x==("__debug__":Str))=false:=by decide)
 (q:(x==("__classdict__":Str))=false:=by decide):PE X (.Name x pos) (Ahp i):=Aj3 G J L q
end
noncomputable def Same (H H':Hp):Prop:=∀b o,H b=some o->H' b=some o
theorem Same.refl (H:Hp):Same H H:=fun _ _ h=>h
variable {H H1:Hp}
theorem Same.trans {H2:Hp} (a:Same H H1) (b:Same H1 H2):Same H H2:=fun c o h=>b c o (a c o h)
variable {H':Hp}
variable {a:Addr}
theorem Same.seq {K:Frag}{xs:List V} (e:Same H H') (h:SqL K H a xs):SqL K H' a xs:=by
 rcases h with(h | ⟨o,h⟩) | h
 . exact .inl (.inl (e _ _ h))
 . exact .inl (.inr ⟨o,e _ _ h⟩)
 . exact .inr h
noncomputable def Cal (P:Program) (w:World) (K:Frag) (mg:Str->Option Value) (base:Heap) (k:Nat) (x:Str) (ps:List Str) (sp:Sp):Prop:=
 ∃f fd,Pz P w K mg base CX0 k f fd ps sp/\mg x=some (.ref f)/\keepIn K (.ref f)=true/\Binds K fd ps []
structure Df (K:Frag) (mg:Str->Option Value) (x:Str) (st:Stmt) (ps:List Str) (f:Addr) (fd:FuncData):Prop where
 fn:Fun K x x st f fd
 bd:Binds K fd ps []
 at':mg x=some (.ref f)
theorem Df.cal {P:Program}{w:World}{K:Frag}{mg:Str->Option Value}{base:Heap}{k:Nat}{x:Str}{st:Stmt}{ps:List Str}{f:Addr}{fd:FuncData}{sp:Sp}
 (F:Df K mg x st ps f fd) (G:Pz P w K mg base CX0 k f fd ps sp):Cal P w K mg base k x ps sp:=⟨f,fd,G,F.at',F.fn.kp,F.bd⟩
theorem Adp {X:Cx}{k:Nat}{x:Str}{ps:List Str}{sp:Sp}{p pos:Pos}{e:Expr}{es:List Expr}{t:TA}
 (C:Cal X.prog X.w X.K X.mg X.base k x ps sp) (L:Km k X.A) (M:PA X (e::es) t) (O:Gl X x:=by rfl) (q:(x==("__debug__":Str))=false:=by decide)
 (U:starEach (e::es) X.env=(false,eval e X.env)::starEach es X.env:=by rfl) (J:(backTo pos (starEach es X.env)).any (·.1)=false:=by rfl):
 PE X (.Call (.Name x p) (e::es) [] pos) (S7 sp [] E0 t):=by
 obtain⟨f,fd,G,a,b,c⟩:=C
 exact Agq G L O a b c .nil Am2 M q U J
noncomputable def Sz (n:Nat) (a:Int):Prop:=a.natAbs<2^n
variable {m n:Nat}
theorem Sz.mono {a:Int} (h:Sz m a) (l:m<=n):Sz n a:=bH h (fL (by decide) l)
theorem Sz.mulOk {a b:Int} (h:Sz m a) (g:Sz n b) (l:m+n<=134217728):IntMulOk a b:=
 IntMulOk.of_le (lF.mpr h) (lF.mpr g) l
theorem Sz.log2 {n:Nat}{a:Int} (h:Sz n a) (q:a≠0) (l:n<=9000):a.natAbs.log2<9000:=
 bH ((Nat.log2_lt (by omega)).mpr h) l
section
variable {X:Cx}{a b:Expr}{ta tb:TE}{pos:Pos}
theorem Fx:OpR X (binaryOp .Mult) (rI IntMulOk fun i j=> .int (i*j)):=opI fun _ _ _ _ _ _ _ G q=>mul_int q G
noncomputable def Al7 (_ j:Int):Prop:=j≠0/\j.natAbs.log2<9000
theorem Adn:OpR X (binaryOp .FloorDiv) (rI Al7 fun i j=> .int (i.fdiv j)):=opI fun _ _ _ _ _ _ _ G q=>floordiv_int G.1 q (.inl (kD G.2))
end
mutual
inductive RdD (K:Frag) (H:Hp):V->PyData->Prop where
 | non:RdD K H .non .none
 | bl (b:Bool):RdD K H (.bl b) (.bool b)
 | int (i:Int):RdD K H (.int i) (.int i)
 | str (x:Str):RdD K H (.str x) (.str x)
 | tup {a:Addr}{xs:List V}{ds:List PyData}:SqT K H a xs->Vh K H xs ds->RdD K H (.ref a) (.tuple ds)
 | lst {a:Addr}{xs:List V}{ds:List PyData}:SqL K H a xs->Vh K H xs ds->RdD K H (.ref a) (.list ds)
inductive Vh (K:Frag) (H:Hp):List V->List PyData->Prop where
 | nil:Vh K H [] []
 | cons {x:V}{d:PyData}{xs:List V}{ds:List PyData}:RdD K H x d->Vh K H xs ds->Vh K H (x::xs) (d::ds)
end
section
variable {X:Cx}{pins:List (Addr × Obj)}{σ:St}{H:Hp}{s:Shared}
mutual
theorem RdD.reads (I:Inv X pins σ H s):∀ {x:V}{d:PyData}{u:Value},RdD X.K H x d->RelV x u->∃as,Reads s.heap u d as
 | _,_,_,.non,r=>by cases r;exact⟨_,.none⟩
 | _,_,_,.bl b,r=>by cases r;exact⟨_,.bool b⟩
 | _,_,_,.int i,r=>by obtain⟨t,rfl⟩:=r;exact⟨_,.int i t⟩
 | _,_,_,.str x,r=>by obtain⟨t,rfl⟩:=r;exact⟨_,.str x t⟩
 | _,_,_,.tup hq hr,r=>by
   cases r
   obtain⟨its,rv,pl,hz⟩:=I.tuple hq
   obtain⟨as,q⟩:=Vh.reads I hr rv
   obtain⟨o,ho,hc,n,hd⟩:=pl
   exact⟨_,.tuple ho hc hd (by simpa using q)⟩
 | _,_,_,.lst hq hr,r=>by
   cases r
   obtain⟨its,rv,pl,hz⟩:=I.list hq
   obtain⟨as,q⟩:=Vh.reads I hr rv
   obtain⟨o,ho,hc,n,hd⟩:=pl.isList
   exact⟨_,.list ho hc hd (by simpa using q)⟩
theorem Vh.reads (I:Inv X pins σ H s):∀ {xs:List V}{ds:List PyData}{us:List Value},Vh X.K H xs ds->Vals xs us->∃as,ReadsAll s.heap us ds as
 | _,_,_,.nil,r=>by cases r;exact⟨_,.nil⟩
 | _,_,_,.cons h t,r=>by
   cases r with
   | cons r1 r2=>
     obtain⟨as,q⟩:=RdD.reads I h r1
     obtain⟨bs,p⟩:=Vh.reads I t r2
     exact⟨_,.cons q p⟩
end
end
theorem Vh.ints {K:Frag}{H:Hp}:∀ns:List Int,Vh K H (ns.map V.int) (ns.map PyData.int)
 | []=> .nil
 | n::r=> .cons (.int n) (Vh.ints r)
theorem RdD.ints {K:Frag}{H:Hp}{a:Addr}{ns:List Int} (h:SqT K H a (ns.map V.int)):RdD K H (.ref a) (.tuple (ns.map PyData.int)):= .tup h (.ints ns)
theorem RdD.lints {K:Frag}{H:Hp}{a:Addr}{ns:List Int} (h:SqL K H a (ns.map V.int)):RdD K H (.ref a) (.list (ns.map PyData.int)):= .lst h (.ints ns)
theorem Qg:∀ns ms:List Int,PyData.eqvAll (ns.map PyData.int) (ms.map PyData.int)=decide (ns=ms)
 | [],[]=>by simp [PyData.eqvAll]
 | [],_::_=>by simp [PyData.eqvAll]
 | _::_,[]=>by simp [PyData.eqvAll]
 | a::r,b::t=>by
   simp only [aU,PyData.eqvAll,PyData.eqv,Qg r t]
   by_cases h:a=b<;>by_cases h':r=t<;>simp [h,h']
section
variable {X:Cx}
noncomputable def Al4 (K:Frag) (f:Bool->Bool):R2:=fun x y H Q=>∃d e,RdD K H x d/\RdD K H y e/\SeqAt.shaped d=true/\SeqAt.shaped e=true/\Q (.bl (f (PyData.eqv d e))) H
theorem Jk (G:X.A.units+64<cLine):OpR X (compareOp .Eq) (Al4 X.K fun b=>b):=by
 intro pins s σ H x y v u Q I J L h
 obtain⟨d,e,M,O,U,W,q⟩:=h
 obtain⟨as,Z⟩:=RdD.reads I M J
 obtain⟨bs,r2⟩:=RdD.reads I O L
 exact eq_dataH Z r2 U W G ⟨.bl _,H,I,rfl,q⟩
theorem Sg (G:X.A.units+64<cLine):OpR X (compareOp .NotEq) (Al4 X.K fun b=> !b):=by
 intro pins s σ H x y v u Q I J L h
 obtain⟨d,e,M,O,U,W,q⟩:=h
 obtain⟨as,Z⟩:=RdD.reads I M J
 obtain⟨bs,r2⟩:=RdD.reads I O L
 exact ne_dataH Z r2 U W G ⟨.bl _,H,I,rfl,q⟩
theorem Mp:Gv X (.builtin "isinstance") (fun xs H Q=>∃x t T b,xs=[x,.ty T]/\Tg X.K H x t/\kitOne X.K t (.type T)=some b/\Q (.bl b) H):=by
 intro pins s σ H xs O Q I r h
 obtain⟨x,t,T,b,rfl,G,J,q⟩:=h
 obtain⟨u,c,rfl,L,M⟩:=vals2 r
 cases M
 exact Z9 I L G J fun tk=>⟨.bl b,H,I.tok tk,rfl,q⟩
end
theorem Same.tup {K:Frag}{H H':Hp}{a:Addr}{xs:List V} (e:Same H H') (h:SqT K H a xs):SqT K H' a xs:=by
 rcases h with(h | ⟨o,h⟩) | h
 . exact .inl (.inl (e _ _ h))
 . exact .inl (.inr ⟨o,e _ _ h⟩)
 . exact .inr h
theorem Same.upd {H:Hp}{p:Addr} (h:H p=none) (o:HO):Same H (upd H p o):=fun b u q=>by
 rw [Bm (Bg q h)]
 exact q
section
variable {X:Cx}{K:Frag}{σ:St}{H:Hp}{Q:VK}{D:Ends}{B:Bool->Hp->Prop}
theorem Aor {t u:TS}:Al6 t u D σ H=t { D with nx:=u D} σ H:=rfl
theorem Alm:Ahl D σ H=D.nx σ H:=rfl
theorem Aog {c:TT}{t u:TS}:Anj c t u D σ H=c σ H (fun b H1=>if b=true then t D σ H1 else u D σ H1):=rfl
theorem Aoq {te:TE}:Ann te D σ H=te σ H D.rt:=rfl
theorem Ala {te:TE}:Ahj te D σ H=te σ H (fun _ H1=>D.nx σ H1):=rfl
theorem An5 {te:TE}{g:TG}:Ad5 te g D σ H=te σ H (fun x H1=>g x σ H1 D.nx):=rfl
theorem Acj {i:Nat}{v:V}{R:St->Hp->Prop}:Jq i v σ H R=R (σ.set i (some v)) H:=rfl
theorem Aoo {i j:Nat}{ta:TA}:Anm i j ta D σ H=ta σ H (fun q H1=>∃v w,q=[v,w]/\D.nx ((σ.set i (some v)).set j (some w)) H1):=rfl
theorem Als {v:V}{r:St}:Ahp 0 (some v::r) H Q=Q v H:=propext ⟨fun⟨_,e,h⟩=>by cases e;exact h,fun h=>⟨v,rfl,h⟩⟩
theorem Alu {i:Nat}{o:Option V}{r:St}:Ahp (i+1) (o::r) H Q=Ahp i r H Q:=rfl
theorem z_c {v:V}:tC v σ H Q=Q v H:=rfl
theorem Aqa {r:R2}{ta tb:TE}:tOp r ta tb σ H Q=ta σ H (fun x H1=>tb σ H1 fun y H2=>r x y H2 Q):=rfl
theorem Aqg {r:V->Hp->VK->Prop}{ta:TE}:tUn r ta σ H Q=ta σ H (fun x H1=>r x H1 Q):=rfl
theorem Aqc {C:Int->Int->Prop}{g:Int->Int->V}{i j:Int}:rI C g (.int i) (.int j) H Q=(C i j/\Q (g i j) H):=
 propext ⟨fun⟨_,_,e,f,h⟩=>by cases e;cases f;exact h,fun h=>⟨i,j,rfl,rfl,h⟩⟩
theorem Aop {g:Int->Int->V}{i j:Int}:rI0 g (.int i) (.int j) H Q=Q (g i j) H:=
 propext ⟨fun⟨_,_,e,f,h⟩=>by cases e;cases f;exact h,fun h=>⟨i,j,rfl,rfl,h⟩⟩
theorem Aqd {g:Int->V}{i:Int}:rU g (.int i) H Q=Q (g i) H:=propext ⟨fun⟨_,e,h⟩=>by cases e;exact h,fun h=>⟨i,rfl,h⟩⟩
theorem An9 {i j:Int}:rEq (.int i) (.int j) H Q=Q (.bl (decide (i=j))) H:=by
 unfold rEq
 simp only [Ah6,V.int.injEq,true_and]
theorem Aol {i j:Int}:rNe (.int i) (.int j) H Q=Q (.bl (!decide (i=j))) H:=by
 unfold rNe
 simp only [Ah6,V.int.injEq,true_and]
theorem An8 {i j:Bool}:rEq (.bl i) (.bl j) H Q=Q (.bl (decide (i=j))) H:=by
 unfold rEq
 simp only [Ah6,V.bl.injEq,true_and]
theorem Aok {i j:Bool}:rNe (.bl i) (.bl j) H Q=Q (.bl (!decide (i=j))) H:=by
 unfold rNe
 simp only [Ah6,V.bl.injEq,true_and]
theorem Alr {t:TE}:Aho t σ H B=t σ H (fun x H'=>∃k,x= .bl k/\B k H'):=rfl
theorem Aqf {t:TE}:tB t σ H B=t σ H (fun x H'=>∃k,x= .bl k/\B k H'):=rfl
theorem Aob {b:Bool}{p:Bool->Prop}:(∃k,V.bl b= .bl k/\p k)=p b:=propext ⟨fun⟨_,e,h⟩=>by cases e;exact h,fun h=>⟨b,rfl,h⟩⟩
theorem Aod {b:Int}{p:Int->Prop}:(∃k,V.int b= .int k/\p k)=p b:=propext ⟨fun⟨_,e,h⟩=>by cases e;exact h,fun h=>⟨b,rfl,h⟩⟩
theorem Aoa {a b:V}{p:V->V->Prop}:(∃v w,[a,b]=[v,w]/\p v w)=p a b:=propext ⟨fun⟨_,_,e,h⟩=>by cases e;exact h,fun h=>⟨a,b,rfl,h⟩⟩
theorem Alb {b:Int}{p:Int->Prop}:(∃k,[V.int b]=[.int k]/\p k)=p b:=propext ⟨fun⟨_,e,h⟩=>by cases e;exact h,fun h=>⟨b,rfl,h⟩⟩
theorem Alc {a b:Int}{p:Int->Int->Prop}:(∃i j,[V.int a,V.int b]=[.int i,.int j]/\p i j)=p a b:=propext ⟨fun⟨_,_,e,h⟩=>by cases e;exact h,fun h=>⟨a,b,rfl,h⟩⟩
theorem Aon {t:TT}:Anl t σ H B=t σ H (fun c H1=>B (!c) H1):=rfl
theorem An4 {t u:TT}:Ang t u σ H B=t σ H (fun c H1=>if c=true then u σ H1 B else B false H1):=rfl
theorem Aqb {t u:TT}:tOr t u σ H B=t σ H (fun c H1=>if c=true then B true H1 else u σ H1 B):=rfl
theorem Ak2 {ta tb:TE}:Ahg ta tb σ H Q=ta σ H (fun x H1=>∃c,x= .bl c/\if c=true then tb σ H1 Q else Q (.bl false) H1):=rfl
theorem Aln {ta:TE}:Ahm ta σ H Q=ta σ H (fun x H1=>∃c,x= .bl c/\Q (.bl (!c)) H1):=rfl
theorem Ap9 {t:TT}{ta tb:TE}:tIf t ta tb σ H Q=t σ H (fun c H1=>if c=true then ta σ H1 Q else tb σ H1 Q):=rfl
theorem Ak3 {sp:Sp}{dvs:List V}{E:XK}{t:TA}:S7 sp dvs E t σ H Q=t σ H (fun q H1=>sp (q++dvs) H1 Q E):=rfl
theorem Aom {R:List V->Hp->Prop}:Al5 σ H R=R [] H:=rfl
theorem Ak5 {te:TE}{t:TA}{R:List V->Hp->Prop}:Yk te t σ H R=te σ H (fun x H1=>t σ H1 fun xs H2=>R (x::xs) H2):=rfl
theorem Ap8 {r:List V->Hp->VK->Prop}{t:TA}:tCB r t σ H Q=t σ H (fun q H1=>r q H1 Q):=rfl
theorem Aos {t:TA}:Ano t σ H Q=t σ H (fun xs H1=>xs.length<=sizeLine/\∀p,H1 p=none->Q (.ref p) (upd H1 p (.tup xs))):=rfl
theorem Aoj {t:TA}:Ank t σ H Q=t σ H (fun xs H1=>xs.length<=sizeLine/\∀p,H1 p=none->Q (.ref p) (upd H1 p (.lst xs))):=rfl
theorem El {a:Addr}{xs:List V}{i:Int}{v:V} (h:SqT K H a xs) (e:atI xs i=some v) (q:Q v H):Ane K (.ref a) (.int i) H Q:=⟨a,xs,i,v,rfl,rfl,h,e,q⟩
theorem Li {a:Addr}{xs:List V}{i:Int}{v:V} (h:SqL K H a xs) (e:atI xs i=some v) (q:Q v H):Ao7 K (.ref a) (.int i) H Q:=⟨a,xs,i,v,rfl,rfl,h,e,q⟩
end
noncomputable def Al8 (_ j:Int):Prop:=0<j/\j.natAbs.log2<9000
theorem Mq {X:Cx}:OpR X (binaryOp .FloorDiv) (rI Al8 fun i j=> .int (i/j)):=opI fun i j _ _ _ _ _ G q=>by
 have h:j≠0:=by have:=G.1;omega
 refine floordiv_int h ?_ (.inl (kD G.2))
 rw [Int.fdiv_eq_ediv_of_nonneg _ (Int.le_of_lt G.1)]
 exact q
theorem Akp:(1:Nat)<=sizeLine:=by decide
theorem Akq:(2:Nat)<=sizeLine:=by decide
noncomputable def clF (env:Env) (cs:List (Str × Addr)) (x:Str × NameKind):List (Str × Addr):=if x.2== .free then(x.1,(env.cells.lookup x.1).getD 0)::cs else cs
theorem W9 {scope:Scope}{env:Env} (h:∀x∈scope.names,x.2= .free->∃c,env.cells.lookup x.1=some c):closureFor scope env=pure (scope.names.foldl (clF env) []):=by
 unfold closureFor
 have J:∀(names:List (Str × NameKind)) (q:List (Str × Addr)),(∀x∈names,x.2= .free->∃c,env.cells.lookup x.1=some c)->
  (forIn names q (fun(x:Str × NameKind) (U:List (Str × Addr))=>(if x.2== .free then(do let c<-cellOf env x.1;pure (ForInStep.yield ((x.1,c)::U)))else pure (ForInStep.yield U):Sem (ForInStep (List (Str × Addr))))))=(pure (names.foldl (clF env) q):Sem (List (Str × Addr))):=by
  intro names
  induction names with
  | nil=>intro q _;rfl
  | cons x r W=>
    intro q L
    rw [hG,lA]
    by_cases G:x.2= .free
    . obtain⟨c,Z⟩:=L x eE G
      have e1:cellOf env x.1=pure c:=by unfold cellOf;rw [Z]
      have M:clF env q x=(x.1,c)::q:=by unfold clF;rw [G,Z];rfl
      rw [M,<-W _ fun y O=>L y (cO _ O)]
      rw [G,e1]
      rfl
    . have e0:(x.2==NameKind.free)=false:=by simpa using G
      have M:clF env q x=q:=by unfold clF;rw [e0];rfl
      rw [M,<-W _ fun y O=>L y (cO _ O),e0]
      rfl
 exact(bK (fun m=>m>>=fun r=>pure r) (J scope.names [] h)).trans (by rfl)
theorem Qc {env:Env}:∀(names:List (Str × NameKind)) (q:List (Str × Addr)) (y:Str) (c:Addr),(∀x∈names,x.2= .free->∃c,env.cells.lookup x.1=some c)->(names.foldl (clF env) q).lookup y=some c->q.lookup y=some c\/env.cells.lookup y=some c
 | [],_,_,_,_,h=> .inl h
 | x::r,q,y,c,hx,h=>by
   rw [lA]at h
   rcases Qc r _ y c (fun z L=>hx z (cO _ L)) h with h1 | h1
   . unfold clF at h1
     by_cases G:x.2= .free
     . obtain⟨d,J⟩:=hx x eE G
       rw [G,J]at h1
       change lookup y ((x.1,d)::q)=some c at h1
       rw [dG]at h1
       cases hy:y==x.1 with
       | true=>
         rw [hy]at h1
         have:y=x.1:=by simpa using hy
         subst this
         exact .inr (J.trans h1)
       | false=>
         rw [hy]at h1
         exact .inl h1
     . have M:(x.2==NameKind.free)=false:=by simpa using G
       rw [M]at h1
       exact .inl h1
   . exact .inr h1
theorem Qa {env:Env}:∀(names:List (Str × NameKind)) (q:List (Str × Addr)) (y:Str),((∃x∈names,x.2= .free/\x.1=y)\/∃c,q.lookup y=some c)->∃c,(names.foldl (clF env) q).lookup y=some c
 | [],_,_,h=>by
   rcases h with⟨_,h,_⟩ | h
   . cases h
   . exact h
 | x::r,q,y,h=>by
   rw [lA]
   apply Qa r
   rcases h with⟨z,J,G,rfl⟩ | ⟨c,L⟩
   . rcases aQ.mp J with rfl | J
     . refine .inr ⟨(env.cells.lookup z.1).getD 0,?_⟩
       unfold clF
       rw [G]
       show lookup z.1 ((z.1,_)::q)=_
       rw [dG]
       simp
     . exact .inl ⟨z,J,G,rfl⟩
   . refine .inr ?_
     unfold clF
     by_cases G:x.2= .free
     . rw [G]
       show ∃c,lookup y ((x.1,_)::q)=some c
       rw [dG]
       cases y==x.1 with
       | true=>exact⟨_,rfl⟩
       | false=>exact⟨c,L⟩
     . have M:(x.2==NameKind.free)=false:=by simpa using G
       rw [M]
       exact⟨c,L⟩
theorem Rv {prog:Program}{w:World}{A:Around}{R:Result->Shared->Prop}{s:Shared}{elt target iter:Expr}{ifs:List Expr}{scope:Scope}{pos:Pos}{it Z:Value}{env:Env} (I:Nat->Shared->Prop)
 (a0:∀n s,I n s->wpAny (model prog w) A (pyNext it) (fun r q=>match r with
   | none=>R (.ok .next) q
   | some v=>wpAny (model prog w) A (letOwnedTupleGo target it v) (fun _ J=>wpAny (model prog w) A (assign target env v) (fun _ L=>
      wpAny (model prog w) A (forIn ifs true fun c r=>if r=true then do let ok<-isTrue c env (eval c env);pure (ForInStep.yield ok)else pure (ForInStep.yield r)) (fun ok G=>
       if ok=true then wpAny (model prog w) A (eval elt env) (fun x M=>
        wpAny (model prog w) A (call (.builtin "list.append") [Z,x]) (fun _ O=>∃m,m<n/\I m O) (fun _ _=>False) M) (fun _ _=>False) G
       else ∃m,m<n/\I m G) (fun _ _=>False) L) (fun _ _=>False) J) (fun _ _=>False) q) (fun _ _=>False) s)
 (n:Nat) (h:I n s):
 codeAny (model prog w) A (.compLoop (.ListComp elt [⟨target,iter,ifs,0⟩] scope pos) 0 it Z env) R s:=by
 have no:∀(x:Value) (s':Shared),False->notedBy (model prog w) A env (fun e s'=>R (.error e) s') x s':=fun _ _ z=>z.elim
 refine codeAny_loop rfl I (fun n s hI=> ?_) n h
 show wpAny _ A ((compTurn (.ListComp elt [⟨target,iter,ifs,0⟩] scope pos) 0 it Z env).onRaise (fun x=>do noteFrame x env;theTreesLotGoes x)) _ _ s
 refine wpAny_noted ?_
 rw [compTurn_list]
 refine aA (wpAny_standAt (aA (cT (a0 n s hI) (fun r q U=> ?_) no)))
 cases r with
 | none=>exact aE U
 | some v=>
   refine aA (cT U (fun _ J a1=> ?_) no)
   refine aA (cT a1 (fun _ L a2=>aA (cT a2 (fun ok G W=> ?_) no)) no)
   cases ok with
   | false=>exact aE ⟨rfl,W⟩
   | true=>
     exact aA (aA (cT W (fun x M a3=>aA (cT a3 (fun _ O a4=>aE (aE ⟨rfl,a4⟩)) no)) no))
structure Kl (X:Cx) (ts:List Str) (fs:List (Nat × Str)) (scope:Scope):Prop where
 kind:scope.kind= .function
 cell:∀y∈scope.names,y.2≠ .cell
 names:∀y∈scope.names,y.2= .local ->scope.names.lookup y.1=some .local
 free:∀y∈scope.names,y.2= .free->X.env.kindOf y.1=some .cell\/X.env.kindOf y.1=some .free
 at':∀p∈fs,X.N[p.1]? =some p.2/\(p.2,NameKind.free)∈scope.names/\((relabel scope X.env).names.lookup p.2=some .cell\/(relabel scope X.env).names.lookup p.2=some .free)
noncomputable def rlb (sc scope:Scope):List (Str × NameKind):=scope.names.map fun(n,k)=>if(k==NameKind.free&&sc.kind== .function&&sc.names.lookup n==some .cell)then(n,NameKind.cell)else(n,k)
noncomputable def Ao2 (sc:Scope) (N:List Str) (fs:List (Nat × Str)) (scope:Scope):Bool:=
 (scope.kind== .function)&&(scope.names.all fun y=>y.2 != .cell)&&(scope.names.all fun y=>y.2 != .local ||scope.names.lookup y.1==some .local)&&
 (scope.names.all fun y=>y.2 != .free||(sc.names.lookup y.1==some .cell||sc.names.lookup y.1==some .free))&&
 fs.all fun p=>N[p.1]? ==some p.2&&(scope.names.contains (p.2,NameKind.free)&&((rlb sc scope).lookup p.2==some .cell||(rlb sc scope).lookup p.2==some .free))
noncomputable def cpN (ts:List Str) (fs:List (Nat × Str)):List Str:=ts++fs.map (·.2)
noncomputable def cpσ (n:Nat) (fs:List (Nat × Str)) (σ:St):St:=List.replicate n none++fs.map fun p=>(σ[p.1]?).join
theorem Ip {env:Env}{x:Str}{G:NameKind}:∀ {names:List (Str × NameKind)},(names.map fun(n,k)=>if(k==NameKind.free&&env.scope.kind== .function&&env.kindOf n==some .cell)then(n,NameKind.cell)else(n,k)).lookup x=some G->
 ∃k,(x,k)∈names/\(G=k\/(k= .free/\G= .cell))
 | [],h=>by simp at h
 | (n,k)::r,h=>by
   rw [aU]at h
   dsimp only at h
   by_cases q:(k==NameKind.free&&env.scope.kind== .function&&env.kindOf n==some .cell)=true
   . rw [aI q,dG]at h
     cases hx:x==n with
     | true=>
       rw [hx]at h
       have e:x=n:=by simpa using hx
       subst e
       have L:k= .free:=by
        rw [cM,cM]at q
        simpa using q.1.1
       exact⟨k,eE,.inr ⟨L,(bE h).symm⟩⟩
     | false=>
       rw [hx]at h
       obtain⟨J,h1,h2⟩:=Ip h
       exact⟨J,cO _ h1,h2⟩
   . rw [aF q,dG]at h
     cases hx:x==n with
     | true=>
       rw [hx]at h
       have e:x=n:=by simpa using hx
       subst e
       exact⟨k,eE,.inl (bE h).symm⟩
     | false=>
       rw [hx]at h
       obtain⟨J,h1,h2⟩:=Ip h
       exact⟨J,cO _ h1,h2⟩
noncomputable def PTs (X:Cx) (ifs:List Expr) (t:TT):Prop:=
 ∀(pins:List (Addr × Obj)) (s:Shared) (σ:St) (H:Hp) (B:Bool->Hp->Prop),Inv X pins σ H s->t σ H B->
   wpAny (model X.prog X.w) X.A (forIn ifs true fun c r=>if r=true then do let ok<-isTrue c X.env (eval c X.env);pure (ForInStep.yield ok)else pure (ForInStep.yield r)) (TP X pins σ B) X.xe s
noncomputable def Mj:TT:=fun _ H B=>B true H
theorem Ag6 {X:Cx}:PTs X [] Mj:=fun _ _ _ H _ I h=>aE ⟨H,I,h⟩
theorem Ag7 {X:Cx}{c:Expr}{t:TT} (h:PT X c t):PTs X [c] t:=by
 intro pins s σ H B I G
 rw [hG]
 simp only [gG]
 refine aA (aA (thn (h pins s σ H B I G) fun b J q=>aE ?_))
 exact aE q
noncomputable def Kp (σ σ':St):Prop:=σ'.length=σ.length/\∀(i:Nat) v,σ[i]? =some (some v)->σ'[i]? =some (some v)
noncomputable def cIn (J:It) (cσ:St) (g:TG) (tt:TT) (te:TE) (Q:VK) (H1:Hp) (p:Addr):Prop:=∃W:Nat->Nat->List V->Hp->Prop,(∃m,W 0 m [] (upd H1 p (.lst [])))/\∀i m acc H2,W i m acc H2->
 (J.stop i H2/\Q (.ref p) H2)\/(J.go i H2/\∀x H3,J.yld i H2 x H3->g x cσ H3 fun σ4 H4=>Kp cσ σ4/\tt σ4 H4 fun b H5=>
   if b=true then te σ4 H5 fun y H6=>H6 p=some (.lst acc)/\acc.length<sizeLine/\∃m',m'<m/\W (i+1) m' (acc++ [y]) (upd H6 p (.lst (acc++ [y])))else ∃m',m'<m/\W (i+1) m' acc H5)
noncomputable def Yi (n:Nat) (fs:List (Nat × Str)) (wi:TI) (g:TG) (tt:TT) (te:TE):TE:=fun σ H Q=>wi σ H fun J H1=>∀p,H1 p=none->cIn J (cpσ n fs σ) g tt te Q H1 p
section
variable {X:Cx}{elt tg iter:Expr}{ifs:List Expr}{scope:Scope}{pos:Pos}{wi:TI}{g:TG}{tt:TT}{te:TE}{ts:List Str}{fs:List (Nat × Str)}
theorem Inv.fade {pins:List (Addr × Obj)}{σ q:St}{H:Hp}{s:Shared} (I:Inv X pins q H s) (k:Kp σ q):Inv X pins σ H s:=by
 refine⟨I.ok,I.os,I.bare,I.base,?_,I.cell,I.free,I.freeC,I.pin,I.hok,k.1.symm.trans I.len⟩
 obtain⟨m,G,J⟩:=I.loc
 exact⟨m,G,fun i x v h1 h2 L=>J i x v h1 (k.2 i v h2) L⟩
end
section
variable {K:Frag}{H1:Hp}{p:Addr}{cσ:St}{g:TG}{te:TE}{Q:VK}{α:Type}{es:List α}{inj:α->V}
noncomputable def Wk (J:It) (H1:Hp) (es:List α) (inj:α->V):Prop:=∀i H',Same H1 H'->(es[i]? =none->J.stop i H')/\∀e,es[i]? =some e->J.go i H'/\∀x H3,J.yld i H' x H3->H3=H'/\x=inj e
theorem Vg {a:Addr} (h:SqL K H1 a (es.map inj)):Wk (Itl K a) H1 es inj:=fun i H' s=>by
 have h':=s.seq h
 refine⟨fun e=>⟨_,h',?_⟩,fun e q=>⟨⟨_,inj e,h',by rw [aZ,q];rfl⟩,fun x L ⟨G,J⟩=>⟨G,?_⟩⟩⟩
 . rw [aB]
   exact cC.mp e
 . have z:=J _ h'
   rw [aZ,q]at z
   exact(bE z).symm
theorem Hq {a:Addr} (h:SqT K H1 a (es.map inj)):Wk (Itt K a) H1 es inj:=fun i H' s=>by
 have h':=s.tup h
 refine⟨fun e=>⟨_,h',?_⟩,fun e q=>⟨⟨_,inj e,h',by rw [aZ,q];rfl⟩,fun x L ⟨G,J⟩=>⟨G,?_⟩⟩⟩
 . rw [aB]
   exact cC.mp e
 . have z:=J _ h'
   rw [aZ,q]at z
   exact(bE z).symm
theorem Rm {lo:Int}{n:Nat}:Wk (Itr lo n) H1 (List.range n) (fun i=> .int (lo+(i:Nat))):=fun i H' s=>by
 refine⟨fun e=> ?_,fun e q=> ?_⟩
 . have:=cC.mp e
   show n<=i
   simpa using this
 . obtain⟨h,z⟩:=bL.mp q
   have hi:i<n:=by simpa using h
   have G:i=e:=by simpa using z
   subst G
   exact⟨hi,fun x M ⟨J,L⟩=>⟨J,L⟩⟩
theorem Gg {J:It} (f:α->V) (hz:es.length<=sizeLine) (hp:H1 p=none) (hJ:Wk J H1 es inj)
 (step:∀e H' R,e∈es->Same H1 H'->(∀M,Same H' M->R (f e) M)->g (inj e) cσ H' fun G L=>Kp cσ G/\te G L R)
 (U:∀H',Same H1 H'->H' p=some (.lst (es.map f))->Q (.ref p) H'):cIn J cσ g Mj te Q H1 p:=by
 have su:∀ {H':Hp}{o:HO},Same H1 H'->Same H1 (upd H' p o):=fun {H' o} s b u e=>by
  rw [Bm (Bg e hp)]
  exact s b u e
 refine⟨fun i m O H'=>m=es.length-i/\i<=es.length/\O=(es.take i).map f/\H' p=some (.lst O)/\Same H1 H',⟨es.length,by simp,bO _,by simp,Ag,su (Same.refl _)⟩,?_⟩
 rintro i m O H' ⟨rfl,hi,rfl,W,s⟩
 cases he:es[i]? with
 | none=>
   have hl:=cC.mp he
   have e:i=es.length:=fI hi hl
   subst e
   rw [fT]at W
   exact .inl ⟨(hJ _ _ s).1 he,U _ s W⟩
 | some e=>
   obtain⟨go,yl⟩:=(hJ _ _ s).2 e he
   refine .inr ⟨go,fun x H3 y=> ?_⟩
   obtain⟨rfl,rfl⟩:=yl x H3 y
   obtain⟨Z,e'⟩:=bL.mp he
   have tk:es.take (i+1)=es.take i++ [e]:=by rw [iH,he];rfl
   have q:=step e H3 (fun y M=>M p=some (.lst ((es.take i).map f))/\((es.take i).map f).length<sizeLine/\∃m',m'<es.length-i/\m'=es.length-(i+1)/\i+1<=es.length/\(es.take i).map f++ [y]=(es.take (i+1)).map f/\
    upd M p (.lst ((es.take i).map f++ [y])) p=some (.lst ((es.take i).map f++ [y]))/\Same H1 (upd M p (.lst ((es.take i).map f++ [y])))) (dR he) s
    (fun M s6=>⟨s6 _ _ W,by rw [aB,bT];omega,_,by omega,rfl,Z,by rw [tk,aJ];rfl,Ag,su (s.trans s6)⟩)
   have eq:∀(R:VK) (B:Hp->Prop),(fun G L=>Kp cσ G/\Mj G L fun b H5=>if b=true then te G H5 R else B H5)=(fun G L=>Kp cσ G/\te G L R):=fun R B=>by
    funext G L
    show(Kp cσ G/\if true=true then te G L R else B L)=_
    rw [aI rfl]
   rw [eq]
   exact q
end
section
variable {X:Cx}{K:Frag}{σ:St}{H:Hp}{Q:VK}{R:It->Hp->Prop}
theorem Ak4 {n:Nat}{fs:List (Nat × Str)}{wi:TI}{g:TG}{tt:TT}{te:TE}:Yi n fs wi g tt te σ H Q=wi σ H (fun J H1=>∀p,H1 p=none->cIn J (cpσ n fs σ) g tt te Q H1 p):=rfl
theorem Alq {ta:TA}:Af1 ta σ H R=ta σ H (fun q H1=>∃j:Int,q=[.int j]/\ -(2^62)<=j/\j<2^62/\R (Itr 0 j.toNat) H1):=rfl
theorem Ahz {tl:TE}:Af0 K tl σ H R=tl σ H (fun x H1=>∃a,x= .ref a/\(∃xs,SqL K H1 a xs)/\R (Itl K a) H1):=rfl
theorem Alj {tl:TE}:Amw K tl σ H R=tl σ H (fun x H1=>∃a,x= .ref a/\(∃xs,SqT K H1 a xs)/\R (Itt K a) H1):=rfl
theorem Aoe {a:Addr}{p:Addr->Prop}:(∃b,V.ref a= .ref b/\p b)=p a:=propext ⟨fun⟨_,e,h⟩=>by cases e;exact h,fun h=>⟨a,rfl,h⟩⟩
theorem Aoh {v:Option V}{r:St}:Kp (none::r) (v::r)=True:=by
 refine eq_true ⟨rfl,fun i u e=> ?_⟩
 cases i with
 | zero=>cases e
 | succ i=>exact e
theorem Aoi {v q:Option V}{r:St}:Kp (none::none::r) (v::q::r)=True:=by
 refine eq_true ⟨rfl,fun i u e=> ?_⟩
 cases i with
 | zero=>cases e
 | succ i=>
   cases i with
   | zero=>cases e
   | succ i=>exact e
theorem Ali {k:Bool}{p:Int->Prop}{q:Bool->Prop}:((∃i,[V.bl k]=[V.int i]/\p i)\/∃G,[V.bl k]=[V.bl G]/\q G)=q k:=
 propext ⟨fun h=>h.elim (fun⟨_,e,_⟩=>by cases e) fun⟨_,e,h⟩=>by cases e;exact h,fun h=> .inr ⟨k,rfl,h⟩⟩
end
noncomputable def FI (J:It) (g:TG) (tb:TS) (D:Ends) (σ:St) (H:Hp):Prop:=∃W:Nat->Nat->St->Hp->Prop,(∃m,W 0 m σ H)/\∀i m σ H,W i m σ H->
 (J.stop i H/\D.nx σ H)\/(J.go i H/\∃N:St->Hp->Prop,(∀σ' H',N σ' H'->∃m',m'<m/\W (i+1) m' σ' H')/\∀x H',J.yld i H x H'->g x σ H' fun σ2 H2=>tb { D with nx:=N,ct:=N,bk:=D.nx} σ2 H2)
theorem Aof {wi:TI}{g:TG}{tb:TS}{D:Ends}{σ:St}{H:Hp}:Ani wi g tb D σ H=wi σ H (fun J H1=>FI J g tb D σ H1):=rfl
section
variable {K:Frag}{σ:St}{H:Hp}{g:TG}{tb:TS}{D:Ends}{α:Type}{es:List α}{inj:α->V}
noncomputable def Aec (J:It) (H:Hp) (es:List α) (inj:α->V):Prop:=∀i,(es[i]? =none->J.stop i H)/\∀e,es[i]? =some e->J.go i H/\∀x H3,J.yld i H x H3->H3=H/\x=inj e
theorem Ho {a:Addr} (h:SqL K H a (es.map inj)):Aec (Itl K a) H es inj:=fun i=>Vg h i H (Same.refl _)
theorem Mw {a:Addr} (h:SqT K H a (es.map inj)):Aec (Itt K a) H es inj:=fun i=>Hq h i H (Same.refl _)
theorem Gu {lo:Int}{n:Nat}:Aec (Itr lo n) H (List.range n) (fun i=> .int (lo+(i:Nat))):=fun i=>Rm i H (Same.refl _)
theorem Oq {J:It} (L:List α->St->Hp->Prop) (W:L [] σ H) (Z:∀G σ H,L G σ H->Aec J H es inj)
 (hs:∀G e M σ H,es=G++e::M->L G σ H->g (inj e) σ H fun U H2=>tb { D with nx:=L (G++ [e]),ct:=L (G++ [e]),bk:=D.nx} U H2) (hd:∀σ H,L es σ H->D.nx σ H):FI J g tb D σ H:=by
 refine⟨fun i m σ H=>m=es.length-i/\i<=es.length/\L (es.take i) σ H,⟨es.length,by simp,bO _,W⟩,?_⟩
 rintro i m σ H ⟨rfl,hi,p⟩
 have w:=Z _ _ _ p i
 cases he:es[i]? with
 | none=>
   have e:i=es.length:=fI hi (cC.mp he)
   subst e
   rw [fT]at p
   exact .inl ⟨w.1 he,hd _ _ p⟩
 | some e=>
   obtain⟨O,ee⟩:=bL.mp he
   have tk:es.take (i+1)=es.take i++ [e]:=by rw [iH,he];rfl
   have sp:es=es.take i++e::es.drop (i+1):=by
    rw [<-ee,<-gU O,dH]
   refine .inr ⟨(w.2 e he).1,L (es.take i++ [e]),fun a0 H' q=>⟨es.length-(i+1),by omega,rfl,O,by rw [tk];exact q⟩,fun x H' y=> ?_⟩
   obtain⟨rfl,rfl⟩:=(w.2 e he).2 x H' y
   exact hs _ e _ σ H' sp p
end
section
variable {K:Frag}{σ:St}{H:Hp}{Q:VK}
theorem Aqe {r:V->Option Int->Option Int->Hp->VK->Prop}{te:TE}{tl th:TO}:tSl r te tl th σ H Q=te σ H (fun x H1=>tl σ H1 fun l H2=>th σ H2 fun u q=>r x l u q Q):=rfl
theorem Ad9 {R:Option Int->Hp->Prop}:Vc σ H R=R none H:=rfl
theorem Alp {t:TE}{R:Option Int->Hp->Prop}:Ahn t σ H R=t σ H (fun x H1=>∃i,x= .int i/\R (some i) H1):=rfl
theorem An6 {T:String}{r:V->List V->Hp->VK->Prop}{to:TE}:Anh K T r to σ H Q=to σ H (fun x H1=>tyV K T x H1/\r x [] H1 Q):=rfl
theorem Ap7 {T:String}{r:V->List V->Hp->VK->Prop}{to:TE}{t:TA}:tBM K T r to t σ H Q=to σ H (fun x H1=>tyV K T x H1/\t σ H1 fun xs H2=>r x xs H2 Q):=rfl
end
section
variable {CX:CXT}{P:Program}{w:World}{K:Frag}{mg:Str->Option Value}{base:Heap}{N:List Str}{qual:Str}{scope:Scope}{f:Addr}{cd:Value}{A:Around}{outer:List Env}{s:Shared}{H H1 H2:Hp}{E:XK}{Q:VK}{a b:Addr}{ns ms:List Int}{g:Bool->Bool}
theorem An7:(Aef CX P w K mg base N qual scope f cd A outer s H E).K=K:=rfl
theorem Alo:(Aef CX P w K mg base N qual scope f cd A outer s H E).nox.K=K:=rfl
theorem Ls (ns:List Int):SeqAt.shaped (.list (ns.map PyData.int))=true:=by
 simp [SeqAt.shaped,PyData.canLay0,PyData.depth,ke_canLayAll0,ke_depthAll]
theorem Qf (q:SqL K H a (ns.map V.int)) (G:SqL K H b (ms.map V.int)) (h:Q (.bl (g (decide (ns=ms)))) H):Al4 K g (.ref a) (.ref b) H Q:=
 ⟨_,_,.lints q,.lints G,Ls _,Ls _,by rw [PyData.eqv,Qg];exact h⟩
end
section
variable {c:TT}{tb:TS}{D:Ends}{σ:St}{H:Hp}
noncomputable def WB (Pv:St->Hp->Prop) (μ:St->Hp->Nat) (tb:TS) (D:Ends) (n:Nat) (σ:St) (H:Hp):Prop:=
 ∃N:St->Hp->Prop,(∀σ' H',N σ' H'->∃m',m'<n/\(m'=μ σ' H'/\Pv σ' H'))/\tb { D with nx:=N,ct:=N,bk:=D.nx} σ H
theorem Anw {G:St->Hp->Prop}{J:St->Hp->Nat}{n:Nat} (h:tb { D with nx:=fun q H'=>G q H'/\J q H'<n,ct:=fun q H'=>G q H'/\J q H'<n,bk:=D.nx} σ H):WB G J tb D n σ H:=
 ⟨_,fun _ _ ⟨p,l⟩=>⟨_,l,rfl,p⟩,h⟩
theorem Ad7 (q:St->Hp->Prop) (G:St->Hp->Nat) (J:q σ H) (L:∀σ H,q σ H->c σ H fun b H1=>if b=true then WB q G tb D (G σ H) σ H1 else D.nx σ H1):Wq c tb D σ H:=by
 refine⟨fun m σ H=>m=G σ H/\q σ H,⟨_,rfl,J⟩,?_⟩
 rintro m σ H ⟨rfl,p⟩
 exact L σ H p
end
theorem Ald {a:Addr}{p:Addr->Prop}:(∃b,[V.ref a]=[.ref b]/\p b)=p a:=propext ⟨fun⟨_,e,h⟩=>by cases e;exact h,fun h=>⟨a,rfl,h⟩⟩
section
variable {K:Frag}{σ:St}{H:Hp}{Q:St->Hp->Prop}{R:VK}{p a b:Addr}{v w:V}{i j:Nat}{xs:List V}{ns ms:List Int}{f:Bool->Bool}
theorem Dh (h:SqT K H p [v,w]) (q:Q ((σ.set i (some v)).set j (some w)) H):Ah5 K 2 (Ud (Jq i) (Ud (Jq j) Al2)) (.ref p) σ H Q:=⟨p,_,rfl,h,rfl,v,_,rfl,w,_,rfl,rfl,q⟩
theorem Ale {to q:TE}{t:Aia}:Amq to q t v σ H Q=to σ H (fun o H1=>q σ H1 fun i H2=>t o i v H2 fun G=>Q σ G):=rfl
theorem Amr {G:Hp->Prop} (hp:H p=some (.lst xs)) (J:j<xs.length) (q:G (upd H p (.lst (xs.set j v)))):Aki (.ref p) (.int (j:Nat)) v H G:=by
 refine⟨p,xs,j,j,rfl,rfl,hp,?_,q⟩
 unfold ixN
 rw [aI (by omega),aI (by omega),eU]
end
section
variable {prog:Program}{w:World}{A:Around}{E:Value->Shared->Prop}{s:Shared}{j u:Addr}{i:Nat}{xs:Array Value}
theorem nextT {y:Value}{Q:Value->Shared->Prop} (G:s.heap.IsTupleIter j u i) (J:s.heap.IsTuple u xs) (L:xs[i]? =some y)
 (k:∀g,g.IsTupleIter j u (i+1)->Heap.SameBut j s.heap g->Q y { s with heap:=g}):wpAny (model prog w) A (Builtin.SmallTypes.nextOf (.ref j)) Q E s:=by
 obtain⟨W,ej,M,q⟩:=id G
 obtain⟨Z,O,_,nu,U⟩:=J
 unfold Builtin.SmallTypes.nextOf
 refine aA (cU (name:=Str.ofString "__next__") G.typeIs gY (cN gY G.typeIs F.entry_tuple_iterator_next ?_ (F.args_tuple_iterator_next_1 _)))
 show wpAny _ _ (field (.ref j) 0>>=_) _ _ s
 refine aA (dE ej q (x:= .ref u) rfl ?_)
 show wpAny _ _ (if(Value.ref u==Value.none)=true then _ else _) _ _ s
 rw [aF (show ¬((Value.ref u==Value.none)=true)from aY)]
 show wpAny _ _ (field (.ref j) 1>>=_) _ _ s
 refine aA (dE ej q (x:= .int i 0) rfl ?_)
 show wpAny _ _ (seqItems? (.ref u)>>=_) _ _ s
 refine aA (dZ O U ?_)
 simp only [L,eU]
 refine aA (kG ej q (by simp) (aE ⟨y,rfl,aE (k _ ?_ (iD ..))⟩))
 exact⟨_,fN _ ej (Obj.isFreed_of_fields (kM q _)),(Obj.cls_mapFields ..).trans M,by rw [kM q];simp [rawInt]⟩
theorem Aat {Q:Value->Shared->Prop} (J:A.handled=none) (q:s.heap.IsTupleIter j u i) (L:s.heap.IsTuple u xs) (M:xs[i]? =none)
 (k:∀g e,Heap.ExtBut j s.heap g->(∃o,g.get? e=some o/\o.cls= .type "StopIteration")->E (.ref e) { s with heap:=g}):wpAny (model prog w) A (Builtin.SmallTypes.nextOf (.ref j)) Q E s:=by
 obtain⟨W,ej,Z,G⟩:=id q
 obtain⟨ou,O,_,nu,U⟩:=L
 unfold Builtin.SmallTypes.nextOf
 refine aA (cU (name:=Str.ofString "__next__") q.typeIs gY (cN gY q.typeIs F.entry_tuple_iterator_next ?_ (F.args_tuple_iterator_next_1 _)))
 show wpAny _ _ (field (.ref j) 0>>=_) _ _ s
 refine aA (dE ej G (x:= .ref u) rfl ?_)
 show wpAny _ _ (if(Value.ref u==Value.none)=true then _ else _) _ _ s
 rw [aF (show ¬((Value.ref u==Value.none)=true)from aY)]
 show wpAny _ _ (field (.ref j) 1>>=_) _ _ s
 refine aA (dE ej G (x:= .int i 0) rfl ?_)
 show wpAny _ _ (seqItems? (.ref u)>>=_) _ _ s
 refine aA (dZ O U ?_)
 simp only [M,eU]
 refine aA (jL (aA (kG ej G (by simp) ?_)))
 show wpAny _ A.in1 (newExc (.type "StopIteration") []>>=_) _ _ _
 refine aA ?_
 simp only [newTuple,newExc]
 refine aA (cG ?_ (by size_fits))
 refine aA (m:=firstArgMember _ _) (wpAny_of_eq (a:=Value.none) (by first | rfl | (simp only [firstArgMember];rfl)) ?_)
 refine(cG ?_ (by size_fits))
 simp only [raiseNew]
 refine aA (wpAny_handled ?_)
 first | rw [show A.in1.handled=none from J] | (rw [J])
 refine aA (aE (wpAny_throw ?_))
 exact k _ _ (((iD ..).extBut.push _).push _) ⟨_,aN _ rfl,rfl⟩
end
section
variable {X:Cx}{pins:List (Addr × Obj)}{σ:St}{H:Hp}{s:Shared}{h':Heap}
theorem Inv.turnL {t':Nat}{fp:List Addr} (I:Inv X pins σ H s) (k:∀b o,b∉fp->s.heap.get? b=some o->h'.get? b=some o) (J:∀b∈fp,P0 X pins H b):Inv X pins σ H { s with heap:=h',toks:=t'}:=by
 have M:∀b u,H b=some u->b∉fp:=fun b u e z=>by
  have:=(J b z).1
  rw [this]at e
  cases e
 refine I.step (g':=s.gens) (d':=s.drawn) (ch:=fp) (fun b L=>⟨(J b L).2.2.2.1,(J b L).2.1,(J b L).2.2.2.2.1,(J b L).2.2.2.2.2⟩) (fun b o _ _ G e _=>k b o G e) (fun b o _ _ G e _=>⟨o.slots,k b o G e⟩) (fun _ _ _ _ n=>n)
  (fun b o G e=>⟨o,k b o G e⟩) (fun _ _ e=>e) (fun _ _ _ e=>e) (fun b ps e=>⟨#[],by rw [e];simp⟩) (fun m O=> ?_) (fun b u e=> ?_) I.bare
 . obtain⟨o,es,ep,U,r⟩:=O
   exact⟨o,es,ep,k _ o (fun z=>(J _ z).2.1 rfl) U,r⟩
 . refine(I.hok b u e).stay (fun c v G q=>k c v ?_ q) (fun _ q=>q) fun _ _ q=>q
   rcases G with z | z
   . rw [z]
     exact M b u e
   . exact M c _ z
end
section
variable {X:Cx}
noncomputable def Anb (K:Frag):R2:=fun x y H Q=>∃a b xs ys,x= .ref a/\y= .ref b/\SqT K H a xs/\SqT K H b ys/\xs.length+ys.length<=sizeLine/\∀z H',Same H H'->SqT K H' z (xs++ys)->Q (.ref z) H'
theorem Qv:OpR X (binaryOp .Add) (Anb X.K):=by
 intro pins s σ H x y v u Q I W Z h
 obtain⟨a,b,xs,ys,rfl,rfl,O,U,hz,q⟩:=h
 by_cases hx:xs=[]
 . subst hx
   cases W
   cases Z
   obtain⟨a0,r1,p1,_⟩:=I.tuple O
   obtain⟨G,r2,p2,_⟩:=I.tuple U
   cases r1
   obtain⟨⟨c1,d1,t1,l1⟩,ho,hc,n,hd⟩:=(show s.heap.IsTuple a ([]:List Value).toArray from p1)
   obtain⟨⟨c2,d2,t2,l2⟩,J,L,n2,M⟩:=(show s.heap.IsTuple b G.toArray from p2)
   simp only at hc hd L M
   subst hc hd L M
   exact concat_meets ⟨_,ho,rfl⟩ ⟨_,J,rfl⟩ noFill_tuple_add seq_tuple_add kR kL (kC _ _)
    (tuple_addW0 a b #[] G.toArray n n2 d1 d2 l1 l2 rfl) ⟨ho,J,⟨.ref b,H,I,rfl,q b H (Same.refl _) U⟩⟩
 . exact Agi pins s σ H _ _ v u Q I W Z ⟨a,b,xs,ys,rfl,rfl,O,U,hx,hz,fun e=>q a H (Same.refl _) (by rw [e,cP];exact O),fun _ p hp=>q p _ (Same.upd hp _) (.of Ag)⟩
theorem J3 (hc:X.calm=true):Gv X (.builtin "all") (fun xs H Q=>∃(a:Addr) (bs:List Bool),xs=[.ref a]/\SqL X.K H a (bs.map V.bl)/\Q (.bl (bs.all id)) H):=by
 intro pins s σ H xs us Q I r h
 obtain⟨a,bs,rfl,ha,q⟩:=h
 obtain⟨u,rfl,ru⟩:=vals1 r
 cases ru
 obtain⟨G,U,p,hz⟩:=I.list ha
 have L:s.heap.IsList a G.toArray:=p.isList
 have lt:a<s.heap.objs.size:=by
  obtain⟨_,e,_⟩:=L
  exact aM e
 have ln:G.length=bs.length:=by
  have:=U.length
  rw [aB]at this
  exact this.symm
 refine call_all_walk (gS L ?_)
 refine⟨s.heap.objs.size,[s.heap.objs.size,a],[s.heap.objs.size],G.toArray.size,_,_,fun i=>(bs[i]?).getD true,rfl,Walks.list (A:=X.A.in1) (I.ok.hd hc) _ a (aV lt) G.toArray,
  ⟨⟨_,aN _ rfl,rfl,rfl⟩,L.push _⟩,fun i v s' Q' E' hP W=> ?_,fun g tk hk=> ?_⟩
 . have Z:G[i]? =some v:=by simpa using hP
   have hi:i<G.length:=(bL.mp Z).1
   have hb:bs[i]? =some bs[i]:=aG (by omega)
   obtain⟨w',hw,M⟩:=U.get (show(bs.map V.bl)[i]? =some (V.bl bs[i])by rw [aZ,hb];rfl)
   rw [Z]at hw
   cases hw
   cases M
   simp only [hb,getD_some]at W
   exact fR W
 . have e:((List.range G.toArray.size).all fun i=>(bs[i]?).getD true)=bs.all id:=by
    rw [aR,ln,hV,gQ,gQ]
    constructor
    . intro h x hx
      obtain⟨i,hi,ei⟩:=List.getElem_of_mem hx
      have:=h i (eD.mpr hi)
      rw [aG hi,ei]at this
      exact this
    . intro h i hi
      have J:=eD.mp hi
      rw [aG J]
      exact h _ (cE J)
   rw [e]
   exact⟨.bl _,H,I.kept (t':=tk) fun b o O=>hk b o (fun hm=>by rw [aS.mp hm]at O;exact dD _ (aM O)) (aC _ O),rfl,q⟩
end
section
variable {X:Cx}
theorem Hu (K:Frag) (h:X.K=K:=by rfl):IxR X (Ane K):=by subst h;exact Du
end
section
variable {X:Cx}
theorem Acu:Gv X (.builtin "isinstance") (fun xs H Q=>∃(a:Addr) (ys:List V) (T:String) (b:Bool),xs=[.ref a,.ty T]/\SqT X.K H a ys/\kitOne X.K (.type "tuple") (.type T)=some b/\Q (.bl b) H):=by
 intro pins s σ H xs U Q I r h
 obtain⟨a,ys,T,b,rfl,J,L,q⟩:=h
 obtain⟨u,c,rfl,M,O⟩:=vals2 r
 cases O
 cases M
 obtain⟨G,Z,p,_⟩:=I.tuple J
 obtain⟨o,h1,h2,_⟩:=(show s.heap.IsTuple a G.toArray from p)
 exact dU kitx_tuple I.kIn ⟨o,h1,h2⟩ L (fun z=>nomatch z) fun tk=>⟨.bl b,H,I.tok tk,rfl,q⟩
end
section
variable {prog:Program}{w:World}{A:Around}{E:Value->Shared->Prop}{s:Shared}
theorem Acf {t G:Addr}{ys:Array Value}{M O:Value}{lo hi:Option Int}{Q:Value->Shared->Prop} (q:IsTup s.heap t ys) (U:s.heap.IsSliceOf G M O .none) (W:IsPart M lo) (Z:IsPart O hi)
 (w1:HT.sIx ys.size 0 lo=0) (w2:HT.sIx ys.size ys.size hi=ys.size) (h:Q (.ref t) s):wpAny (model prog w) A (getItem (.ref t) (.ref G)) Q E s:=by
 obtain⟨os,J,cs,ds⟩:=id U
 have ty:s.TypeIs (.ref G) "slice":=⟨os,J,cs⟩
 unfold getItem
 try with_reducible refine(dP ?_)
 first | refine(aA (aE ?_)) | skip
 refine aA (wpAny_sequenceKey q.typeIs (by decide) (?_))
 refine aA (cU (name:=Str.ofString "__getitem__") q.typeIs dQ (cN dQ q.typeIs entry_tuple_getitem ?_ (args_tuple_getitem _ _)))
 show wpAny _ A.in1 (Builtin.Tuple.tupleItemsOf (.ref t)>>=_) _ _ s
 refine aA (tupleItemsOf_ q (?_))
 refine aA (wpAny_typeOf ty ?_)
 rw [aI (by decide)]
 refine aA (HT.Ie U W Z ?_)
 have L:(((HT.sIx ys.size 0 lo:Nat):Int)==0&&(1:Int)==1&&(HT.sIx ys.size ys.size hi-HT.sIx ys.size 0 lo)==ys.size)=true:=by
  rw [w1,w2]
  simp
 show wpAny _ A.in1 (if(((HT.sIx ys.size 0 lo:Nat):Int)==0&&(1:Int)==1&&(HT.sIx ys.size ys.size hi-HT.sIx ys.size 0 lo)==ys.size)=true then _ else _) _ _ s
 rw [aI L]
 refine aA ?_
 unfold Builtin.Tuple.tupleIsExact
 refine aA (wpAny_typeOf q.typeIs (aE ?_))
 rw [aI (by decide)]
 exact aA (jL (aE ⟨_,rfl,aE h⟩))
end
section
variable {X:Cx}
noncomputable def Ap1 (K:Frag):V->Option Int->Option Int->Hp->VK->Prop:=fun x lo hi H Q=>∃a xs,x= .ref a/\SqT K H a xs/\∀z H',Same H H'->SqT K H' z (O2 xs lo hi)->Q (.ref z) H'
theorem Ob:SlR X (Ap1 X.K):=by
 intro pins s σ H x v vl vu lo hi sl Q I O U W Z h
 obtain⟨a,xs,rfl,L,q⟩:=h
 by_cases J:HT.sIx xs.length 0 lo=0/\HT.sIx xs.length xs.length hi=xs.length
 . cases O
   obtain⟨M,r,ht,hz⟩:=I.tuple L
   have G:M.toArray.size=xs.length:=by rw [aR];exact r.length.symm
   refine⟨"tuple",_,dQ.lookup,ht.typeIs,Acf ht U W Z (by rw [G];exact J.1) (by rw [G];exact J.2) ⟨.ref a,H,I,rfl,q a H (Same.refl _) ?_⟩⟩
   have e:O2 xs lo hi=xs:=by
    unfold O2
    rw [J.1,J.2,List.drop_zero,Nat.sub_zero,fT]
   rw [e]
   exact L
 . exact Ako pins s σ H _ v vl vu lo hi sl Q I O U W Z ⟨a,xs,rfl,L,J,fun p hp=>q p _ (Same.upd hp _) (.of Ag)⟩
end
set_option maxRecDepth 100000
theorem U3 {X:Cx}{es:List Expr}{k:Nat}{pos:Pos}{t:TGs} (K:Frag) (n:Nat) (G:X.K=K) (J:X.calm=true) (h:PGs X es t)
 (L:(assignEach es X.env).length=n:=by rfl) (q:(assignEach es X.env).findIdx? (·.1)=none:=by rfl):PG X (.Tuple es k pos) (Ah5 K n t):=by
 subst G
 exact Wb J h L q
end L2
namespace L2
open PySem PySem.Spec PyProof.Rows
set_option maxRecDepth 100000
variable {P:Program}{w:World}{H:Hp}{h:Heap}{a:Addr}{o:HO}
theorem Dk.has (x:Dk P w H h a o):∃q,h.get? a=some q:=by
 cases o with
 | lst xs=>obtain⟨_,_,_,_,e⟩:=x;exact⟨_,e⟩
 | tup xs=>obtain⟨_,_,_,q,e,_⟩:=x;exact⟨_,e⟩
 | dK kvs=>obtain⟨_,_,_,_,o,_,_,e,_⟩:=x;exact⟨_,e⟩
 | dT kvs=>obtain⟨_,_,_,_,o,_,_,e,_⟩:=x;exact⟨_,e⟩
 | set S n=>obtain⟨o,_,_,_,e,_⟩:=x;exact⟨_,e⟩
 | ins C dx fs=>obtain⟨_,_,_,e,_⟩:=x;exact⟨_,e⟩
 | own y=>exact x
 | xd fs=>obtain⟨_,⟨_,_,_,e,_⟩,_⟩:=x;exact⟨_,e⟩
 | rng lo hi=>obtain⟨_,_,_,e⟩:=x;exact⟨_,e⟩
 | frz q u=>obtain⟨e,_⟩:=x;exact⟨_,e⟩
 | tbl ps=>exact⟨_,show h.get? a=some _ from x⟩
 | met f y=>exact⟨_,show h.get? a=some _ from x⟩
 | ext G=>exact x.2.1
structure FX (P:Program) (w:World) (fr:List Addr) (H:Hp) (h0:Heap) (B:Heap) (H':Hp) (h:Heap):Prop where
 stay:B.StaysIn h
 k1:∀b o,h0.get? b=some o->b∉fr->∃o',B.get? b=some o'/\(H b=none->o'=o)
 k2:∀b u,H' b=some u->∃o,B.get? b=some o
 fr0:∀b∈fr,H b=none/\∃o,h0.get? b=some o/\∀vs,o.data≠ .fields vs
 un:Un fr [] H H' h0 h
 hok:HOk P w H' h
variable {H':Hp}{h':Heap}
variable {b:Addr}
section
variable {X:Cx}{pins:List (Addr × Obj)}{σ:St}{H H':Hp}{s s':Shared}{B:Heap}
end
noncomputable def CXE (P:Program) (w:World):CXT:=fun outer H s E e s'=>∃(x C:Addr) (a0:Value) (B:Heap) (H':Hp),e= .ref x/\s'.os=s.os/\AllBare s'.gens/\Heap.FlyingW B outer x (.ref C) a0 s'.heap/\FX P w (frs outer) H s.heap B H' s'.heap/\E (.ref C) none H'
noncomputable abbrev VE:List Value:=[.type "ValueError",.type "Exception",.type "BaseException",.type "object"]
noncomputable def Ama (K:Frag) (C:Addr):Prop:=excIn K C VE "ValueError.__new__"=true
noncomputable def cA (K:Frag) (x:Str):Addr:=match PySem.W.nsIn K mainGlobals x with
 | some (some (.ref C))=>C
 | _=>0
variable {x:Str}{C:Addr}
theorem Aig {K:Frag} (e:PySem.W.nsIn K mainGlobals x=some (some (.ref C))):cA K x=C:=by
 unfold cA
 rw [e]
noncomputable def Aph (h:Heap) (C:Addr):Prop:=∃bm N nm q bs hdct sn sub ab col dd k0 k1 k2 k3 k5 mN,h.get? C=some (excClassObj nm q C N bs bm hdct sn sub ab col dd k0 k1 k2 k3 k5 "ValueError.__new__")/\h.Ns N mN/\mN "__init__"=none/\OwnTail h VE bm
noncomputable def Aow (P:Program) (w:World) (K:Frag) (mg:Str->Option Value) (base:Heap) (k:Nat) (x:Str) (ps:List Str) (sp:Sp):Prop:=
 ∃f fd,Pz P w K mg base (CXE P w) k f fd ps sp/\mg x=some (.ref f)/\keepIn K (.ref f)=true/\Binds K fd ps []
end L2
namespace L2
open PySem PySem.Spec PyProof.Rows
set_option maxRecDepth 100000
end L2
namespace L2
open PySem PySem.Spec PyProof.Rows
set_option maxRecDepth 100000
structure Aox (K:Frag) (C:Addr):Prop where
 ga:findIn K (.ref C) "__getattribute__"=some (some (.builtin "BaseException.__getattribute__"))
 gn:findIn K (.ref C) "__getattr__"=some none
 cl:findIn K (.ref C) "__class__"=some (some (.builtin "object.__class__"))
 ob:mroIn K C (.type "object")=some true
 be:mroIn K C (.type "BaseException")=some true
variable {C:Addr}
variable {H H':Hp}{p:Addr}{o:HO}
theorem nw (hp:H p=none) (e:upd H p o=H'):Same H H'/\H' p=some o:=by
 subst e
 exact⟨Same.upd hp _,Ag⟩
end L2
namespace L2
open PySem PySem.Spec PyProof.Rows
noncomputable def Di:Expr->Bool
 | .Starred _ _=>false
 | _=>true
variable {e:Expr}{env:Env}
theorem Hz {es:List Expr} (h:Di e=true):starEach (e::es) env=(false,eval e env)::starEach es env:=by
 cases e<;>first | rfl | cases h
theorem Ke {env:Env}{pos:Pos}:∀ {es:List Expr},es.all Di=true->(backTo pos (starEach es env)).any (·.1)=false
 | [],_=>rfl
 | e::es,h=>by
   rw [iY,cM]at h
   rw [Hz h.1]
   have q:=Ke (env:=env) (pos:=pos) h.2
   unfold backTo at q ⊢
   rw [aU,gX,q]
   rfl
section
variable {X:Cx}{e:Expr}{es:List Expr}{te:TE}{t:TA}{x:Str}{p pos:Pos}{id T:String}{r:List V->Hp->VK->Prop}{k:Nat}{ps:List Str}{sp:Sp}
theorem Aez (q:PE X e te) (G:PA X es t) (h:Di e=true:=by rfl):PA X (e::es) (Yk te t):=Agm q G (Hz h)
theorem Aa3 (G:Gv X (.builtin id) r) (J:Gl X x) (L:X.mg x=none) (M:bootBuiltins x=some (.builtin id)) (O:PA X (e::es) t) (h1:Di e=true:=by rfl) (h2:es.all Di=true:=by rfl) (U:x≠"__name__":=by decide) (q:(x==("__debug__":Str))=false:=by decide):
 PE X (.Call (.Name x p) (e::es) [] pos) (tCB r t):=Ado G J L M O U q (Hz h1) (Ke h2)
theorem Ss (G:Gv X (.type T) r) (J:Gl X x) (L:X.mg x=none) (M:bootBuiltins x=some (.type T)) (O:PA X (e::es) t) (h1:Di e=true:=by rfl) (h2:es.all Di=true:=by rfl) (U:x≠"__name__":=by decide) (q:(x==("__debug__":Str))=false:=by decide):
 PE X (.Call (.Name x p) (e::es) [] pos) (tCB r t):=Aa4 G J L M O U q (Hz h1) (Ke h2)
theorem X4 (C:Cal X.prog X.w X.K X.mg X.base k x ps sp) (G:Km k X.A) (J:PA X (e::es) t) (h1:Di e=true:=by rfl) (h2:es.all Di=true:=by rfl) (L:Gl X x:=by rfl) (q:(x==("__debug__":Str))=false:=by decide):
 PE X (.Call (.Name x p) (e::es) [] pos) (S7 sp [] E0 t):=Adp C G J L q (Hz h1) (Ke h2)
theorem X5 {n:Nat} (C:Cal X.prog X.w X.K X.mg X.base k x ps sp) (G:Km n X.A) (J:PA X (e::es) t) (L:k<=n:=by decide) (h1:Di e=true:=by rfl) (h2:es.all Di=true:=by rfl) (M:Gl X x:=by rfl) (q:(x==("__debug__":Str))=false:=by decide):
 PE X (.Call (.Name x p) (e::es) [] pos) (S7 sp [] E0 t):=X4 C (G.mono L) J h1 h2 M q
theorem Abf {te:TE}{x:Str}{pos':Pos} (i:Nat) (q:X.N.Nodup) (G:PE X e te) (hi:X.N[i]? =some x:=by rfl) (J:Loc X.env.scope x:=by first | exact Or.inl rfl | exact Or.inr rfl) (L:swapsWith e (some (.Name x pos')) pos.line X.env=pure false:=by rfl) (M:X.fn x=true\/X.env.scope.names.lookup x=some .local :=by first | exact .inl rfl | exact .inr rfl | assumption):
 PS X (.Assign [.Name x pos'] e pos) (Ad5 te (Jq i)):=Wi q hi J G L M
theorem Adv {x:Str} (i:Nat) (q:X.N.Nodup) (hi:X.N[i]? =some x:=by rfl) (G:Loc X.env.scope x:=by first | exact Or.inl rfl | exact Or.inr rfl) (J:X.fn x=true\/X.env.scope.names.lookup x=some .local :=by first | exact .inl rfl | exact .inr rfl | assumption):PG X (.Name x pos) (Jq i):=U0 q hi G J
end
noncomputable def Itd (lo:Int) (n:Nat):It:=⟨fun i _=>i<n,fun i H x H'=>H'=H/\x= .int (lo-i),fun i _=>n<=i⟩
variable {P:Program}{w:World}{tg:Expr}
theorem Ab3 {K:Frag} (it:Addr) (lo:Int) (n:Nat):Turn P w K tg (Itd lo n) [it] it (fun i h=>IsRangeIter h it (lo+(i:Nat)*(-1)) ((n:Int)-(i:Nat)) (-1)) where
 mem:=by simp
 obj:=fun i h st b q=>by
  have e:b=it:=by simpa using q
  subst e
  exact⟨_,st,fun v z=>by
   have z':Data.fields _=Data.cell v:=z
   cases z'⟩
 keep:=fun i h h' st k=>k it (by simp) _ st
 item:=by
  intro X L M O U i pins s σ H E I J st Z
  subst L M O
  obtain⟨f0,f1,f2,f3,f4,f5⟩:=J it (by simp)
  have W:=Walks.range (prog:=X.prog) (w:=X.w) (I.ok.hd U) it lo (-1) n
  refine W.item i s _ _ Z st fun v h' tk hv G kk=> ?_
  obtain⟨t,rfl⟩:=hv
  have I1:Inv X pins σ H { s with heap:=h',toks:=tk}:=I.turned (fun b o q e=>kk b o (by simpa using q) e) f0 f1 f3 f4 f5
  refine⟨_,rfl,Adb (s:={ s with heap:=h',toks:=tk}) (n:="range_iterator") G rfl rfl (by decide) ⟨.int (lo-i),H,I1,⟨t,?_⟩,⟨rfl,rfl⟩,G,fun b q=>(J b q).1⟩⟩
  rw [Int.mul_neg,jE,<-Int.sub_eq_add_neg]
 done:=by
  intro X L M O U i pins s σ H E I J st Z
  subst L M O
  obtain⟨f0,f1,f2,f3,f4,f5⟩:=J it (by simp)
  exact wpAny_pyNext_range_end (I.ok.hd U) st (by have:n<=i:=Z;omega) fun h' eb=>⟨rfl,I.turned (t':=s.toks) (fun b o q e=>eb b o q e) f0 f1 f3 f4 f5⟩
 self:=fun _ _ _ _ _ st h=>wpAny_pyIter_rangeiter st h
variable {pins:List (Addr × Obj)}{σ:St}{H:Hp}{s:Shared}
section
variable {X:Cx}{tg:Expr}
theorem Afw {R:It->Hp->Prop}{E:Value->Shared->Prop}{lo hi:Int}{t u v:Tok}{tk:Nat} (I:Inv X pins σ H s) (h1: -(2^62)<=lo) (h2:lo<2^62) (J: -(2^62)<=hi) (L:hi<2^62)
 (q:R (Itd lo (lo-hi).toNat) H):wpAny (model X.prog X.w) X.A (pyIter (.ref s.heap.objs.size)) (PIE X pins σ tg R) E { s with heap:=s.heap.push { cls:= .type "range",data:= .fields #[.int lo t,.int hi u,.int (-1) v]},toks:=tk}:=by
 refine wpAny_pyIter_range (IsRange.new ..) (PySem.W.small_down h1 h2 J L) ?_
 have G:Inv X pins σ H { s with heap:=s.heap.push { cls:= .type "range",data:= .fields #[.int lo t,.int hi u,.int (-1) v]},toks:=tk}:=I.kept fun b o e=>aC _ e
 refine⟨(s.heap.push { cls:= .type "range",data:= .fields #[.int lo t,.int hi u,.int (-1) v]}).objs.size,[(s.heap.push { cls:= .type "range",data:= .fields #[.int lo t,.int hi u,.int (-1) v]}).objs.size],_,_,H,rfl,
  G.kept (t':=tk) fun b o e=>aC _ e,Ab3 _ lo (lo-hi).toNat,?_,fun b M=> ?_,q⟩
 . have O:lo+((0:Nat):Int)*(-1)=lo:=by simp
   have U:(((lo-hi).toNat:Nat):Int)-((0:Nat):Int)=Builtin.Range.rangeSize lo hi (-1):=by rw [PySem.W.rangeSize_downNat];omega
   show IsRangeIter _ _ (lo+((0:Nat):Int)*(-1)) ((((lo-hi).toNat:Nat):Int)-((0:Nat):Int)) (-1)
   rw [O,U]
   exact aN _ rfl
 . have e:b=(s.heap.push { cls:= .type "range",data:= .fields #[.int lo t,.int hi u,.int (-1) v]}).objs.size:=by simpa using M
   subst e
   exact G.fpOk (aH _) (G.hok.fresh (aH _))
noncomputable def Afz (ta:TA):TI:=fun σ H R=>ta σ H fun vs H1=>∃i j:Int,vs=[.int i,.int j,.int (-1)]/\(-(2^62)<=i/\i<2^62/\ -(2^62)<=j/\j<2^62)/\R (Itd i (i-j).toNat) H1
theorem U4 {a b c:Expr}{ta:TA}{p pos:Pos} (M:Gl X "range") (O:X.mg "range"=none) (U:PA X [a,b,c] ta) (h1:Di a=true:=by rfl) (h2:[b,c].all Di=true:=by rfl):
 PI X tg (.Call (.Name "range" p) [a,b,c] [] pos) (Afz ta):=by
 intro pins s σ H R I h
 refine Call_ (Lp I M O boot_range (eW (thn (U pos pins s σ H _ I h) fun us s1 ⟨vs,H1,W,Z,J⟩=> ?_) (Hz h1) (Ke h2)))
 obtain⟨i,j,e,⟨J,q2,q3,q4⟩,q⟩:=J
 subst e
 cases Z with
 | cons r G=>
   cases G with
   | cons r' G=>
     cases G with
     | cons L G=>
       cases G
       obtain⟨t,rfl⟩:=r
       obtain⟨t',rfl⟩:=r'
       obtain⟨a0,rfl⟩:=L
       exact call_range_3 (by decide) (Afw W J q2 q3 q4 q) (.inl (kD (by decide+kernel)))
theorem Ak8 {ta:TA}{R:It->Hp->Prop}:Afz ta σ H R=ta σ H (fun q H1=>∃i j:Int,q=[.int i,.int j,.int (-1)]/\(-(2^62)<=i/\i<2^62/\ -(2^62)<=j/\j<2^62)/\R (Itd i (i-j).toNat) H1):=rfl
theorem Aoc {i j:Int}{G:Int->Int->Prop}:(∃q J:Int,[V.int i,.int j,.int (-1)]=[.int q,.int J,.int (-1)]/\G q J)=G i j:=propext ⟨fun⟨_,_,e,h⟩=>by cases e;exact h,fun h=>⟨i,j,rfl,h⟩⟩
end
variable {n:Nat}
theorem Acg {lo:Int}:Aec (Itd lo n) H (List.range n) (fun i=> .int (lo-(i:Nat))):=fun i=>by
 refine⟨fun e=> ?_,fun e h=> ?_⟩
 . have:=cC.mp e
   rw [cX]at this
   exact this
 . obtain⟨h1,h2⟩:=bL.mp h
   rw [cX]at h1
   rw [List.getElem_range]at h2
   subst h2
   exact⟨h1,fun x q ⟨a,b⟩=>⟨a,b⟩⟩
variable {J:It}
theorem Ah4 {g:TG}{tb:TS}{D:Ends} (n:Nat) (inj:Nat->V) (G:Nat->St->Hp->Prop) (U:G 0 σ H) (W:∀i σ H,G i σ H->Aec J H (List.range n) inj)
 (Z:∀i σ H,i<n->G i σ H->g (inj i) σ H fun L H2=>tb { D with nx:=G (i+1),ct:=G (i+1),bk:=D.nx} L H2) (hd:∀σ H,G n σ H->D.nx σ H):FI J g tb D σ H:=by
 refine Oq (es:=List.range n) (inj:=inj) (fun q=>G q.length) U (fun q σ H p=>W q.length σ H p) (fun q e M σ H O p=> ?_) (fun σ H p=>hd σ H (by rw [cX]at p;exact p))
 have hl:=bK length O
 rw [cX,aL,bU]at hl
 have ee:e=q.length:=by
  have:=bK (fun l=>l[q.length]?) O
  simp only [cR (aH _),sub_self,eT]at this
  rw [List.getElem?_range (by omega)]at this
  exact(bE this).symm
 subst ee
 have:=Z q.length σ H (by omega) p
 rw [aL,dJ]
 exact this
variable {H':Hp}{p:Addr}{o:HO}
theorem Same.put (s:Same H H') (hp:H p=none):Same H (L2.upd H' p o):=fun b u e=>by
 rw [Bm (Bg e hp)]
 exact s b u e
noncomputable def Amu (K:Frag) (tl:TE):TI:=fun σ H R=>tl σ H fun x H1=>∃a,x= .ref a/\(((∃xs,SqL K H1 a xs)/\R (Itl K a) H1)\/((∃xs,SqT K H1 a xs)/\R (Itt K a) H1))
theorem Aj4 {X:Cx}{tg l:Expr}{tl:TE} (U:PE X l tl):PI X tg l (Amu X.K tl):=by
 intro pins s σ H R I h
 refine thn (U pins s σ H _ I h) fun v G ⟨x,H1,J,W,M⟩=> ?_
 obtain⟨a,e,M⟩:=M
 subst e
 cases W
 have fp:∀b∈ [G.heap.objs.size],P0 X pins H1 b:=fun b Z=>by
  have e:b=G.heap.objs.size:=by simpa using Z
  subst e
  exact J.fpOk (aH _) (J.hok.fresh (aH _))
 rcases M with⟨⟨xs,O⟩,q⟩ | ⟨⟨xs,O⟩,q⟩
 . obtain⟨L,rv,p,hz⟩:=J.list O
   exact gS p.isList ⟨G.heap.objs.size,[G.heap.objs.size],_,_,H1,rfl,J.kept (t':=G.toks) fun b o e=>aC _ e,Tc a _,⟨_,aN _ rfl,rfl,rfl⟩,fp,q⟩
 . obtain⟨L,rv,p,hz⟩:=J.tuple O
   exact kH (show G.heap.IsTuple a L.toArray from p) ⟨G.heap.objs.size,[G.heap.objs.size],_,_,H1,rfl,J.kept (t':=G.toks) fun b o e=>aC _ e,Py a _,⟨_,aN _ rfl,rfl,rfl⟩,fp,q⟩
variable {tl:TE}
theorem Alf {K:Frag}{R:It->Hp->Prop}:Amu K tl σ H R=tl σ H (fun x H1=>∃a,x= .ref a/\(((∃xs,SqL K H1 a xs)/\R (Itl K a) H1)\/((∃xs,SqT K H1 a xs)/\R (Itt K a) H1))):=rfl
variable {D:Ends}
theorem Dc {t u:TS}{σ:St}{H:Hp} (P:St->Hp->Prop) (h1:∀N:St->Hp->Prop,(∀q H',P q H'->N q H')->t { D with nx:=N} σ H) (h2:∀q H',P q H'->u D q H'):Al6 t u D σ H:=h1 (u D) h2
open PySem PySem.SeqAt PySem.Spec PyProof.Rows
variable {Q:VK}
section
variable {X:Cx}
theorem Aey:OpR X (compareOp .Is) (fun x y H Q=>∃a b:Bool,x= .bl a/\y= .bl b/\Q (.bl (a==b)) H):=by
 intro pins s σ H x y v u Q I G J h
 obtain⟨a,b,rfl,rfl,q⟩:=h
 cases G
 cases J
 exact is_bool ⟨.bl _,H,I,rfl,q⟩
noncomputable def Ahi:TE:=fun _ H Q=>∀p,H p=none->Q (.ref p) (upd H p (.dK []))
theorem Agt {pos:Pos}:PE X (.Dict [] [] pos) Ahi:=fun pins s σ H Q I h=>by
 have G:sysModules<s.heap.objs.size:=lt_trans (by decide) (show mainGlobals<s.heap.objs.size from(I.mod.glob.keeps I.bk).lt)
 exact wpAny_Dict_empty ⟨.ref s.heap.objs.size,_,I.laid (a:=s.heap.objs.size) (o:= .dK []) (t':=s.toks) (fun _ _ q=>aC _ q) (aH _) ⟨bO _,jH.mpr (cS (aV G)),[],.nil,Heap.DictOf.new s.heap⟩,rfl,h _ (I.hok.fresh (aH _))⟩
theorem Ak7:Ahi σ H Q=∀p,H p=none->Q (.ref p) (upd H p (.dK [])):=rfl
end
noncomputable def Aly (K:Frag) (a:Addr):It:=
 ⟨fun i H=>∃xs x,SqL K H a xs/\xs[i]? =some x,fun i H x H'=>∃p v,(∀xs,SqL K H a xs->xs[i]? =some v)/\H p=none/\x= .ref p/\H'=upd H p (.tup [.int (i:Nat),v]),fun i H=>∃xs,SqL K H a xs/\xs.length<=i⟩
variable {h:Heap}{a:Addr}
theorem Nq {its:Array Value} (p:PlainL h a its):h.IsList a its:=by
 obtain⟨o,n,e,c,_,d⟩:=p
 exact⟨o,e,c,n,d⟩
variable {el:List Expr}{tp:Pos}
theorem Ad6 {K:Frag}{x1} (a e j:Addr) (ne:e≠j):Turn P w K (.Tuple el x1 tp) (Aly K a) [e,j] e (fun i h=>(∃old,IsEnum h e j i old)/\h.IsListIter j a i) where
 mem:=by simp
 obj:=fun i h st b G=>by
  obtain⟨⟨old,J⟩,oj,ej,cj,dj⟩:=st
  rcases aQ.mp G with rfl | G
  . exact⟨_,J,fun v z=>by cases(show Data.fields _=Data.cell v from z)⟩
  . have z:b=j:=by simpa using G
    subst z
    exact⟨oj,ej,fun v z=>by rw [dj]at z;cases z⟩
 keep:=fun i h h' st k=>by
  obtain⟨⟨old,J⟩,oj,ej,r⟩:=st
  exact⟨⟨old,k e (by simp) _ J⟩,oj,k j (by simp) _ ej,r⟩
 item:=by
  intro X hP hw hK hc i pins s σ H E I U st hg
  subst hP hw hK
  obtain⟨xs,x,Z,hx⟩:=hg
  obtain⟨a0,rv,p,hz⟩:=I.list Z
  obtain⟨u,hu,ru⟩:=rv.get hx
  obtain⟨⟨old,J⟩,hj⟩:=st
  refine wpAny_pyNext_enum_item J hj (Nq p) (x:=u) (by simpa using hu) ne fun g M a1 hT a6 kk=>⟨_,rfl,?_⟩
  refine wpAny_letOwnedTupleGo_enum M fun g2 a2 L=> ?_
  replace L:Heap.SameBut e g g2:=L
  have a3:e<s.heap.objs.size:=aM J
  have a4:j<s.heap.objs.size:=by
   obtain⟨_,ej,_⟩:=hj
   exact aM ej
  have hn:H s.heap.objs.size=none:=I.fresh
  have I1:Inv X pins σ (upd H s.heap.objs.size (.tup [.int (i:Nat),x])) { s with heap:=s.heap.push { cls:= .type "tuple",data:= .seq #[.int i s.toks,u]},toks:=s.toks+1}:=
   I.laid (fun b o q=>aC _ q) (aH _) ⟨by show 2<=sizeLine;decide,[.int i s.toks,u],.cons ⟨_,rfl⟩ (.cons ru .nil),⟨_,aN _ rfl,rfl,_,rfl⟩⟩
  have O:∀b∈ [e,j],P0 X pins (upd H s.heap.objs.size (.tup [.int (i:Nat),x])) b:=fun b G=>by
   have nb:b≠s.heap.objs.size:=by
    rcases aQ.mp G with rfl | a5
    . exact aV a3
    . have z:b=j:=by simpa using a5
      subst z
      exact aV a4
   exact⟨by rw [Bm nb];exact(U b G).1,(U b G).2⟩
  have I2:=I1.turnL (h':=g2) (t':=s.toks+1) (fp:=[e,j]) (fun b o G q=>by
   have n1:b≠e:=fun z=>G (by simp [z])
   have n2:b≠j:=fun z=>G (by simp [z])
   refine(L.2 b n1).trans ?_
   rcases jU q with⟨rfl,rfl⟩ | q0
   . exact hT
   . exact kk b o n1 n2 q0) O
  refine⟨.ref s.heap.objs.size,_,I2,rfl,⟨_,x,fun ys hy=>by rw [I.list_inj hy Z];exact hx,hn,rfl,rfl⟩,⟨⟨_,by simpa using a2⟩,?_⟩,fun b G=>(O b G).1⟩
  exact a1.extBut L.extBut (cS ne)
 done:=by
  intro X hP hw hK hc i pins s σ H E I U st hg
  subst hP hw hK
  obtain⟨xs,Z,hx⟩:=hg
  obtain⟨a0,rv,p,hz⟩:=I.list Z
  obtain⟨⟨old,J⟩,hj⟩:=st
  have hl:=rv.length
  exact wpAny_pyNext_enum_end (I.ok.hd hc) J hj (Nq p) (by simp;omega) fun g eb=>⟨rfl,I.turnL (t':=s.toks) (fp:=[e,j]) (fun b o G q=>eb b o (fun z=>G (by simp [z])) q) U⟩
 self:=fun _ _ _ _ _ st h=>by
  obtain⟨⟨old,J⟩,_⟩:=st
  exact wpAny_pyIter_enum J h
section
variable {X:Cx}{a:Expr}{ta:TA}{el:List Expr}{x1}{tp p pos:Pos}
noncomputable def Amv (K:Frag) (ta:TA):TI:=fun σ H R=>ta σ H fun vs H1=>∃a,vs=[.ref a]/\(∃xs,SqL K H1 a xs)/\R (Aly K a) H1
theorem Ae1 (U:Gl X "enumerate") (W:X.mg "enumerate"=none) (Z:PA X [a] ta) (hs:starEach [a] X.env=[(false,eval a X.env)]:=by rfl):PI X (.Tuple el x1 tp) (.Call (.Name "enumerate" p) [a] [] pos) (Amv X.K ta):=by
 intro pins s σ H R I h
 refine Call_ (Lp I U W boot_enumerate (eW (thn (Z pos pins s σ H _ I h) fun us G ⟨vs,H1,M,r1,q1⟩=> ?_) hs rfl))
 obtain⟨b,rfl,⟨xs,hq⟩,q⟩:=q1
 obtain⟨v,rfl,rv⟩:=vals1 r1
 cases rv
 obtain⟨a0,rr,pl,hz⟩:=M.list hq
 refine call_enumerate_list (Nq pl) fun h' O hj a1 hk=> ?_
 have I2:Inv X pins σ H1 { G with heap:=h'}:=M.kept (t':=G.toks) hk
 refine wpAny_pyIter_enum O ⟨G.heap.objs.size+1,[G.heap.objs.size+1,G.heap.objs.size],_,_,H1,rfl,I2,Ad6 b _ _ (eI (iQ _)),⟨⟨_,O⟩,hj⟩,fun c J=> ?_,q⟩
 have L:G.heap.objs.size<=c:=by
  rcases aQ.mp J with rfl | J
  . exact fV _
  . have z:c=G.heap.objs.size:=by simpa using J
    exact eJ z.symm
 exact M.fpOk L (M.hok.fresh L)
end
theorem Alh {K:Frag}{ta:TA}{R:It->Hp->Prop}:Amv K ta σ H R=ta σ H (fun q H1=>∃a,q=[.ref a]/\(∃xs,SqL K H1 a xs)/\R (Aly K a) H1):=rfl
theorem Aiw {K:Frag}{g:TG}{tb:TS}{D:Ends}{α:Type}{es:List α}{inj:α->V} (J:List α->St->Hp->Prop) (Z:J [] σ H) (hw:∀G σ H,J G σ H->SqL K H a (es.map inj))
 (hs:∀G e L σ H p,es=G++e::L->J G σ H->H p=none->g (.ref p) σ (upd H p (.tup [.int (G.length:Nat),inj e])) fun O H2=>tb { D with nx:=J (G++ [e]),ct:=J (G++ [e]),bk:=D.nx} O H2) (hd:∀σ H,J es σ H->D.nx σ H):FI (Aly K a) g tb D σ H:=by
 refine⟨fun i m σ H=>m=es.length-i/\i<=es.length/\J (es.take i) σ H,⟨es.length,by simp,bO _,Z⟩,?_⟩
 rintro i m σ H ⟨rfl,hi,p⟩
 have w:=hw _ _ _ p
 cases he:es[i]? with
 | none=>
   have e:i=es.length:=fI hi (cC.mp he)
   subst e
   rw [fT]at p
   exact .inl ⟨⟨_,w,by rw [aB];exact aH _⟩,hd _ _ p⟩
 | some e=>
   obtain⟨M,ee⟩:=bL.mp he
   have tk:es.take (i+1)=es.take i++ [e]:=by rw [iH,he];rfl
   have sp:es=es.take i++e::es.drop (i+1):=by
    rw [<-ee,<-gU M,dH]
   refine .inr ⟨⟨_,inj e,w,by rw [aZ,he];rfl⟩,J (es.take i++ [e]),fun a0 H' q=>⟨es.length-(i+1),by omega,rfl,M,by rw [tk];exact q⟩,fun x H' y=> ?_⟩
   obtain⟨b,v,y1,y2,rfl,rfl⟩:=y
   have U:=y1 _ w
   rw [aZ,he]at U
   obtain rfl:inj e=v:=bE U
   have hl:(es.take i).length=i:=by rw [bT];omega
   have z:=hs _ e _ σ H b sp p y2
   rw [hl]at z
   exact z
section
variable {c:TT}{tb:TS}{D:Ends}{σ:St}{H:Hp}
noncomputable def WM (Pv:Nat->St->Hp->Prop) (tb:TS) (D:Ends) (m:Nat) (σ:St) (H:Hp):Prop:=∃N:St->Hp->Prop,(∀σ' H',N σ' H'->∃m',m'<m/\Pv m' σ' H')/\tb { D with nx:=N,ct:=N,bk:=D.nx} σ H
theorem Ach {J:Nat->St->Hp->Prop}{m:Nat} (h:tb { D with nx:=fun q H'=>∃G,G<m/\J G q H',ct:=fun q H'=>∃G,G<m/\J G q H',bk:=D.nx} σ H):WM J tb D m σ H:=⟨_,fun _ _ z=>z,h⟩
theorem Oo (q:Nat->St->Hp->Prop) (G:Nat) (J:q G σ H) (L:∀m σ H,q m σ H->c σ H fun b H1=>if b=true then WM q tb D m σ H1 else D.nx σ H1):Wq c tb D σ H:=⟨q,⟨G,J⟩,L⟩
end
noncomputable def It1 (t:Bool) (h:Heap) (j u:Addr) (k:Nat):Prop:=if t=true then h.IsTupleIter j u k else h.IsListIter j u k
noncomputable def Sq1 (t:Bool) (h:Heap) (u:Addr) (xs:Array Value):Prop:=if t=true then h.IsTuple u xs else h.IsList u xs
variable {b:Addr}
theorem It1.ext {t:Bool}{g:Heap}{j u:Addr}{k:Nat} (x:It1 t h j u k) (e:Heap.ExtBut b h g) (n:j≠b):It1 t g j u k:=by
 cases t
 . exact Heap.IsListIter.extBut x e n
 . exact Heap.IsTupleIter.extBut x e n
theorem It1.to {t:Bool}{g:Heap}{j u:Addr}{k:Nat} (x:It1 t h j u k) (e:∀o,h.get? j=some o->g.get? j=some o):It1 t g j u k:=by
 cases t
 . exact Heap.IsListIter.at x e
 . exact Heap.IsTupleIter.at x e
variable {xs:Array Value}
theorem Sq1.ext {t:Bool}{g:Heap}{u:Addr} (x:Sq1 t h u xs) (e:Heap.ExtBut b h g) (n:u≠b):Sq1 t g u xs:=by
 cases t
 . exact Heap.IsList.extBut x e n
 . exact Heap.IsTuple.extBut x e n
theorem It1.there {t:Bool}{j u:Addr}{k:Nat} (x:It1 t h j u k):∃o,h.get? j=some o/\∀v,o.data≠ .cell v:=by
 cases t
 . obtain⟨o,e,_,d⟩:=(show h.IsListIter j u k from x)
   exact⟨o,e,fun v z=>by rw [d]at z;cases z⟩
 . obtain⟨o,e,_,d⟩:=(show h.IsTupleIter j u k from x)
   exact⟨o,e,fun v z=>by rw [d]at z;cases z⟩
variable {G L O:Addr}
section
variable {prog:Program}{w:World}{A:Around}{E:Value->Shared->Prop}{s:Shared}
theorem Agc {t:Bool}{j u:Addr}{k:Nat}{y:Value}{Q:Value->Shared->Prop} (q:It1 t s.heap j u k) (G:Sq1 t s.heap u xs) (J:xs[k]? =some y)
 (c:∀g,It1 t g j u (k+1)->Heap.SameBut j s.heap g->Q y { s with heap:=g}):wpAny (model prog w) A (Builtin.SmallTypes.nextOf (.ref j)) Q E s:=by
 cases t
 . exact wpAny_nextOf_list_item q G J c
 . exact nextT q G J c
theorem R5 {t:Bool}{j u:Addr}{k:Nat}{Q:Value->Shared->Prop} (q:A.handled=none) (G:It1 t s.heap j u k) (J:Sq1 t s.heap u xs) (L:xs[k]? =none)
 (c:∀g e,Heap.ExtBut j s.heap g->(∃o,g.get? e=some o/\o.cls= .type "StopIteration")->E (.ref e) { s with heap:=g}):wpAny (model prog w) A (Builtin.SmallTypes.nextOf (.ref j)) Q E s:=by
 cases t
 . exact wpAny_nextOf_list_end q G J L c
 . exact Aat q G J L c
theorem Acl {t1 t2:Bool}{TI TO M u1 u2:Addr}{k1 k2:Nat}{xs ys:Array Value}{x y p q:Value}{Q:Value->Shared->Prop} (D:ZipApart G TI TO L M u1 u2)
 (hz:IsZip s.heap G TI TO .none) (a3:IsPair s.heap TI (.ref L) (.ref M)) (a4:IsPair s.heap TO p q) (j1:It1 t1 s.heap L u1 k1) (j2:It1 t2 s.heap M u2 k2) (a1:Sq1 t1 s.heap u1 xs) (a2:Sq1 t2 s.heap u2 ys) (hx:xs[k1]? =some x) (hy:ys[k2]? =some y)
 (c:∀g,IsZip g G TI TO (rawInt s.heap.objs.size)->IsPair g TO x y->It1 t1 g L u1 (k1+1)->It1 t2 g M u2 (k2+1)->IsPair g s.heap.objs.size x y->g.objs.size=s.heap.objs.size+1->
   (∀b o,b≠G->b≠TO->b≠L->b≠M->s.heap.get? b=some o->g.get? b=some o)->Q (.ref s.heap.objs.size) { s with heap:=g}):
 wpAny (model prog w) A (Builtin.«zip.__next__» ⟨[.ref G],[]⟩) (fun a5 s'=>∃v,a5= .done (.ret v)/\Q v s') E s:=by
 show wpAny _ _ (field (.ref G) 2>>=_) _ _ s
 refine aA (dE hz rfl (x:= .bool false) rfl ?z1)
 case z1=>
 show wpAny _ _ (field (.ref G) 3>>=_) _ _ s
 refine aA (dE hz rfl (x:= .ref TI) rfl (aA (dZ a3 rfl ?z2)))
 case z2=>
 show wpAny _ _ (Builtin.SmallTypes.ownedTupleIsFree (.ref G)>>=_) _ _ s
 refine aA (m:=Builtin.SmallTypes.ownedTupleIsFree (.ref G)) ?z3
 case z3=>
 unfold Builtin.SmallTypes.ownedTupleIsFree;refine aA (dE hz rfl (x:= .none) rfl (aE ?z4))
 case z4=>
 simp only [gG];refine aA (jL (aA (dE hz rfl (x:= .ref TO) rfl (aA (dF hz (by simp) fun g1 (z1:IsZip g1 G TI TO .ellipsis) O=> ?z5)))))
 case z5=>
 refine aA ?z6
 case z6=>
 simp only [hG,jR,zipIdx_cons,List.zipIdx_nil]
 refine aA (aA (wpAny_onRaise ?z7))
 case z7=>
 show wpAny _ _ (Builtin.SmallTypes.nextOf (.ref L)>>=_) _ _ { s with heap:=g1}
 refine aA (Agc (j1.ext O.extBut D.i1z) (a1.ext O.extBut D.l1z) hx fun g2 n1 W=>aE ?z8)
 case z8=>
 have o2:IsPair g2 TO p q:=W.extBut _ _ D.TOi1 (O.extBut _ _ D.TOz a4)
 refine aA (dZ o2 rfl (aA (wpAny_updateSeq_pair o2 fun g3 (o3:IsPair g3 TO x q) Z=>aA (iN (aE (aA (aA (wpAny_onRaise ?z9))))))))
 case z9=>
 show wpAny _ _ (Builtin.SmallTypes.nextOf (.ref M)>>=_) _ _ { s with heap:=g3}
 refine aA (Agc (((j2.ext O.extBut D.i2z).ext W.extBut D.i12.symm).ext Z.extBut D.TOi2.symm) (((a2.ext O.extBut D.l2z).ext W.extBut D.l2i1).ext Z.extBut D.l2TO) hy fun g4 n2 b4=>aE ?z10)
 case z10=>
 have o4:IsPair g4 TO x q:=b4.extBut _ _ D.TOi2 o3
 refine aA (dZ o4 rfl (aA (wpAny_updateSeq_pair o4 fun J (o5:IsPair J TO x y) b5=>aA (iN (aE (aE (aA (dZ o5 rfl (aA (wpAny_newTuple ?z11))))))))))
 case z11=>
 have sz:J.objs.size=s.heap.objs.size:=by rw [b5.1,b4.1,Z.1,W.1,O.1]
 have z5:IsZip J G TI TO .ellipsis:=b5.extBut _ _ D.TOz.symm (b4.extBut _ _ D.i2z.symm (Z.extBut _ _ D.TOz.symm (W.extBut _ _ D.i1z.symm z1)))
 have k5:∀b o,b≠G->b≠TO->b≠L->b≠M->s.heap.get? b=some o->J.get? b=some o:=fun b o U c2 c3 c4 e=>b5.extBut _ _ c2 (b4.extBut _ _ c4 (Z.extBut _ _ c2 (W.extBut _ _ c3 (O.extBut _ _ U e))))
 have m1:It1 t1 J L u1 (k1+1):=((n1.ext Z.extBut D.TOi1.symm).ext b4.extBut D.i12).ext b5.extBut D.TOi1.symm
 have m2:It1 t2 J M u2 (k2+1):=n2.ext b5.extBut D.TOi2.symm
 have a0:G<J.objs.size:=aM z5
 show wpAny _ _ (Builtin.SmallTypes.ownedTupleHandOut (.ref G) (.ref J.objs.size)>>=_) _ _ _
 refine aA (m:=Builtin.SmallTypes.ownedTupleHandOut (.ref G) (.ref J.objs.size)) ?z12
 case z12=>
 unfold Builtin.SmallTypes.ownedTupleHandOut
 have z6:IsZip (J.push { cls:= .type "tuple",data:= .seq #[x,y]}) G TI TO .ellipsis:=aC _ z5
 refine aA (dF z6 (by simp) fun g7 (z7:IsZip g7 G TI TO (rawInt J.objs.size)) b7=>dF z7 (by simp) fun g8 (z8:IsZip g8 G TI TO (rawInt J.objs.size)) b8=> ?z13)
 case z13=>
 have up:∀b o,b≠G->J.get? b=some o->g8.get? b=some o:=fun b o U e=>b8.extBut _ _ U (b7.extBut _ _ U (aC _ e))
 have t8:IsPair g8 J.objs.size x y:=b8.extBut _ _ (eI a0) (b7.extBut _ _ (eI a0) (aN _ rfl))
 have w8:g8.objs.size=J.objs.size+1:=by rw [b8.1,b7.1,dO]
 rw [sz]at z8 t8 w8
 refine aE ⟨_,rfl,?z14⟩
 case z14=>
 show Q (.ref J.objs.size) _
 rw [sz]
 exact c g8 z8 (up _ _ D.TOz o5) (m1.to fun o e=>up _ o D.i1z e) (m2.to fun o e=>up _ o D.i2z e) t8 w8 fun b o U c2 c3 c4 e=>up b o U (k5 b o U c2 c3 c4 e)
theorem Aea {t1 t2:Bool}{J TI TO W Z u1 u2:Addr}{k1 k2:Nat}{xs ys:Array Value}{p q:Value}{Q:Fin->Shared->Prop} (hh:A.handled=none) (D:ZipApart J TI TO W Z u1 u2)
 (hz:IsZip s.heap J TI TO .none) (a0:IsPair s.heap TI (.ref W) (.ref Z)) (a3:IsPair s.heap TO p q) (j1:It1 t1 s.heap W u1 k1) (j2:It1 t2 s.heap Z u2 k2) (a1:Sq1 t1 s.heap u1 xs) (a2:Sq1 t2 s.heap u2 ys) (he:xs[k1]? =none\/ys[k2]? =none)
 (c:∀g e,(∀b o,b≠J->b≠TO->b≠W->b≠Z->s.heap.get? b=some o->g.get? b=some o)->(∃o,g.get? e=some o/\o.cls= .type "StopIteration")->E (.ref e) { s with heap:=g}):
 wpAny (model prog w) A (Builtin.«zip.__next__» ⟨[.ref J],[]⟩) Q E s:=by
 show wpAny _ _ (field (.ref J) 2>>=_) _ _ s
 refine aA (dE hz rfl (x:= .bool false) rfl ?z1)
 case z1=>
 show wpAny _ _ (field (.ref J) 3>>=_) _ _ s
 refine aA (dE hz rfl (x:= .ref TI) rfl (aA (dZ a0 rfl ?z2)))
 case z2=>
 show wpAny _ _ (Builtin.SmallTypes.ownedTupleIsFree (.ref J)>>=_) _ _ s
 refine aA (m:=Builtin.SmallTypes.ownedTupleIsFree (.ref J)) ?z3
 case z3=>
 unfold Builtin.SmallTypes.ownedTupleIsFree;refine aA (dE hz rfl (x:= .none) rfl (aE ?z4))
 case z4=>
 simp only [gG];refine aA (jL (aA (dE hz rfl (x:= .ref TO) rfl (aA (dF hz (by simp) fun g1 (z1:IsZip g1 J TI TO .ellipsis) M=> ?z5)))))
 case z5=>
 refine aA ?z6
 case z6=>
 simp only [hG,jR,zipIdx_cons,List.zipIdx_nil]
 refine aA (aA (wpAny_onRaise ?z7))
 case z7=>
 show wpAny _ _ (Builtin.SmallTypes.nextOf (.ref W)>>=_) _ _ { s with heap:=g1}
 cases hx:xs[k1]? with
 | none=>
   refine aA (R5 hh (j1.ext M.extBut D.i1z) (a1.ext M.extBut D.l1z) hx fun g2 e O ⟨oe,G,L⟩=> ?_)
   have z2:IsZip g2 J TI TO .ellipsis:=O _ _ D.i1z.symm z1
   have ne:e≠J:=fun y=>by subst y;rw [z2]at G;cases G;simp at L
   exact dF z2 (by simp) fun g3 _ U=>c g3 e (fun b o c1 _ c3 _ y=>U.extBut _ _ c1 (O _ _ c3 (M.extBut _ _ c1 y))) ⟨oe,U.extBut _ _ ne G,L⟩
 | some x=>
   have hy:ys[k2]? =none:=by
    rcases he with h | h
    . rw [hx]at h;cases h
    . exact h
   refine aA (Agc (j1.ext M.extBut D.i1z) (a1.ext M.extBut D.l1z) hx fun g2 n1 O=>aE ?_)
   have o2:IsPair g2 TO p q:=O.extBut _ _ D.TOi1 (M.extBut _ _ D.TOz a3)
   refine aA (dZ o2 rfl (aA (wpAny_updateSeq_pair o2 fun g3 o3 U=>aA (iN (aE (aA (aA (wpAny_onRaise ?z9))))))))
   case z9=>
   show wpAny _ _ (Builtin.SmallTypes.nextOf (.ref Z)>>=_) _ _ { s with heap:=g3}
   refine aA (R5 hh (((j2.ext M.extBut D.i2z).ext O.extBut D.i12.symm).ext U.extBut D.TOi2.symm) (((a2.ext M.extBut D.l2z).ext O.extBut D.l2i1).ext U.extBut D.l2TO) hy fun g4 e b4 ⟨oe,G,L⟩=> ?_)
   have z4:IsZip g4 J TI TO .ellipsis:=b4 _ _ D.i2z.symm (U.extBut _ _ D.TOz.symm (O.extBut _ _ D.i1z.symm z1))
   have ne:e≠J:=fun y=>by subst y;rw [z4]at G;cases G;simp at L
   exact dF z4 (by simp) fun g5 _ b5=>c g5 e (fun b o c1 c2 c3 c4 y=>b5.extBut _ _ c1 (b4 _ _ c4 (U.extBut _ _ c2 (O.extBut _ _ c3 (M.extBut _ _ c1 y))))) ⟨oe,b5.extBut _ _ ne G,L⟩
theorem Acm {U W:Bool}{TI TO J M:Addr}{Z k2:Nat}{xs ys:Array Value}{x y p q:Value}{Q:Option Value->Shared->Prop} (D:ZipApart G TI TO J L M O)
 (hz:IsZip s.heap G TI TO .none) (a0:IsPair s.heap TI (.ref J) (.ref L)) (a3:IsPair s.heap TO p q) (j1:It1 U s.heap J M Z) (j2:It1 W s.heap L O k2) (a1:Sq1 U s.heap M xs) (a2:Sq1 W s.heap O ys) (hx:xs[Z]? =some x) (hy:ys[k2]? =some y)
 (c:∀g,IsZip g G TI TO (rawInt s.heap.objs.size)->IsPair g TO x y->It1 U g J M (Z+1)->It1 W g L O (k2+1)->IsPair g s.heap.objs.size x y->g.objs.size=s.heap.objs.size+1->
   (∀b o,b≠G->b≠TO->b≠J->b≠L->s.heap.get? b=some o->g.get? b=some o)->Q (some (.ref s.heap.objs.size)) { s with heap:=g}):wpAny (model prog w) A (pyNext (.ref G)) Q E s:=by
 have ty:s.TypeIs (.ref G) "zip":=⟨_,hz,rfl⟩
 unfold pyNext
 exact aA (gL (cU (name:=Str.ofString "__next__") ty F.slot_zip_next (cN F.slot_zip_next ty F.entry_zip_next
  (Acl D hz a0 a3 j1 j2 a1 a2 hx hy fun g b1 b2 b3 b4 b5 b6 b7=>aE (c g b1 b2 b3 b4 b5 b6 b7)) (F.args_zip_next_1 _))))
theorem Acn {Z t2:Bool}{TI TO J M:Addr}{k1 k2:Nat}{xs ys:Array Value}{p q:Value}{Q:Option Value->Shared->Prop} (hh:A.handled=none) (D:ZipApart G TI TO J L M O)
 (hz:IsZip s.heap G TI TO .none) (U:IsPair s.heap TI (.ref J) (.ref L)) (W:IsPair s.heap TO p q) (j1:It1 Z s.heap J M k1) (j2:It1 t2 s.heap L O k2) (a1:Sq1 Z s.heap M xs) (a2:Sq1 t2 s.heap O ys) (he:xs[k1]? =none\/ys[k2]? =none)
 (c:∀g,(∀b o,b≠G->b≠TO->b≠J->b≠L->s.heap.get? b=some o->g.get? b=some o)->Q none { s with heap:=g}):wpAny (model prog w) A (pyNext (.ref G)) Q E s:=by
 have ty:s.TypeIs (.ref G) "zip":=⟨_,hz,rfl⟩
 unfold pyNext
 refine aA (gL (cU (name:=Str.ofString "__next__") ty F.slot_zip_next (cN F.slot_zip_next ty F.entry_zip_next (Aea hh D hz U W j1 j2 a1 a2 he fun g e hk ⟨o,ho,hc⟩=> ?_) (F.args_zip_next_1 _))))
 exact aA (lE (T:="StopIteration") (b:=true) ⟨o,ho,hc⟩ isSubtype_stop (aE (c _ hk)))
end
noncomputable def Ai3 (t:Bool):String:=if t=true then "tuple_iterator" else "list_iterator"
noncomputable abbrev Uh (t:Bool) (u:Addr):Obj:={ cls:= .type (Ai3 t),data:= .fields #[.ref u,.int 0 0]}
theorem iter1 {prog:Program}{w:World}{A:Around}{E:Value->Shared->Prop}{t:Bool}{u:Addr}{Q:Value->Shared->Prop} (h:Sq1 t s.heap u xs) (q:Q (.ref s.heap.objs.size) { s with heap:=s.heap.push (Uh t u)}):wpAny (model prog w) A (pyIter (.ref u)) Q E s:=by
 cases t
 . exact gS h q
 . exact kH h q
theorem Aaa {t:Bool}{u j:Addr}{g:Heap} (e:g.get? j=some (Uh t u)):It1 t g j u 0:=by
 cases t
 . exact⟨_,e,rfl,rfl⟩
 . exact⟨_,e,rfl,rfl⟩
theorem Sq1.push {t:Bool}{h:Heap}{u:Addr}{xs:Array Value} (x:Sq1 t h u xs) (o:Obj):Sq1 t (h.push o) u xs:=by
 cases t
 . exact Heap.IsList.push x _
 . obtain⟨q,e,r⟩:=(show h.IsTuple u xs from x)
   exact⟨q,aC _ e,r⟩
noncomputable abbrev zA1 (t1:Bool) (h:Heap) (u1:Addr):Heap:=h.push (Uh t1 u1)
noncomputable abbrev zA2 (t1 t2:Bool) (h:Heap) (u1 u2:Addr):Heap:=(zA1 t1 h u1).push (Uh t2 u2)
noncomputable abbrev zA3 (t1 t2:Bool) (h:Heap) (u1 u2:Addr):Heap:=(zA2 t1 t2 h u1 u2).push { cls:= .type "tuple",data:= .seq #[.ref h.objs.size,.ref (zA1 t1 h u1).objs.size]}
noncomputable abbrev zA4 (t1 t2:Bool) (h:Heap) (u1 u2:Addr):Heap:=(zA3 t1 t2 h u1 u2).push { cls:= .type "tuple",data:= .seq #[.none,.none]}
noncomputable abbrev zA5 (t1 t2:Bool) (h:Heap) (u1 u2:Addr):Heap:=(zA4 t1 t2 h u1 u2).push { cls:= .type "zip",data:= .fields #[.none,.bool false,.bool false,.ref (zA2 t1 t2 h u1 u2).objs.size,.ref (zA3 t1 t2 h u1 u2).objs.size]}
theorem Xl (G L:Bool) (q J:Addr) (xs ys:Array Value):
 Meets (Builtin.«zip.__new__» ⟨[.type "zip",.ref q,.ref J],[]⟩) (fun _ R s=>Sq1 G s.heap q xs/\Sq1 L s.heap J ys/\R (.ok (.ret (.ref (zA4 G L s.heap q J).objs.size))) { s with heap:=zA5 G L s.heap q J}):=
 .of_wp fun prog w A R s h=>by
  obtain⟨hp,g,d,tk,os⟩:=s;obtain⟨M,O,h⟩:=h
  have Z:=sub_zip
  have U:Sq1 G (Shared.heap ⟨hp,g,d,tk,os⟩) q xs:=M
  have W:Sq1 L (Shared.heap ⟨hp.push (Uh G q),g,d,tk,os⟩) J ys:=O.push _
  wp_walk using iter1 U,iter1 W
  exact⟨_,rfl,h⟩
variable {ys:Array Value}
theorem Y4 {prog:Program}{w:World}{A:Around}{E:Value->Shared->Prop}{G L:Bool}{q J:Addr}{Q:Value->Shared->Prop} (b1:Sq1 G s.heap q xs) (b2:Sq1 L s.heap J ys)
 (c:∀g,IsZip g (s.heap.objs.size+4) (s.heap.objs.size+2) (s.heap.objs.size+3) .none->IsPair g (s.heap.objs.size+2) (.ref s.heap.objs.size) (.ref (s.heap.objs.size+1))->IsPair g (s.heap.objs.size+3) .none .none->
   It1 G g s.heap.objs.size q 0->It1 L g (s.heap.objs.size+1) J 0->(∀b o,s.heap.get? b=some o->g.get? b=some o)->Q (.ref (s.heap.objs.size+4)) { s with heap:=g}):wpAny (model prog w) A (call (.type "zip") [.ref q,.ref J]) Q E s:=by
 refine callType_new F.called_zip (by decide) (F.typeCall_zip_2 _ _) (F.newCall_zip_2 _ _) (fun obj=>F.args_object_init_3 obj _ _) F.entry_zip_new (Xl G L q J xs ys) ⟨b1,b2,?_⟩
 have M:(zA1 G s.heap q).objs.size=s.heap.objs.size+1:=dO ..
 have O:(zA2 G L s.heap q J).objs.size=s.heap.objs.size+2:=by rw [dO,M]
 have U:(zA3 G L s.heap q J).objs.size=s.heap.objs.size+3:=by rw [dO,O]
 have Z:(zA4 G L s.heap q J).objs.size=s.heap.objs.size+4:=by rw [dO,U]
 have W:(zA5 G L s.heap q J).get? (zA4 G L s.heap q J).objs.size=some _:=aN _ rfl
 have e4:(zA5 G L s.heap q J).get? (zA3 G L s.heap q J).objs.size=some _:=aC _ (aN _ rfl)
 have e3:(zA5 G L s.heap q J).get? (zA2 G L s.heap q J).objs.size=some _:=aC _ (aC _ (aN _ rfl))
 have e2:(zA5 G L s.heap q J).get? (zA1 G s.heap q).objs.size=some (Uh L J):=aC _ (aC _ (aC _ (aN _ rfl)))
 have e1:(zA5 G L s.heap q J).get? s.heap.objs.size=some (Uh G q):=aC _ (aC _ (aC _ (aC _ (aN _ rfl))))
 show _/\_
 rw [O,U,Z]at W
 rw [M,O]at e3
 rw [U]at e4
 rw [M]at e2
 rw [Z]
 exact⟨⟨_,W,rfl⟩,c _ W e3 e4 (Aaa e1) (Aaa e2) fun b o x=>aC _ (aC _ (aC _ (aC _ (aC _ x))))⟩
noncomputable def SqB (t:Bool) (K:Frag) (H:Hp) (a:Addr) (xs:List V):Prop:=if t=true then SqT K H a xs else SqL K H a xs
variable {X:Cx}
theorem Inv.sqB {t:Bool}{xs:List V} (I:Inv X pins σ H s) (h:SqB t X.K H a xs):∃q:List Value,Vals xs q/\Sq1 t s.heap a q.toArray:=by
 cases t
 . obtain⟨q,r,p,_⟩:=I.list h
   exact⟨q,r,p.isList⟩
 . obtain⟨q,r,p,_⟩:=I.tuple h
   exact⟨q,r,p⟩
theorem Inv.sqB_inj {t:Bool}{xs ys:List V} (I:Inv X pins σ H s) (h:SqB t X.K H a xs) (h':SqB t X.K H a ys):xs=ys:=by
 cases t
 . exact I.list_inj h h'
 . exact I.tuple_inj h h'
noncomputable def Alz (t1 t2:Bool) (K:Frag) (a b:Addr):It:=
 ⟨fun i H=>∃xs ys x y,SqB t1 K H a xs/\SqB t2 K H b ys/\xs[i]? =some x/\ys[i]? =some y,
  fun i H x H'=>∃p u v,(∀xs,SqB t1 K H a xs->xs[i]? =some u)/\(∀ys,SqB t2 K H b ys->ys[i]? =some v)/\H p=none/\x= .ref p/\H'=upd H p (.tup [u,v]),
  fun i H=>∃xs ys,SqB t1 K H a xs/\SqB t2 K H b ys/\(xs.length<=i\/ys.length<=i)⟩
theorem Ab6 {P:Program}{w:World}{K:Frag}{el:List Expr}{x1}{tp:Pos} (t1 t2:Bool) (a b z TI TO U Z:Addr) (D:ZipApart z TI TO U Z a b):
 Turn P w K (.Tuple el x1 tp) (Alz t1 t2 K a b) [z,TI,TO,U,Z] z (fun i h=>IsZip h z TI TO .none/\IsPair h TI (.ref U) (.ref Z)/\(∃c d,IsPair h TO c d)/\It1 t1 h U a i/\It1 t2 h Z b i) where
 mem:=by simp
 obj:=fun i h st c hc=>by
  obtain⟨O,G,⟨u,v,L⟩,h1,h2⟩:=st
  simp only [aQ,not_mem_nil,or_false]at hc
  rcases hc with rfl | rfl | rfl | rfl | rfl
  . exact⟨_,O,fun v z=>by cases(show Data.fields _=Data.cell v from z)⟩
  . exact⟨_,G,fun v z=>by cases(show Data.seq _ _=Data.cell v from z)⟩
  . exact⟨_,L,fun v z=>by cases(show Data.seq _ _=Data.cell v from z)⟩
  . exact h1.there
  . exact h2.there
 keep:=fun i h h' st k=>by
  obtain⟨O,G,⟨u,v,L⟩,h1,h2⟩:=st
  exact⟨k z (by simp) _ O,k TI (by simp) _ G,⟨u,v,k TO (by simp) _ L⟩,h1.to fun o e=>k U (by simp) _ e,h2.to fun o e=>k Z (by simp) _ e⟩
 item:=by
  intro X hP hw hK hc i pins s σ H E I hf st hg
  subst hP hw hK
  obtain⟨xs,ys,x,y,a0,a7,hx,hy⟩:=hg
  obtain⟨ab,rv,p⟩:=I.sqB a0
  obtain⟨a9,a8,p2⟩:=I.sqB a7
  obtain⟨u,hu,ru⟩:=rv.get hx
  obtain⟨v,hv,ac⟩:=a8.get hy
  obtain⟨O,G,⟨c,d,L⟩,h1,h2⟩:=st
  refine Acm D O G L h1 h2 p p2 (x:=u) (y:=v) (by simpa using hu) (by simpa using hv) fun g a1 a2 a3 a4 a5 a6 hk=>⟨_,rfl,?_⟩
  refine wpAny_letOwnedTupleGo_zip a1 fun g2 ad M=> ?_
  replace M:Heap.SameBut z g g2:=M
  have lt:∀b∈ [z,TI,TO,U,Z],b≠s.heap.objs.size:=fun b J=>by
   obtain⟨o1,e1,_⟩:=h1.there
   obtain⟨o2,e2,_⟩:=h2.there
   simp only [aQ,not_mem_nil,or_false]at J
   rcases J with rfl | rfl | rfl | rfl | rfl
   . exact aV (aM O)
   . exact aV (aM G)
   . exact aV (aM L)
   . exact aV (aM e1)
   . exact aV (aM e2)
  have hn:H s.heap.objs.size=none:=I.fresh
  have I1:Inv X pins σ (upd H s.heap.objs.size (.tup [x,y])) { s with heap:=s.heap.push { cls:= .type "tuple",data:= .seq #[u,v]},toks:=s.toks}:=
   I.laid (fun b o q=>aC _ q) (aH _) ⟨by show 2<=sizeLine;decide,[u,v],.cons ru (.cons ac .nil),⟨_,aN _ rfl,rfl,_,rfl⟩⟩
  have aa:∀b∈ [z,TI,TO,U,Z],P0 X pins (upd H s.heap.objs.size (.tup [x,y])) b:=fun b J=>
   ⟨by rw [Bm (lt b J)];exact(hf b J).1,(hf b J).2⟩
  have I2:=I1.turnL (h':=g2) (t':=s.toks) (fp:=[z,TI,TO,U,Z]) (fun b o J q=>by
   have n1:b≠z:=fun e=>J (by simp [e])
   refine(M.2 b n1).trans ?_
   rcases jU q with⟨rfl,rfl⟩ | q0
   . exact a5
   . exact hk b o n1 (fun e=>J (by simp [e])) (fun e=>J (by simp [e])) (fun e=>J (by simp [e])) q0) aa
  refine⟨.ref s.heap.objs.size,_,I2,rfl,⟨_,x,y,fun zs O=>by rw [I.sqB_inj O a0];exact hx,fun zs O=>by rw [I.sqB_inj O a7];exact hy,hn,rfl,rfl⟩,⟨ad,?_,⟨u,v,M.extBut _ _ D.TOz a2⟩,a3.ext M.extBut D.i1z,a4.ext M.extBut D.i2z⟩,fun b J=>(aa b J).1⟩
  exact M.extBut _ _ D.TIz (hk _ _ D.TIz D.TITO D.TIi1 D.TIi2 G)
 done:=by
  intro X hP hw hK hc i pins s σ H E I hf st hg
  subst hP hw hK
  obtain⟨xs,ys,a0,a7,ae⟩:=hg
  obtain⟨ab,rv,p⟩:=I.sqB a0
  obtain⟨a9,a8,p2⟩:=I.sqB a7
  obtain⟨O,G,⟨c,d,L⟩,h1,h2⟩:=st
  have l1:=rv.length
  have l2:=a8.length
  exact Acn (I.ok.hd hc) D O G L h1 h2 p p2 (by
   rcases ae with h | h
   . exact .inl (by simp;omega)
   . exact .inr (by simp;omega)) fun g hk=>⟨rfl,I.turnL (t':=s.toks) (fp:=[z,TI,TO,U,Z]) (fun b o J q=>hk b o (fun e=>J (by simp [e])) (fun e=>J (by simp [e])) (fun e=>J (by simp [e])) (fun e=>J (by simp [e])) q) hf⟩
 self:=fun _ _ _ _ _ st h=>wpAny_pyIter_zip st.1 h
section
variable {X:Cx}{a b:Expr}{ta:TA}{el:List Expr}{x1}{tp p pos:Pos}
noncomputable def Af2 (t1 t2:Bool) (K:Frag) (ta:TA):TI:=fun σ H R=>ta σ H fun vs H1=>∃a b,vs=[.ref a,.ref b]/\(∃xs,SqB t1 K H1 a xs)/\(∃ys,SqB t2 K H1 b ys)/\R (Alz t1 t2 K a b) H1
theorem U5 (U W:Bool) (hg:Gl X "zip") (hm:X.mg "zip"=none) (ha:PA X [a,b] ta) (hs:starEach [a,b] X.env=[(false,eval a X.env),(false,eval b X.env)]:=by rfl) (J:starEach [b] X.env=[(false,eval b X.env)]:=by rfl):
 PI X (.Tuple el x1 tp) (.Call (.Name "zip" p) [a,b] [] pos) (Af2 U W X.K ta):=by
 intro pins s σ H R I h
 refine Call_ (Lp I hg hm boot_zip (eW (thn (ha pos pins s σ H _ I h) fun us G ⟨vs,H1,L,Z,q1⟩=> ?_) (by rw [hs,J]) (by rw [J];rfl)))
 obtain⟨u,v,rfl,⟨xs,a0⟩,⟨ys,a1⟩,q⟩:=q1
 obtain⟨v1,v2,rfl,Z,r2⟩:=vals2 Z
 cases Z
 cases r2
 obtain⟨a9,rx,px⟩:=L.sqB a0
 obtain⟨a8,ry,py⟩:=L.sqB a1
 have a2:u<G.heap.objs.size:=by
  cases U
  . obtain⟨o,e,_⟩:=(show G.heap.IsList u _ from px)
    exact aM e
  . obtain⟨o,e,_⟩:=(show G.heap.IsTuple u _ from px)
    exact aM e
 have a3:v<G.heap.objs.size:=by
  cases W
  . obtain⟨o,e,_⟩:=(show G.heap.IsList v _ from py)
    exact aM e
  . obtain⟨o,e,_⟩:=(show G.heap.IsTuple v _ from py)
    exact aM e
 refine Y4 px py fun h' hz a4 a5 a6 a7 hk=> ?_
 have I2:Inv X pins σ H1 { G with heap:=h'}:=L.kept (t':=G.toks) fun c o' e=>hk c o' e
 refine wpAny_pyIter_zip hz ⟨G.heap.objs.size+4,[G.heap.objs.size+4,G.heap.objs.size+2,G.heap.objs.size+3,G.heap.objs.size,G.heap.objs.size+1],_,_,H1,rfl,I2,Ab6 U W u v _ _ _ _ _ (zipApart_new a2 a3),⟨hz,a4,⟨_,_,a5⟩,a6,a7⟩,fun c M=> ?_,q⟩
 have O:G.heap.objs.size<=c:=by
  simp only [aQ,not_mem_nil,or_false]at M
  rcases M with rfl | rfl | rfl | rfl | rfl
  . exact iS _ 4
  . exact iS _ 2
  . exact iS _ 3
  . exact aH _
  . exact iS _ 1
 exact L.fpOk O (L.hok.fresh O)
end
theorem Ah0 {q G:Bool}{K:Frag}{ta:TA}{R:It->Hp->Prop}:Af2 q G K ta σ H R=ta σ H (fun J H1=>∃a b,J=[.ref a,.ref b]/\(∃xs,SqB q K H1 a xs)/\(∃ys,SqB G K H1 b ys)/\R (Alz q G K a b) H1):=rfl
set_option maxRecDepth 100000
noncomputable abbrev TB:=St->Hp->(St->Hp->Prop)->XK->Prop
end L2
namespace L2
open PySem PySem.Spec PySem.Calls PyProof.Rows
theorem O7:∀ {ns:List Int}{us:List Value},IntsAre us ns->Vals (ns.map V.int) us
 | _,_,.nil=> .nil
 | _,_,.cons _ t r=> .cons ⟨t,rfl⟩ (O7 r)
theorem Vu:∀ {ns:List Int}{vs:List Value},vs.length=ns.length->(∀(j:Nat) (v:Value),vs[j]? =some v->∃(i:Int) (t:Tok),ns[j]? =some i/\v= .int i t)->IntsAre vs ns
 | [],[],_,_=> .nil
 | [],_::_,h,_=>by simp at h
 | _::_,[],h,_=>by simp at h
 | n::ns,v::vs,h,k=>by
   obtain⟨i,t,q,rfl⟩:=k 0 v rfl
   have G:n=i:=by simpa using q
   subst G
   exact .cons n t (Vu (by simpa using h) fun j u J=>by
    obtain⟨i,t,e,L⟩:=k (j+1) u (by simpa using J)
    exact⟨i,t,by simpa using e,L⟩)
variable {kvs:List (Key × V)}
theorem KV.keysL {vs:List (Key × Value)} (r:KV kvs vs):kvs.map (·.1)=vs.map (·.1):=by
 unfold KV at r
 induction r with
 | nil=>rfl
 | cons h _ q=>rw [aU,aU,h.1,q]
open PySem PySem.Spec PyProof.Rows
variable {y:V}{u:Value}
section
variable {κ:Type} [DecidableEq κ]
noncomputable def Fe (kvs:List (κ × V)) (k:κ):Option V:=(kvs.find? fun kv=>decide (kv.1=k)).map (·.2)
noncomputable def putK (kvs:List (κ × V)) (k:κ) (v:V):List (κ × V):=
 if(kvs.any fun kv=>decide (kv.1=k))=true then kvs.map (fun kv=>if kv.1=k then(kv.1,v)else kv)else kvs++ [(k,v)]
noncomputable def Jp (kvs:List (κ × V)) (k:κ):List (κ × V):=kvs.filter fun kv=>decide (kv.1≠k)
theorem Cw {p:κ × V}{r:List (κ × V)}{k:κ} (e:p.1=k):Fe (p::r) k=some p.2:=by simp [Fe,hU,e]
theorem Cd {p:κ × V}{r:List (κ × V)}{k:κ} (e:¬p.1=k):Fe (p::r) k=Fe r k:=by simp [Fe,hU,e]
theorem Gm (k:κ):∀kvs:List (κ × V),(kvs.any fun q=>decide (q.1=k))=(Fe kvs k).isSome
 | []=>rfl
 | p::r=>by
   rw [gX]
   by_cases e:p.1=k
   . simp only [Cw e,cD e,Bool.true_or,jQ]
   . rw [Cd e,bZ e,Bool.false_or];exact Gm k r
theorem Wu (k j:κ) (y:V):∀kvs:List (κ × V),Fe (kvs.map fun q=>if q.1=k then(q.1,y)else q) j=(Fe kvs j).map fun x=>if j=k then y else x
 | []=>rfl
 | p::r=>by
   have G:=Wu k j y r
   rw [aU]
   by_cases h:p.1=k
   . rw [aI h]
     by_cases e:p.1=j
     . rw [Cw (p:=(p.1,y)) e,Cw e,kY,aI (e.symm.trans h)]
     . rw [Cd (p:=(p.1,y)) e,Cd e,G]
   . rw [aF h]
     by_cases e:p.1=j
     . rw [Cw (p:=p) e,Cw e,kY,aF (fun z=>h (e.trans z))]
     . rw [Cd (p:=p) e,Cd e,G]
theorem Td (k j:κ) (y:V):∀kvs:List (κ × V),Fe kvs k=none->Fe (kvs++ [(k,y)]) j=if j=k then some y else Fe kvs j
 | [],_=>by
   by_cases e:k=j
   . rw [aI e.symm];exact Cw (p:=(k,y)) e
   . rw [aF (fun z=>e z.symm)];exact Cd (p:=(k,y)) e
 | p::r,hn=>by
   rw [cons_append]
   have q:¬p.1=k:=fun z=>by rw [Cw z]at hn;cases hn
   rw [Cd q]at hn
   have G:=Td k j y r hn
   by_cases e:p.1=j
   . rw [Cw e,Cw e,aF (fun z=>q (e.trans z))]
   . rw [Cd e,Cd e,G]
theorem Kh (kvs:List (κ × V)) (k j:κ) (y:V):Fe (putK kvs k y) j=if j=k then some y else Fe kvs j:=by
 unfold putK
 by_cases a:(kvs.any fun G=>decide (G.1=k))=true
 . rw [aI a,Wu]
   rw [Gm]at a
   by_cases e:j=k
   . obtain⟨x,J⟩:=Option.isSome_iff_exists.mp a
     rw [aI e,e,J,kY,aI rfl]
   . rw [aF e]
     cases Fe kvs j with
     | none=>rfl
     | some x=>rw [kY,aF e]
 . rw [aF a]
   refine Td k j y kvs ?_
   rw [Gm]at a
   cases q:Fe kvs k with
   | none=>rfl
   | some x=>rw [q]at a;exact(a rfl).elim
theorem Jr (kvs:List (κ × V)) (k:κ) (v:V):(putK kvs k v).length<=kvs.length+1:=by
 unfold putK
 split
 . rw [aB];omega
 . rw [aL,bU,dX];omega
theorem Qz {kvs:List (κ × V)}{k:κ} (v:V) (h:Fe kvs k=none):putK kvs k v=kvs++ [(k,v)]:=by
 unfold putK
 rw [Gm,h]
 exact aF (by decide)
theorem Vi.isSome_eq {o:Option V}{u:Option Value} (r:Vi o u):o.isSome=u.isSome:=by
 cases o with
 | none=>cases u with
   | none=>rfl
   | some _=>exact(show False from r).elim
 | some _=>cases u with
   | none=>exact(show False from r).elim
   | some _=>rfl
theorem Vi.getD {o:Option V}{u:Option Value}{d:V}{d':Value} (r:Vi o u) (q:RelV d d'):RelV (o.getD d) (u.getD d'):=by
 cases o with
 | none=>cases u with
   | none=>exact q
   | some _=>exact(show False from r).elim
 | some _=>cases u with
   | none=>exact(show False from r).elim
   | some _=>exact r
theorem KV.val {kvs:List (κ × V)}{vs:List (κ × Value)} (r:KV kvs vs) (k:κ):Vi (Fe kvs k) (valueAt vs k):=by
 unfold KV at r
 induction r with
 | nil=>exact True.intro
 | @cons p q ps G h t L=>
   obtain⟨h1,h2⟩:=h
   by_cases e:p.1=k
   . have J:q.1=k:=h1.symm.trans e
     have b:valueAt (q::G) k=some q.2:=by simp [valueAt,hU,J]
     rw [Cw e,b];exact h2
   . have J:¬q.1=k:=fun z=>e (h1.trans z)
     have b:valueAt (q::G) k=valueAt G k:=by simp [valueAt,hU,J]
     rw [Cd e,b];exact L
theorem KV.any {kvs:List (κ × V)}{vs:List (κ × Value)} (r:KV kvs vs) (k:κ):(kvs.any fun q=>decide (q.1=k))=vs.any fun q=>decide (q.1=k):=by
 unfold KV at r
 induction r with
 | nil=>rfl
 | cons h t G=>rw [gX,gX,G,h.1]
theorem KV.repl {kvs:List (κ × V)}{vs:List (κ × Value)} (r:KV kvs vs) (k:κ)  (J:RelV y u):
 KV (kvs.map fun G=>if G.1=k then(G.1,y)else G) (vs.map fun G=>if G.1=k then(G.1,u)else G):=by
 unfold KV at r ⊢
 induction r with
 | nil=>exact .nil
 | @cons p q ps M h t L=>
   rw [aU,aU]
   refine .cons ?_ L
   obtain⟨h1,h2⟩:=h
   by_cases e:p.1=k
   . rw [aI e,aI (h1.symm.trans e)];exact⟨h1,J⟩
   . rw [aF e,aF (fun z=>e (h1.trans z))];exact⟨h1,h2⟩
theorem KV.put {kvs:List (κ × V)}{vs:List (κ × Value)} (r:KV kvs vs) (k:κ)  (q:RelV y u):KV (putK kvs k y) (stored vs k u):=by
 unfold putK stored
 rw [r.any k]
 by_cases e:(vs.any fun G=>decide (G.1=k))=true
 . rw [aI e,aI e];exact r.repl k q
 . rw [aF e,aF e];exact Paired.snoc r ⟨rfl,q⟩
theorem KV.drop {kvs:List (κ × V)}{vs:List (κ × Value)} (r:KV kvs vs) (k:κ):KV (Jp kvs k) (without vs k):=by
 unfold KV at r ⊢
 unfold Jp without
 induction r with
 | nil=>exact .nil
 | @cons p q ps L h t G=>
   obtain⟨h1,h2⟩:=h
   rw [kO,kO]
   by_cases e:p.1=k
   . have a:¬decide (p.1≠k)=true:=by simp [e]
     have b:¬decide (q.1≠k)=true:=by simp [h1.symm.trans e]
     rw [aF a,aF b];exact G
   . have J:¬q.1=k:=fun z=>e (h1.trans z)
     have a:decide (p.1≠k)=true:=by simp [e]
     have b:decide (q.1≠k)=true:=by simp [J]
     rw [aI a,aI b];exact .cons ⟨h1,h2⟩ G
theorem KV.length {kvs:List (κ × V)}{vs:List (κ × Value)} (r:KV kvs vs):kvs.length=vs.length:=jP r
theorem Ac4 (kvs:List (κ × V)) (k:κ):(Jp kvs k).length<=kvs.length:=dM _ _
end
variable {P:Program}{w:World}
theorem Xh {k:Key} (r:RelV (kV k) u):(Bs P w).is k u=true:=by
 cases k with
 | inl i=>obtain⟨t,e⟩:=(show ∃t,u=Value.int i t from r);subst e;exact Um P w i t
 | inr x=>obtain⟨t,e⟩:=(show ∃t,u=Value.str x t from r);subst e;exact Uo P w x t
theorem Ry {P:Program}{w:World}:∀ {ks:List Key}{us:List Value},Vals (ks.map kV) us->ItemsAre (Bs P w) ks us
 | [],_,r=>by rw [jN]at r;cases r;exact .nil
 | k::ks,_,r=>by
   rw [aU]at r
   cases r with
   | cons h t=>exact .cons (Xh h) (Ry t)
noncomputable abbrev KT (H:Hp):List (List Key × V)->List (List Key × Addr × Value)->Prop:=Paired fun p q=>p.1=q.1/\H q.2.1=some (.tup (p.1.map kV))/\RelV p.2 q.2.2
variable {H:Hp}
theorem KT.val {kvs:List (List Key × V)}{xs:List (List Key × Addr × Value)} (r:KT H kvs xs) (k:List Key):Vi (Fe kvs k) ((atKey xs k).map (·.2)):=by
 induction r with
 | nil=>exact True.intro
 | @cons p q ps G h t L=>
   obtain⟨h1,_,h2⟩:=h
   by_cases e:p.1=k
   . have J:q.1=k:=h1.symm.trans e
     have b:atKey (q::G) k=some q.2:=by simp [atKey,hU,J]
     rw [Cw e,b];exact h2
   . have J:¬q.1=k:=fun z=>e (h1.trans z)
     have b:atKey (q::G) k=atKey G k:=by simp [atKey,hU,J]
     rw [Cd e,b];exact L
theorem KT.repl {kvs:List (List Key × V)}{xs:List (List Key × Addr × Value)} (r:KT H kvs xs) (k:List Key)  (J:RelV y u):
 KT H (kvs.map fun G=>if G.1=k then(G.1,y)else G) (xs.map (putAt k u)):=by
 induction r with
 | nil=>exact .nil
 | @cons p q ps O h t L=>
   rw [aU,aU]
   refine .cons ?_ L
   obtain⟨h1,h2,M⟩:=h
   unfold putAt
   by_cases e:p.1=k
   . rw [aI e,aI (h1.symm.trans e)];exact⟨h1,h2,J⟩
   . rw [aF e,aF (fun z=>e (h1.trans z))];exact⟨h1,h2,M⟩
variable {b:Addr}
theorem KT.put {kvs:List (List Key × V)}{xs:List (List Key × Addr × Value)} (r:KT H kvs xs) (k:List Key)  (J:H b=some (.tup (k.map kV))) (G:RelV y u):
 KT H (putK kvs k y) (storedH xs k b u):=by
 have e:(kvs.any fun L=>decide (L.1=k))=(atKey xs k).isSome:=by
  rw [Gm,(r.val k).isSome_eq,Option.isSome_map]
 unfold putK storedH
 rw [e]
 by_cases q:(atKey xs k).isSome=true
 . rw [aI q,aI q];exact r.repl k G
 . rw [aF q,aF q];exact Paired.snoc r ⟨rfl,J,G⟩
variable {H':Hp}
theorem KT.keeps {kvs:List (List Key × V)}{xs:List (List Key × Addr × Value)} (r:KT H kvs xs) (q:∀b ys,H b=some (.tup ys)->H' b=some (.tup ys)):KT H' kvs xs:=
 Paired.mapP r fun _ _ z=>⟨z.1,q _ _ z.2.1,z.2.2⟩
section
variable {P:Program}{w:World}{H:Hp}{h:Heap}{a:Addr}
theorem Akj {u:HO} (ok:HOk P w H h) (e:Rd H a u):Dk P w H h a u:=e.ok ok
theorem Xe (ok:HOk P w H h) (e:Rd H a (.dK kvs)):kvs.length<=sizeLine/\(a==sysModules)=false/\∃q,KV kvs q/\h.DictOf (Bs P w) a q:=
 show Dk P w H h a (.dK kvs)from Akj ok e
theorem Aiq (ok:HOk P w H h) (e:H a=some (.dK kvs)):kvs.length<=sizeLine/\(a==sysModules)=false/\∃q,KV kvs q/\h.DictOf (Bs P w) a q:=Xe ok (.inl e)
theorem V0 {ks:List Key} (ok:HOk P w H h) (e:H a=some (.tup (ks.map kV))):(tupleKind (Bs P w)).is h ks a:=by
 obtain⟨_,q,r,o,h1,h2,n,G⟩:=(show Dk P w H h a (.tup (ks.map kV))from ok a _ e)
 exact⟨o,q.toArray,n,h1,h2,G,by simpa using Ry r⟩
theorem Zt {kvs:List (List Key × V)} (ok:HOk P w H h) (e:Rd H a (.dT kvs)):kvs.length<=sizeLine/\(a==sysModules)=false/\
 ∃xs,KT H kvs xs/\h.DictOfH (tupleKind (Bs P w)) a xs:=by
 obtain⟨z,y,xs,r,o,es,ep,h1,h2,L,M,O⟩:=(show Dk P w H h a (.dT kvs)from Akj ok e)
 refine⟨z,y,xs,r,o,es,ep,h1,h2,L,M,fun x G=> ?_,O⟩
 have all:∀ {l:List (List Key × V)}{m:List (List Key × Addr × Value)},KT H l m->∀x∈m,(tupleKind (Bs P w)).is h x.1 x.2.1:=by
  intro l m q
  induction q with
  | nil=>intro x G;exact nomatch G
  | @cons p q ps W J t U=>
    intro x G
    rcases aQ.mp G with e | G
    . subst e
      exact V0 ok (by rw [<-J.1];exact J.2.1)
    . exact U x G
 exact all r x G
theorem Aml {kvs:List (List Key × V)} (ok:HOk P w H h) (e:H a=some (.dT kvs)):kvs.length<=sizeLine/\(a==sysModules)=false/\
 ∃xs,KT H kvs xs/\h.DictOfH (tupleKind (Bs P w)) a xs:=Zt ok (.inl e)
end
noncomputable def Ro (H:Hp) (a:Addr) (y:V) (r:Option V):Prop:=
 (∃kvs k,Rd H a (.dK kvs)/\y=kV k/\r=Fe kvs k)\/∃kvs k b,Rd H a (.dT kvs)/\y= .ref b/\H b=some (.tup (k.map kV))/\r=Fe kvs k
noncomputable def Aco (H:Hp) (a:Addr) (y v:V) (H':Hp):Prop:=
 (∃kvs k,H a=some (.dK kvs)/\y=kV k/\kvs.length<sizeLine/\H'=upd H a (.dK (putK kvs k v)))\/
 ∃kvs k b,H a=some (.dT kvs)/\y= .ref b/\H b=some (.tup (k.map kV))/\kvs.length<sizeLine/\H'=upd H a (.dT (putK kvs k v))
theorem Ro.k {H:Hp}{a:Addr}{kvs:List (Key × V)}{k:Key} (e:H a=some (.dK kvs)):Ro H a (kV k) (Fe kvs k):= .inl ⟨kvs,k,.inl e,rfl,rfl⟩
variable {a:Addr}
theorem Ro.t {kvs:List (List Key × V)}{k:List Key} (e:H a=some (.dT kvs)) (q:H b=some (.tup (k.map kV))):Ro H a (.ref b) (Fe kvs k):= .inr ⟨kvs,k,b,.inl e,rfl,q,rfl⟩
theorem Aco.k {H:Hp}{a:Addr}{kvs:List (Key × V)}{k:Key}{v:V} (e:H a=some (.dK kvs)) (q:kvs.length<sizeLine):Aco H a (kV k) v (upd H a (.dK (putK kvs k v))):= .inl ⟨kvs,k,e,rfl,q,rfl⟩
theorem Aco.t {kvs:List (List Key × V)}{k:List Key}{v:V} (e:H a=some (.dT kvs)) (q:H b=some (.tup (k.map kV))) (G:kvs.length<sizeLine):
 Aco H a (.ref b) v (upd H a (.dT (putK kvs k v))):= .inr ⟨kvs,k,b,e,rfl,q,G,rfl⟩
variable {h':Heap}
section
variable {X:Cx}{pins:List (Addr × Obj)}{σ:St}{H:Hp}{s:Shared}{a:Addr}{y v:V}{u r:Value}{o:Option V}{A:Around}{E:Value->Shared->Prop}
theorem Inv.big (I:Inv X pins σ H s):sysModules<s.heap.objs.size:=by
 have h:mainGlobals<s.heap.objs.size:=(I.mod.glob.keeps I.bk).lt
 exact lt_trans (by decide) h
theorem Zg {Q:Value->Shared->Prop} (Z:A.units+1<cLine) (I:Inv X pins σ H s) (g:Ro H a y (some v)) (W:RelV y u) (h:∀J s',Inv X pins σ H s'->RelV v J->Q J s'):
 wpAny (model X.prog X.w) A (getItem (.ref a) u) Q E s:=by
 rcases g with⟨kvs,k,e,L,l⟩ | ⟨kvs,k,b,e,L,eb,l⟩
 . subst L
   obtain⟨z,hd,vs,q,M⟩:=Xe I.hok e
   obtain⟨J,O,G⟩:=Vi.some_of (v:=v) (o:=valueAt vs k) (by rw [l];exact q.val k)
   exact wpAny_getItem_of (Xh W) M.mapOf O (h J _ (I.tok _) G)
 . subst L
   cases(show u=Value.ref b from W)
   obtain⟨z,hd,xs,q,M⟩:=Zt I.hok e
   obtain⟨J,O,G⟩:=Vi.some_of (v:=v) (o:=(atKey xs k).map (·.2)) (by rw [l];exact q.val k)
   obtain⟨p,hp,U⟩:=iF.mp O
   refine wpAny_getItem_heap (tupleKind_room_in1 Z) (V0 I.hok eb) M hp ?_
   rw [U]
   exact h J _ (I.tok _) G
theorem Ua {t':Nat}{G:HO} (I:Inv X pins σ H s) (L:Mut (H a)) (M:Heap.SameBut a s.heap h') (O:∃q,h'.get? a=some q) (J:Dk X.prog X.w (upd H a G) h' a G):
 Inv X pins σ (upd H a G) { s with heap:=h',toks:=t'}:=
 I.write (x:=a) (e:=a) L (.inl rfl) (fun b q U z=>(M.2 b U).trans z) O J
theorem Aei {H':Hp}{vs:List (Key × Value)} (z:kvs.length<=sizeLine) (G:(a==sysModules)=false) (q:KV kvs vs) (J:h'.DictOf (Bs P w) a vs):
 Dk P w H' h' a (.dK kvs):=⟨z,G,vs,q,J⟩
theorem Zh {Q:Unit->Shared->Prop} (hu:A.units+1<cLine) (I:Inv X pins σ H s) (g:Aco H a y v H') (ry:RelV y u) (rv:RelV v r) (h:∀s',Inv X pins σ H' s'->Q () s'):
 wpAny (model X.prog X.w) A (setItem (.ref a) u r) Q E s:=by
 rcases g with⟨kvs,k,e,M,l,O⟩ | ⟨kvs,k,b,e,M,eb,l,O⟩
 . subst M O
   obtain⟨z,U,vs,G,W⟩:=Aiq I.hok e
   have Z:vs.length<=sizeLine:=by rw [<-G.length];exact z
   have hl:(putK kvs k v).length<=sizeLine:=by have:=Jr kvs k v;omega
   refine wpAny_setItem_pairs (hsz:=Z) (Xh ry) W fun h' J hs=>h _ ?_
   have he:∃q,h'.get? a=some q:=let ⟨q,_,_,L,_⟩:=J;⟨q,L⟩
   exact Ua I (by rw [e];exact True.intro) hs he (Aei hl U (G.put k rv) J)
 . subst M O
   cases(show u=Value.ref b from ry)
   obtain⟨z,U,xs,G,W⟩:=Aml I.hok e
   have Z:xs.length<=sizeLine:=by rw [<-jP G];exact z
   have hl:(putK kvs k v).length<=sizeLine:=by have:=Jr kvs k v;omega
   refine wpAny_setItem_heap (hsz:=Z) (tupleKind_room_in1 hu) (V0 I.hok eb) W fun h' J hs=>h _ ?_
   obtain⟨q,es,ep,L,h2,h3,h4,_,h5⟩:=J
   refine Ua I (by rw [e];exact True.intro) hs ⟨q,L⟩ ⟨hl,U,_,(G.put k eb rv).keeps fun c ys ec=> ?_,q,es,ep,L,h2,h3,h4,h5⟩
   rw [Bm (Ih ec e (fun z=>nomatch z))]
   exact ec
end
variable {v:V}
section
variable {X:Cx}{pins:List (Addr × Obj)}{σ:St}{H:Hp}{s:Shared}{a:Addr}{kvs:List (Key × V)}{k:Key}{u:Value}{A:Around}{E:Value->Shared->Prop}
theorem Amk {G:List Value}{Q:Value->Shared->Prop} (I:Inv X pins σ H s) (e:H a=some (.dK kvs)) (O:RelV (kV k) u) (l:Fe kvs k=some v) (W:G=[]\/∃x,G=[x])
 (h:∀L s',Inv X pins σ (upd H a (.dK (Jp kvs k))) s'->RelV v L->Q L s'):wpAny (model X.prog X.w) A (call (.builtin "dict.pop") (.ref a::u::G)) Q E s:=by
 obtain⟨z,hd,Z,J,dd⟩:=Aiq I.hok e
 obtain⟨L,hw,U⟩:=Vi.some_of (v:=v) (o:=valueAt Z k) (by rw [<-l];exact J.val k)
 have hp:(keyPart u).isSome=true:=by
  cases k with
  | inl i=>obtain⟨t,q⟩:=(show ∃t,u=Value.int i t from O);subst q;rfl
  | inr x=>obtain⟨t,q⟩:=(show ∃t,u=Value.str x t from O);subst q;rfl
 have ha:argsOk "dict.pop" ⟨.ref a::u::G,[]⟩:=by
  rcases W with q | ⟨x,q⟩
  . subst q;exact PySem.F.args_dict_pop_2 _ _
  . subst q;exact PySem.F.args_dict_pop_3 _ _ _
 refine call_meetsIn slot_dict_pop dd.typeIs PySem.F.entry_dict_pop ha (meets_dict_pop_there (Bs X.prog X.w) a (Xh O) G W hp)
  ⟨Z,L,dd,by rw [<-J.length];exact z,hw,fun h' M hs=>h L _ ?_ U⟩
 have he:∃q,h'.get? a=some q:=let ⟨q,_,_,hq,_⟩:=M;⟨q,hq⟩
 exact Ua I (by rw [e];exact True.intro) hs he (Aei (aO (Ac4 kvs k) z) hd (J.drop k) M)
theorem Amj {Q:Value->Shared->Prop} (I:Inv X pins σ H s) (e:Rd H a (.dK kvs)) (h:∀t s',Inv X pins σ H s'->Q (.int kvs.length t) s'):wpAny (model X.prog X.w) A (call (.builtin "len") [.ref a]) Q E s:=by
 obtain⟨z,G,L,q,J⟩:=Xe I.hok e
 refine call_len_dict G J (by rw [<-q.length];rw [eG]at z;omega) ?_
 rw [<-q.length]
 exact h _ _ (I.tok _)
end
noncomputable def Amb (i:Expr):Prop:=∀ov iv,subscripted i false ov iv=operate [ov,iv] (getItem ov iv)
theorem Ahf {prog:Program}{w:World}{A:Around}{E:Value->Shared->Prop}{s:Shared}{env:Env}{value slice:Expr}{pos:Pos}{T id:String}{Q:Value->Shared->Prop}
 (Z:typeLookup (.type T) "__getitem__"=pure (some (.builtin id))) (hs:Amb slice)
 (h:wpAny (model prog w) A (eval value env) (fun o J=>wpAny (model prog w) A (eval slice env) (fun i q=>q.TypeIs o T/\wpAny (model prog w) A (getItem o i) Q E q) E J) E s):
 wpAny (model prog w) A (eval (.Subscript value slice pos) env) Q E s:=by
 refine Subscript_ (cT h (fun o J O=>cT O (fun i q G=> ?_) fun _ _ x=>x) fun _ _ x=>x)
 obtain⟨W,G⟩:=G
 unfold subscriptTail
 refine aA ?_
 rw [getitemInPython_of_ne W.not_modules]
 refine aA (wpAny_specialOf W Z ?_)
 have M:wpAny (model prog w) A (subscripted slice false o i) (fun r L=>wpAny (model prog w) A (letTemporaryGo value o r>>=fun _=>pure r) Q E L) E q:=by
  rw [hs o i]
  exact wpAny_operating (cT G (fun r L U=>aA (wpAny_letTemporaryGo (aE U))) fun _ _ x=>x)
 first
  | exact aE (aA M)
  | exact aA (aE (aA M))
  | exact aA M
variable {X:Cx}{pins:List (Addr × Obj)}{σ:St}{s:Shared}
theorem Ub {o:Option V} (I:Inv X pins σ H s) (g:Ro H a y o):s.TypeIs (.ref a) "dict":=by
 rcases g with⟨kvs,k,e,_,_⟩ | ⟨kvs,k,b,e,_,_,_⟩
 . obtain⟨_,_,G,_,q⟩:=Xe I.hok e
   exact q.typeIs
 . obtain⟨_,_,xs,_,q⟩:=Zt I.hok e
   exact q.typeIs
noncomputable def Ahh (td ty:TE):TE:=fun σ H Q=>td σ H fun x H1=>ty σ H1 fun y H2=>∃a v,x= .ref a/\Ro H2 a y (some v)/\Q v H2
noncomputable def Ahc (td ty tv:TE):TS:=fun D σ H=>tv σ H fun v H1=>td σ H1 fun x H2=>ty σ H2 fun y H3=>∃a H4,x= .ref a/\Aco H3 a y v H4/\D.nx σ H4
section
variable {X:Cx}{o i e value:Expr}{pos pos' tpos:Pos}{td ty tv:TE}
theorem Ags (J:X.A.units+1<cLine) (L:PE X o td) (hi:PE X i ty) (M:Amb i):PE X (.Subscript o i pos) (Ahh td ty):=by
 intro pins s σ H Q I h
 refine Ahf PySem.F.slot_dict_getitem.lookup M (thn (L pins s σ H _ I h) fun u O ⟨x,H1,U,W,Z⟩=>thn (hi pins O σ H1 _ U Z) fun iv s2 ⟨y,H2,G,ry,a,v,ex,g,q2⟩=> ?_)
 subst ex
 obtain rfl:u=Value.ref a:=W
 exact⟨Ub G g,Zg J G g ry fun w' s3 I3 q=>⟨v,H2,I3,q,q2⟩⟩
theorem Ag2 (q:X.A.units+1<cLine) (G:PE X o td) (hi:PE X i ty) (J:PE X value tv) (L:swapsWith value (some (.Subscript o i pos')) pos.line X.env=pure false):
 PS X (.Assign [.Subscript o i pos'] value pos) (Ahc td ty tv):=by
 intro pins s σ H D I h
 refine wpAny_Assign_Subscript (thn (J pins s σ H _ I h) fun r M ⟨v,H1,O,U,W⟩=>thn (G pins M σ H1 _ O W) fun u Z ⟨x,H2,I2,rx,q2⟩=>thn (hi pins Z σ H2 _ I2 q2) fun iv s3 ⟨y,H3,I3,ry,a,H4,ex,g,q3⟩=> ?_) L
 subst ex
 obtain rfl:u=Value.ref a:=rx
 exact Zh q I3 g ry U fun s4 I4=>⟨σ,H4,I4,q3⟩
end
theorem Ac5 (h:Heap) (q:sysModules<h.objs.size):Dk P w H (h.push { cls:= .type "dict",data:= .dict #[]}) h.objs.size (.dT []):=
 ⟨bO _,jH.mpr (cS (aV q)),[],.nil,_,#[],0,aN _ rfl,⟨rfl,rfl,rfl⟩,rfl,rfl,List.nodup_nil⟩
noncomputable def Abs:TE:=fun _ H Q=>∀p,H p=none->Q (.ref p) (upd H p (.dT []))
section
variable {X:Cx}{pos:Pos}
theorem Ads:PE X (.Dict [] [] pos) Abs:=fun pins s σ H Q I h=>
 wpAny_Dict_empty ⟨.ref s.heap.objs.size,_,I.laid (a:=s.heap.objs.size) (o:= .dT []) (t':=s.toks) (fun _ _ q=>aC _ q) (aH _) (Ac5 s.heap I.big),rfl,h _ (I.hok.fresh (aH _))⟩
end
noncomputable def Ajl (kvs more:List (Key × V)):List (Key × V):=more.foldl (fun acc kv=>putK acc kv.1 kv.2) kvs
structure M1 (X:Cx) (o:Expr) (m:Str) (apos:Pos) (e:Expr) (cpos:Pos):Prop where
 base:attributeBase o m X.env (eval o X.env)=eval o X.env
 few:((backTo cpos (starEach [e] X.env)).all (fun x=> !x.1)&&(backToKw cpos (keywordEach [] X.env)).all (fun x=>x.1.isSome)
  &&decide (([e]:List Expr).length+([]:List Keyword).length+(if([]:List Keyword).isEmpty then 0 else 1)<30))=true
 line:(apos.endLine==cpos.line)=true
 trees:backTo cpos (starEach [e] X.env)=[(false,eval e X.env)]
structure M2 (X:Cx) (o:Expr) (m:Str) (apos:Pos) (e f:Expr) (cpos:Pos):Prop where
 base:attributeBase o m X.env (eval o X.env)=eval o X.env
 few:((backTo cpos (starEach [e,f] X.env)).all (fun x=> !x.1)&&(backToKw cpos (keywordEach [] X.env)).all (fun x=>x.1.isSome)
  &&decide (([e,f]:List Expr).length+([]:List Keyword).length+(if([]:List Keyword).isEmpty then 0 else 1)<30))=true
 line:(apos.endLine==cpos.line)=true
 trees:backTo cpos (starEach [e,f] X.env)=[(false,eval e X.env),(false,eval f X.env)]
noncomputable def IsD (H:Hp) (a:Addr):Prop:=(∃kvs,Rd H a (.dK kvs))\/∃kvs,Rd H a (.dT kvs)
theorem Vv (I:Inv X pins σ H s) (d:IsD H a):
 s.TypeIs (.ref a) "dict"/\(∀b,Value.ref a= .ref b->∃G,s.heap.get? b=some G/\G.dict=none)/\(a==sysModules)=false:=by
 rcases d with⟨kvs,e⟩ | ⟨kvs,e⟩
 . obtain⟨_,L,M,_,J⟩:=Xe I.hok e
   refine⟨J.typeIs,fun b q=> ?_,L⟩
   cases q
   obtain⟨G,_,_,h1,h2,_⟩:=J
   exact⟨G,h1,h2.2.1⟩
 . obtain⟨_,L,xs,_,J⟩:=Zt I.hok e
   refine⟨J.typeIs,fun b q=> ?_,L⟩
   cases q
   obtain⟨G,_,_,h1,h2,_⟩:=J
   exact⟨G,h1,h2.2.1⟩
section
variable {X:Cx}{pins:List (Addr × Obj)}{σ:St}{H:Hp}{s:Shared}{a:Addr}{y d:V}{u r:Value}{o:Option V}{A:Around}{E:Value->Shared->Prop}
theorem Aip {Q:Value->Shared->Prop} (W:A.units+1<cLine) (I:Inv X pins σ H s) (g:Ro H a y o) (M:RelV y u) (O:RelV d r) (h:∀U s',Inv X pins σ H s'->RelV (o.getD d) U->Q U s'):
 wpAny (model X.prog X.w) A (call (.builtin "dict.get") [.ref a,u,r]) Q E s:=by
 rcases g with⟨kvs,k,e,J,l⟩ | ⟨kvs,k,b,e,J,Z,l⟩
 . subst J
   obtain⟨z,L,vs,q,G⟩:=Xe I.hok e
   refine call_meetsIn lD G.typeIs entry_dict_get (PySem.F.args_dict_get_3 _ _ _) (meets_dict_get_default (Bs X.prog X.w) a (Xh M) L r) ⟨_,G.mapOf,h _ _ (I.tok _) ?_⟩
   rw [l]
   exact(q.val k).getD O
 . subst J
   cases(show u=Value.ref b from M)
   obtain⟨z,L,xs,q,G⟩:=Zt I.hok e
   refine call_meetsIn lD G.typeIs entry_dict_get (PySem.F.args_dict_get_3 _ _ _) (meetsH_dict_get_default (tupleKind (Bs X.prog X.w)) a b L r) ⟨tupleKind_room_in1 W,k,xs,V0 I.hok Z,G,h _ _ (I.tok _) ?_⟩
   rw [l]
   exact(q.val k).getD O
end
noncomputable def Abr (td ty tx:TE):TE:=fun σ H Q=>td σ H fun x H1=>∃a,x= .ref a/\IsD H1 a/\ty σ H1 fun y H2=>tx σ H2 fun z H3=>∃o,Ro H3 a y o/\Q (o.getD z) H3
noncomputable def Abt (td ty:TE):TE:=fun σ H Q=>td σ H fun x H1=>∃a,x= .ref a/\IsD H1 a/\ty σ H1 fun y H2=>∃kvs k v,H2 a=some (.dK kvs)/\y=kV k/\Fe kvs k=some v/\Q v (upd H2 a (.dK (Jp kvs k)))
section
variable {X:Cx}{o e f:Expr}{apos cpos:Pos}{td ty tx:TE}
theorem Adq (J:X.A.units+1<cLine) (L:PE X o td) (M:PE X e ty) (O:PE X f tx) (m:M2 X o "get" apos e f cpos):PE X (.Call (.Attribute o "get" apos) [e,f] [] cpos) (Abr td ty tx):=by
 intro pins s σ H Q I h
 refine kW m.base m.few m.line iC lD PySem.F.type_dict_get (thn (L pins s σ H _ I h) fun u U ⟨x,H1,G,W,a,ex,d,Z⟩=> ?_)
 subst ex
 obtain rfl:u=Value.ref a:=W
 obtain⟨t1,t2,_⟩:=Vv G d
 refine⟨t1,t2,?_⟩
 rw [m.trees]
 refine fH rfl (Calls.evalArgs_plain (kQ (thn (M pins U σ H1 _ G Z) fun iv s2 ⟨y,H2,I2,ry,q2⟩=>
  kQ (thn (O pins s2 σ H2 _ I2 q2) fun fv s3 ⟨z,H3,I3,rz,ov,g,q3⟩=>Calls.spliced_nil ?_))))
 exact Aip J I3 g ry rz fun w' s4 I4 q=>⟨_,H3,I4,q,q3⟩
theorem Qw (J:PE X o td) (L:PE X e ty) (m:M1 X o "pop" apos e cpos):PE X (.Call (.Attribute o "pop" apos) [e] [] cpos) (Abt td ty):=by
 intro pins s σ H Q I h
 refine kW m.base m.few m.line iC slot_dict_pop PySem.F.type_dict_pop (thn (J pins s σ H _ I h) fun u M ⟨x,H1,G,O,a,ex,d,U⟩=> ?_)
 subst ex
 obtain rfl:u=Value.ref a:=O
 obtain⟨W,Z,_⟩:=Vv G d
 refine⟨W,Z,?_⟩
 rw [m.trees]
 refine fH rfl (Calls.evalArgs_plain (kQ (thn (L pins M σ H1 _ G U) fun iv s2 ⟨y,H2,I2,ry,kvs,k,v,ea,ey,l,q2⟩=>Calls.spliced_nil ?_)))
 subst ey
 exact Amk I2 ea ry l (.inl rfl) fun w' s3 I3 q=>⟨v,_,I3,q,q2⟩
end
section
variable {X:Cx}
theorem Yz:Gv X (.builtin "len") (fun xs H Q=>∃a kvs,xs=[V.ref a]/\H a=some (.dK kvs)/\Q (.int kvs.length) H):=by
 intro pins s σ H xs M Q I r h
 obtain⟨a,kvs,rfl,G,q⟩:=h
 obtain⟨u,rfl,J⟩:=vals1 r
 cases J
 exact Amj I (.inl G) fun t s' L=>⟨.int kvs.length,H,L,⟨t,rfl⟩,q⟩
end
section
variable {κ:Type} [DecidableEq κ]
theorem Ww {kvs:List (κ × V)}{k:κ} (h:Fe kvs k=none):¬k∈kvs.map (·.1):=by
 intro m
 obtain⟨p,hp,e⟩:=aD.mp m
 have q:(kvs.any fun G=>decide (G.1=k))=true:=iV.mpr ⟨p,hp,cD e⟩
 rw [Gm,h]at q
 exact absurd q (by simp)
theorem Vf {kvs:List (κ × V)}{k:κ}{v:V} (h:Fe kvs k=some v):k∈kvs.map (·.1):=by
 have q:(kvs.any fun G=>decide (G.1=k))=true:=by
  rw [Gm,h]
  all_goals rfl
 obtain⟨p,hp,e⟩:=iV.mp q
 exact aD.mpr ⟨p,hp,cH e⟩
theorem Qs:∀ {l:List κ}{k:κ},l.Nodup->¬k∈l->(l++ [k]).Nodup
 | [],k,_,_=>by simp
 | a::r,k,h,hk=>by
   obtain⟨h1,h2⟩:=cZ.mp h
   show(a::(r++ [k])).Nodup
   refine cZ.mpr ⟨fun m=> ?_,Qs h2 fun m=>hk (aQ.mpr (Or.inr m))⟩
   rcases bG.mp m with q | q
   . exact h1 q
   . exact hk (aQ.mpr (Or.inl (aS.mp q).symm))
theorem Agb {kvs:List (κ × V)}{k:κ} (v:V) (q:(kvs.map (·.1)).Nodup) (h:Fe kvs k=none):((putK kvs k v).map (·.1)).Nodup:=by
 rw [Qz v h,aJ]
 exact Qs q (Ww h)
theorem Zr {p:κ × V}{r:List (κ × V)}{k:κ} (e:p.1=k):Jp (p::r) k=Jp r k:=by
 unfold Jp
 rw [kO,aF (by simp [e])]
theorem Zq {p:κ × V}{r:List (κ × V)}{k:κ} (e:¬p.1=k):Jp (p::r) k=p::Jp r k:=by
 unfold Jp
 rw [kO,aI (by simp [e])]
end
variable {A:Around}
theorem hu1 (h:A.units+64<cLine):A.units+1<cLine:=cY (Nat.add_le_add_left (by decide:1<=64) _) h
section
variable {td ty tx tv:TE}{σ:St}{H:Hp}{Q:VK}{D:Ends}
theorem Ak6:Ahh td ty σ H Q=td σ H fun x H1=>ty σ H1 fun y H2=>∃a v,x= .ref a/\Ro H2 a y (some v)/\Q v H2:=rfl
theorem Ahw:Abr td ty tx σ H Q=td σ H fun x H1=>∃a,x= .ref a/\IsD H1 a/\ty σ H1 fun y H2=>tx σ H2 fun z q=>∃o,Ro q a y o/\Q (o.getD z) q:=rfl
theorem Ak9:Ahc td ty tv D σ H=tv σ H fun v H1=>td σ H1 fun x H2=>ty σ H2 fun y G=>∃a q,x= .ref a/\Aco G a y v q/\D.nx σ q:=rfl
end
theorem Afs {i:Int} (e:H a=some (.dK kvs)) (h:Fe kvs (.inl i)=some v):Ro H a (.int i) (some v):= .inl ⟨kvs,.inl i,.inl e,rfl,h.symm⟩
theorem Aft {i:Int} (e:H a=some (.dK kvs)):Ro H a (.int i) (Fe kvs (.inl i)):= .inl ⟨kvs,.inl i,.inl e,rfl,rfl⟩
theorem Ac3 {i:Int} (e:H a=some (.dK kvs)) (q:kvs.length<sizeLine):Aco H a (.int i) v (upd H a (.dK (putK kvs (.inl i) v))):= .inl ⟨kvs,.inl i,e,rfl,q,rfl⟩
theorem Jm {H1:Hp}{p:Addr}{cσ:St}{g:TG}{tt:TT}{te:TE}{Q:VK}{α:Type}{es:List α}{inj:α->V}{J:It} (pf:α->Bool) (L:α->V->Hp->Prop)
 (mono:∀e v H H',L e v H->Same H H'->L e v H') (put:∀e v H ys zs,L e v H->H p=some (.lst ys)->L e v (upd H p (.lst zs))) (hz:es.length<=sizeLine) (hp:H1 p=none) (hJ:Wk J H1 es inj)
 (step:∀(e:α) (H':Hp) (R:VK) (RF:Hp->Prop),e∈es->Same H1 H'->(pf e=true->∀v G,Same H' G->L e v G->R v G)->(pf e=false->∀G,Same H' G->RF G)->g (inj e) cσ H' fun M H4=>Kp cσ M/\tt M H4 fun b H5=>if b=true then te M H5 R else RF H5)
 (Z:∀H' (vs:List (V × α)),Same H1 H'->H' p=some (.lst (vs.map (·.1)))->vs.map (·.2)=es.filter pf->(∀x∈vs,L x.2 x.1 H')->Q (.ref p) H'):cIn J cσ g tt te Q H1 p:=by
 have su:∀ {H':Hp}{o:HO},Same H1 H'->Same H1 (upd H' p o):=fun {H' o} s b u e=>by
  rw [Bm (Bg e hp)]
  exact s b u e
 refine⟨fun i m O H'=>∃vs:List (V × α),m=es.length-i/\i<=es.length/\O=vs.map (·.1)/\vs.map (·.2)=(es.take i).filter pf/\(∀x∈vs,L x.2 x.1 H')/\H' p=some (.lst O)/\Same H1 H',⟨es.length,[],by simp,bO _,rfl,by simp,by simp,Ag,su (Same.refl _)⟩,?_⟩
 rintro i m O H' ⟨vs,rfl,hi,rfl,hv,hr,hH,s⟩
 cases he:es[i]? with
 | none=>
   have e:i=es.length:=fI hi (cC.mp he)
   subst e
   rw [fT]at hv
   exact .inl ⟨(hJ _ _ s).1 he,Z _ vs s hH hv hr⟩
 | some e=>
   obtain⟨go,yl⟩:=(hJ _ _ s).2 e he
   refine .inr ⟨go,fun x H3 y=> ?_⟩
   obtain⟨rfl,rfl⟩:=yl x H3 y
   obtain⟨a0,_⟩:=bL.mp he
   have tk:es.take (i+1)=es.take i++ [e]:=by rw [iH,he];rfl
   have fl:vs.length<=i:=by
    have h1:=bK length hv
    rw [aB]at h1
    rw [h1]
    exact aO (dM _ _) (by rw [bT];omega)
   refine step e H3 _ _ (dR he) s (fun U v G q r6=>⟨q _ _ hH,by rw [aB];omega,_,by omega,vs++ [(v,e)],rfl,a0,by rw [aJ];rfl,?_,?_,Ag,su (s.trans q)⟩) (fun U G q=>⟨_,by omega,vs,rfl,a0,rfl,?_,fun x W=>mono _ _ _ _ (hr x W) q,q _ _ hH,s.trans q⟩)
   . rw [tk,fE,aJ,hv]
     simp [U]
   . intro x W
     rcases bG.mp W with W | W
     . exact put _ _ _ _ _ (mono _ _ _ _ (hr x W) q) (q _ _ hH)
     . have:x=(v,e):=by simpa using W
       rw [this]
       exact put _ _ _ _ _ r6 (q _ _ hH)
   . rw [tk,fE,hv]
     simp [U]
variable {H1:Hp}{p:Addr}
theorem Acv {t1 t2:Bool}{K:Frag}{a b:Addr}{xs ys:List V}{cσ:St}{g:TG}{te:TE}{Q:VK} (n:Nat) (hn:n=min xs.length ys.length) (f:Nat->V) (hz:n<=sizeLine) (hp:H1 p=none)
 (U:∀H',Same H1 H'->SqB t1 K H' a xs) (Z:∀H',Same H1 H'->SqB t2 K H' b ys)
 (step:∀(i:Nat) (H':Hp) (q:Addr) (R:VK),i<n->Same H1 H'->H' q=some (.tup [xs.getD i .non,ys.getD i .non])->(∀J,Same H' J->R (f i) J)->g (.ref q) cσ H' fun G M=>Kp cσ G/\te G M R)
 (O:∀H',Same H1 H'->H' p=some (.lst ((List.range n).map f))->Q (.ref p) H'):cIn (Alz t1 t2 K a b) cσ g Mj te Q H1 p:=by
 have su:∀ {H':Hp}{o:HO},Same H1 H'->Same H1 (upd H' p o):=fun {H' o} s b u e=>by
  rw [Bm (Bg e hp)]
  exact s b u e
 refine⟨fun i m L H'=>m=n-i/\i<=n/\L=(List.range i).map f/\H' p=some (.lst L)/\Same H1 H',⟨n,by simp,bO _,by simp,Ag,su (Same.refl _)⟩,?_⟩
 rintro i m L H' ⟨rfl,hi,rfl,hH,s⟩
 by_cases he:i=n
 . subst he
   exact .inl ⟨⟨xs,ys,U _ s,Z _ s,by omega⟩,O _ s hH⟩
 . have hl:i<n:=by omega
   have ex:xs[i]? =some (xs.getD i .non):=by rw [aP,aG (by omega)];rfl
   have ey:ys[i]? =some (ys.getD i .non):=by rw [aP,aG (by omega)];rfl
   refine .inr ⟨⟨xs,ys,_,_,U _ s,Z _ s,ex,ey⟩,fun x H3 y=> ?_⟩
   obtain⟨q,u,v,hu,hv,hq,rfl,rfl⟩:=y
   have eu:=hu _ (U _ s)
   have ev:=hv _ (Z _ s)
   rw [ex]at eu
   rw [ey]at ev
   cases eu
   cases ev
   have sq:=Same.upd hq (.tup [xs.getD i .non,ys.getD i .non])
   have q0:=step i (upd H' q (.tup [xs.getD i .non,ys.getD i .non])) q (fun y J=>J p=some (.lst ((List.range i).map f))/\((List.range i).map f).length<sizeLine/\∃m',m'<n-i/\m'=n-(i+1)/\i+1<=n/\(List.range i).map f++ [y]=(List.range (i+1)).map f/\
    upd J p (.lst ((List.range i).map f++ [y])) p=some (.lst ((List.range i).map f++ [y]))/\Same H1 (upd J p (.lst ((List.range i).map f++ [y])))) hl (s.trans sq) Ag
    (fun J s6=>⟨s6 _ _ (sq _ _ hH),by rw [aB,cX];omega,_,by omega,rfl,hl,by rw [range_succ,aJ];rfl,Ag,su ((s.trans sq).trans s6)⟩)
   have eq:∀(R:VK) (B:Hp->Prop),(fun G M=>Kp cσ G/\Mj G M fun b H5=>if b=true then te G H5 R else B H5)=(fun G M=>Kp cσ G/\te G M R):=fun R B=>by
    funext G M
    simp only [Mj,aI]
   rw [eq]
   exact q0
open PySem PySem.W PyProof.Rows
structure LO (n:Nat) (lt:Nat->Nat->Bool):Prop where
 tri:∀i j,i<n->j<n->i≠j->lt i j= !lt j i
 trans:∀i j k,i<n->j<n->k<n->lt i j=true->lt j k=true->lt i k=true
noncomputable def KOk {α:Type} (lt:Nat->Nat->Bool) (n:Nat):KasT α->(α->Prop)->Prop
 | .ret a,P=>P a
 | .ask i j k,P=>i<n/\j<n/\i≠j/\KOk lt n (k (lt i j)) P
noncomputable def aT (p:Array Nat) (i:Nat):Nat:=p.getD i 0
variable {i:Nat}
theorem Afl {p:Array Nat} (h:i<p.size):p[i]? =some (aT p i):=by simp [aT,h]
structure PM (n:Nat) (p:Array Nat):Prop where
 sz:p.size=n
 lt:∀i,i<n->aT p i<n
 ne:∀i j,i<n->j<n->i≠j->aT p i≠aT p j
 pm:p.toList.Perm (List.range n)
variable {n:Nat}
theorem PM.of {p:Array Nat} (h:p.toList.Perm (List.range n)):PM n p:=by
 have sz:p.size=n:=by
  have:=h.length_eq
  simpa using this
 have L:p.toList.Nodup:=h.nodup_iff.mpr nodup_range
 refine⟨sz,fun i hi=> ?_,fun i j hi W M e=> ?_,h⟩
 . have q:i<p.size:=by omega
   have e:aT p i=p[i]:=by simp [aT,q]
   have m:p[i]∈p.toList:=by simp
   rw [e]
   exact eD.mp (h.mem_iff.mp m)
 . have q:i<p.toList.length:=by rw [bJ];omega
   have G:j<p.toList.length:=by rw [bJ];omega
   have O:aT p i=p.toList[i]:=by simp [aT,show i<p.size by omega]
   have U:aT p j=p.toList[j]:=by simp [aT,show j<p.size by omega]
   have pw:=bV.mp L
   have J:p.toList[i]=p.toList[j]:=by rw [<-O,<-U,e]
   rcases hX M with l | l
   . exact pw i j q G l J
   . exact pw j i G q l J.symm
theorem PM.start (n:Nat):PM n (toArray (List.range n)):=PM.of (by simp)
section
variable {n:Nat}{lt:Nat->Nat->Bool}
noncomputable def StT (lt:Nat->Nat->Bool) (p:Array Nat) (k:Nat):Prop:=∀i j,i<j->j<k->lt (aT p i) (aT p j)=true
end
open PySem PySem.Spec PySem.Calls PyProof.Rows PySem.W
theorem Qk:∀ns ms:List Int,ns≠ms->HT.lexLt ns ms= !HT.lexLt ms ns
 | [],[],h=>absurd rfl h
 | [],_::_,_=>rfl
 | _::_,[],_=>rfl
 | x::xs,y::ys,h=>by
   rw [HT.Bu,HT.Bu]
   by_cases e:x=y
   . subst e
     rw [aI rfl,aI rfl]
     exact Qk xs ys fun z=>h (by rw [z])
   . rw [aF e,aF (cS e)]
     by_cases l:x<y
     . rw [cD l,bZ (by omega)]
       rfl
     . rw [bZ l,cD (by omega)]
       rfl
theorem lex_trans:∀ns ms G:List Int,HT.lexLt ns ms=true->HT.lexLt ms G=true->HT.lexLt ns G=true
 | [],[],_,h,_=>by cases h
 | [],_::_,[],_,h=>by cases h
 | [],_::_,_::_,_,_=>rfl
 | _::_,[],_,h,_=>by cases h
 | _::_,_::_,[],_,h=>by cases h
 | x::xs,y::ys,z::zs,h1,h2=>by
   rw [HT.Bu]at h1 h2 ⊢
   by_cases e:x=y
   . subst e
     rw [aI rfl]at h1
     by_cases q:x=z
     . rw [aI q]at h2 ⊢
       exact lex_trans xs ys zs h1 h2
     . rw [aF q]at h2 ⊢
       exact h2
   . rw [aF e]at h1
     have J:=cH h1
     by_cases q:y=z
     . subst q
       rw [aF e]
       exact h1
     . rw [aF q]at h2
       have L:=cH h2
       rw [aF (by omega)]
       exact cD (by omega)
theorem Qi {P:Program}{w:World}:∀ {ns:List Int}{us:List Value},IntsAre us ns->ItemsAre (intKind P w) ns us
 | _,_,.nil=> .nil
 | _,_,.cons n t r=> .cons (by show Value.isInt n (.int n t)=true;simp [Value.isInt]) (Qi r)
variable {vs:List Value}
theorem Ah1 (q:vs.length<2):(vs.toArray.zip vs.toArray).map (·.2)=toArray ((toArray (List.range vs.length)).toList.map fun i=>vs.getD i Value.none):=by
 cases vs with
 | nil=>simp
 | cons v l=>
   cases l with
   | nil=>simp [range_succ]
   | cons _ _=>exact absurd q (by simp)
noncomputable abbrev Prt:=Addr × Addr × List Int × V
noncomputable def Prt.ks (t:Prt):List Int:=t.2.2.1
structure Ah7 (K:Frag) (H:Hp) (t:Prt):Prop where
 pr:SqT K H t.1 [.ref t.2.1,t.2.2.2]
 tu:SqT K H t.2.1 (t.ks.map V.int)
theorem U6:∀ {as:List Addr}{us:List Value},Vals (as.map V.ref) us->us=as.map Value.ref
 | [],_,.nil=>rfl
 | _::_,_,.cons r t=>by
   cases r
   rw [U6 t]
   rfl
theorem Nt:∀q:List Addr,Vals (q.map V.ref) (q.map Value.ref)
 | []=> .nil
 | _::r=> .cons rfl (Nt r)
structure Acp (P:Program) (w:World) (h:Heap) (t:Prt):Prop where
 pr:∃o xs n u,h.get? t.1=some o/\o.cls= .type "tuple"/\o.data= .seq xs n/\xs.toList=[.ref t.2.1,u]
 tu:∃its:List Value,IsTup h t.2.1 its.toArray/\IntsAre its t.ks
variable {h:Heap}
theorem Acp.keeps {t:Prt} (x:Acp P w h t) (k:∀b o,b≠a->h.get? b=some o->h'.get? b=some o) (h1:t.1≠a) (h2:t.2.1≠a):Acp P w h' t:=by
 obtain⟨⟨o,xs,n,u,e,r⟩,q,⟨G,J,rt⟩,i⟩:=x
 exact⟨⟨o,xs,n,u,k _ _ h1 e,r⟩,q,⟨G,k _ _ h2 J,rt⟩,i⟩
theorem Ah7.at {t:Prt} (I:Inv X pins σ H s) (x:Ah7 X.K H t):Acp X.prog X.w s.heap t/\t.1<s.heap.objs.size/\t.2.1<s.heap.objs.size:=by
 obtain⟨G,r,⟨o,e,c,n,d⟩,_⟩:=I.tuple x.pr
 obtain⟨q,J,p2,_⟩:=I.tuple x.tu
 refine⟨⟨?_,q,p2,intsAre_of J⟩,aM e,p2.lt⟩
 cases r with
 | cons L M=>
   cases L
   cases M with
   | cons U O=>
     cases O
     exact⟨o,_,n,_,e,c,d,rfl⟩
theorem Wf {P:Program}{w:World}{h:Heap}:∀ts:List Prt,(∀t∈ts,Acp P w h t)->KatTups h (ts.map fun t=>Value.ref t.1) (ts.map fun t=>Value.ref t.2.1)
 | [],_=> .nil
 | t::r,k=>by
   obtain⟨o,xs,n,u,e,c,d,x⟩:=(k t (.head _)).pr
   exact KatTups.cons e c d (by rw [<-eC,x];rfl) (Wf r fun t q=>k t (.tail _ q))
theorem Am7 {E:Value->Shared->Prop}{x y:Prt}{Q:Bool->Shared->Prop} (O:A.units<cLine) (U:Acp P w s.heap x) (W:Acp P w s.heap y) (hn:x.ks≠y.ks) (q:Q (HT.lexLt x.ks y.ks) s):
 wpAny (model P w) A (keyLt' (tuples' false) (.ref x.1) (.ref y.1)) Q E s:=by
 obtain⟨o,xs,n,u,e,c,d,ex⟩:=U.pr
 obtain⟨o',ys,n',u',e',c',d',ey⟩:=W.pr
 obtain⟨a1,Z,i1⟩:=U.tu
 obtain⟨a0,t2,i2⟩:=W.tu
 refine kat_lt e d e' d' ?_
 rw [ex,ey]
 have k1:IsTupleKey (intKind P w) s.heap x.ks x.2.1:=by
  obtain⟨G,J,ct,L,M⟩:=Z
  exact⟨G,_,L,J,ct,M,Qi i1⟩
 have k2:IsTupleKey (intKind P w) s.heap y.ks y.2.1:=by
  obtain⟨G,J,ct,L,M⟩:=t2
  exact⟨G,_,L,J,ct,M,Qi i2⟩
 refine kat_cons (wpAny_eqBool_tuple O k1 k2 ?_)
 rw [bZ hn]
 refine kat_no (kat_one _ _ ?_)
 exact HT.O9 Z t2 i1 i2 O q
variable {d it:Addr}{es:Array DictEntry}{ep:Nat}{od:Obj}
section
variable {prog:Program}{w:World}{A:Around}{E:Value->Shared->Prop}{s:Shared}
theorem Vx {v:Addr}{o:Obj}{Q:Value->Shared->Prop} (J:s.heap.IsItemsView v d) (O:s.heap.get? d=some o) (q:o.data= .dict es ep)
 (U:Q (.ref s.heap.objs.size) { s with heap:=s.heap.push { cls:= .type "dict_itemiterator",data:= .fields #[.none,.bool false,.ref d,.int 0 0,.int es.size 0,.int ep 0,.none,.none]}}):wpAny (model prog w) A (pyIter (.ref v)) Q E s:=by
 obtain⟨Z,L,W,M⟩:=id J
 refine wpAny_pyIter_slot J.typeIs F.slot_dict_items_iter (cN F.slot_dict_items_iter J.typeIs F.entry_dict_items_iter ?_ (F.args_dict_items_iter_1 _))
 unfold Builtin.«dict_items.__iter__»
 refine aA (aE (aA ?_))
 unfold Builtin.Dict_items.dictOf
 refine aA (dE L M (x:= .ref d) rfl (aE (aA ?_)))
 unfold Builtin.Dict_items.newIterator
 refine aA (gT O q (aA (iM O q ?_)))
 have G:Builtin.Dict_items.ownsTuple "dict_itemiterator"=true:=by decide
 simp only [G,gG]
 refine cG (aE ⟨_,rfl,"dict_itemiterator",_,⟨_,aN _ rfl,rfl⟩,eV.lookup,?_⟩)
  (by simp only [sizeOk,Builtin.Dict_items.ownedTupleFields,aR,aL,bU,dX,eG];omega)
 simpa [rawInt,Builtin.Dict_items.ownedTupleFields]using U
theorem Vw {e:DictEntry}{ok ov:Value}{Q:Option Value->Shared->Prop} (ab:IsItemIter s.heap it d i es.size ep ok ov) (ag:s.heap.get? d=some od) (ah:od.data= .dict es ep) (he:es[i]? =some e)
 (hQ:∀h',IsItemIterOut h' it d (i+1) es.size ep e.key e.val s.heap.objs.size->h'.get? s.heap.objs.size=some { cls:= .type "tuple",data:= .seq #[e.key,e.val]}->h'.objs.size=s.heap.objs.size+1->
   (∀b o,b≠it->s.heap.get? b=some o->h'.get? b=some o)->Q (some (.ref s.heap.objs.size)) { s with heap:=h'}):wpAny (model prog w) A (pyNext (.ref it)) Q E s:=by
 obtain⟨hp,g,dr,tk,os⟩:=s
 have hT:Shared.TypeIs ⟨hp,g,dr,tk,os⟩ (.ref it) "dict_itemiterator":=⟨_,ab,rfl⟩
 unfold pyNext
 refine aA (gL (cU (name:=Str.ofString "__next__") hT eV
  (cN eV hT F.entry_dict_itemiterator_next ?_ (F.args_dict_itemiterator_next_1 _))))
 refine aA (aE (aA (aA ?_)))
 first | refine aA (fX hT (aE ?_)) | refine aA (iA hT (aE ?_))
 refine aA (wpAny_fieldsOf ab rfl ?_)
 have ai:Builtin.Dict_items.ownsTuple "dict_itemiterator"=true:=by decide
 simp only [ai,gG]
 show wpAny _ _ (if(Value.ref d==Value.none)=true then _ else _) _ _ _
 rw [aF (show ¬((Value.ref d==Value.none)=true)from aY)]
 refine aA (aE (aA (gT ag ah ?_)))
 rw [aF (by simp)]
 refine aA (aE (aA (iM ag ah ?_)))
 rw [aF (by simp)]
 refine aE ?_
 obtain⟨aj,rfl⟩:=Array.getElem?_eq_some_iff.mp he
 simp only [show ¬((i:Int)<0)from by omega,fY,eU,eN aj]
 refine aA ?_
 first | refine aA (fX hT (aE ?_)) | refine aA (iA hT (aE ?_))
 refine aA (wpAny_isOneOf_itemiter hT ?_)
 show wpAny _ _ (setField (.ref it) 3 (rawInt ((i:Int)+1))>>=_) _ _ ⟨hp,g,dr,tk,os⟩
 refine aA (dF ab (by simp) fun q G J=> ?_)
 replace J:Heap.SameBut it hp q:=J
 replace G:IsItemIter q it d (i+1) es.size ep ok ov:=by
  have e:((i+1:Nat):Int)=(i:Int)+1:=by omega
  unfold IsItemIter;rw [e];simpa [rawInt]using G
 have a2:Shared.TypeIs ⟨q,g,dr,tk,os⟩ (.ref it) "dict_itemiterator":=⟨_,G,rfl⟩
 refine aA (dP (aA (wpAny_isOneOf_itemiter a2 (aA (wpAny_isOneOf_itemiter a2 ?_)))))
 show wpAny _ _ (Builtin.Dict_items.pairFromOwner (.ref it) 6 es[i].key es[i].val) _ _ ⟨q,g,dr,tk,os⟩
 unfold Builtin.Dict_items.pairFromOwner
 refine aA (wpAny_newTuple ?_)
 have L:IsItemIter (q.push { cls:= .type "tuple",data:= .seq #[es[i].key,es[i].val]}) it d (i+1) es.size ep ok ov:=aC _ G
 generalize Z:q.push { cls:= .type "tuple",data:= .seq #[es[i].key,es[i].val]}=a1 at L
 have a0:q.objs.size=hp.objs.size:=J.1
 have ac:it<hp.objs.size:=aM ab
 have ad:a1.get? hp.objs.size=some { cls:= .type "tuple",data:= .seq #[es[i].key,es[i].val]}:=by rw [<-Z,<-a0];exact aN _ rfl
 have ae:a1.objs.size=hp.objs.size+1:=by rw [<-Z,dO,a0]
 have af:∀b o,b≠it->hp.get? b=some o->a1.get? b=some o:=fun b o hb e=>by rw [<-Z];exact aC _ (J.extBut b o hb e)
 show wpAny _ _ (Builtin.Dict_items.ownedTupleIsFree (.ref it)>>=_) _ _ ⟨a1,g,dr,tk,os⟩
 rw [a0]
 clear Z G J a2 a0 q
 refine aA ?_
 unfold Builtin.Dict_items.ownedTupleIsFree
 refine aA (dE L rfl (x:= .none) rfl (aE ?_))
 simp only [gG]
 refine aA (dE L rfl (x:=ok) rfl (aA (dE L rfl (x:=ov) rfl ?_)))
 refine aA (dF L (by simp) fun a8 a3 M=> ?_)
 replace M:Heap.SameBut it a1 a8:=M
 replace a3:IsItemIter a8 it d (i+1) es.size ep es[i].key ov:=a3
 refine aA (dF a3 (by simp) fun a9 a4 O=> ?_)
 replace O:Heap.SameBut it a8 a9:=O
 replace a4:IsItemIter a9 it d (i+1) es.size ep es[i].key es[i].val:=a4
 refine aA (dF a4 (by simp) fun aa a5 U=> ?_)
 replace U:Heap.SameBut it a9 aa:=U
 replace a5:IsItemIterOut aa it d (i+1) es.size ep es[i].key es[i].val hp.objs.size:=a5
 refine aA (dF a5 (by simp) fun a7 a6 W=> ?_)
 replace W:Heap.SameBut it aa a7:=W
 replace a6:IsItemIterOut a7 it d (i+1) es.size ep es[i].key es[i].val hp.objs.size:=a6
 refine aA (iN (aE (aE ⟨_,rfl,aE (hQ a7 a6 ?_ ?_ ?_)⟩)))
 . exact W.extBut _ _ (eI ac) (U.extBut _ _ (eI ac) (O.extBut _ _ (eI ac) (M.extBut _ _ (eI ac) ad)))
 . show a7.objs.size=hp.objs.size+1
   rw [W.1,U.1,O.1,M.1,ae]
 . exact fun b o hb e=>W.extBut b o hb (U.extBut b o hb (O.extBut b o hb (M.extBut b o hb (af b o hb e))))
theorem Aab {O:Obj}{ok U:Value}{Q:Option Value->Shared->Prop} (W:A.handled=none) (q:IsItemIter s.heap it d i es.size ep ok U) (J:s.heap.get? d=some O) (L:O.data= .dict es ep) (Z:es.size<=i)
 (hQ:∀h',Heap.ExtBut it s.heap h'->Q none { s with heap:=h'}):wpAny (model prog w) A (pyNext (.ref it)) Q E s:=by
 have G:s.TypeIs (.ref it) "dict_itemiterator":=⟨_,q,rfl⟩
 unfold pyNext
 refine aA (gL (cU (name:=Str.ofString "__next__") G eV
  (cN eV G F.entry_dict_itemiterator_next ?_ (F.args_dict_itemiterator_next_1 _))))
 refine aA (aE (aA (aA ?_)))
 first | refine aA (fX G (aE ?_)) | refine aA (iA G (aE ?_))
 refine aA (wpAny_fieldsOf q rfl ?_)
 have M:Builtin.Dict_items.ownsTuple "dict_itemiterator"=true:=by decide
 simp only [M,gG]
 show wpAny _ _ (if(Value.ref d==Value.none)=true then _ else _) _ _ s
 rw [aF (show ¬((Value.ref d==Value.none)=true)from aY)]
 refine aA (aE (aA (gT J L ?_)))
 rw [aF (by simp)]
 refine aA (aE (aA (iM J L ?_)))
 rw [aF (by simp)]
 refine aE ?_
 simp only [show ¬((i:Int)<0)from by omega,fY,eU,Array.getElem?_eq_none Z]
 refine aA ?_
 first | refine aA (fX G (aE ?_)) | refine aA (iA G (aE ?_))
 show wpAny _ _ (setField (.ref it) 2 .none>>=_) _ _ s
 refine aA (kG q rfl (by simp) ?_)
 show wpAny _ _ (newExc (.type "StopIteration") []>>=_) _ _ _
 refine aA ?_
 simp only [newExc,newTuple]
 refine aA (cG ?_ (by size_fits))
 refine aA (m:=firstArgMember _ _) (wpAny_of_eq (a:=Value.none) (by first | rfl | (simp only [firstArgMember];rfl)) ?_)
 refine cG ?_ (by size_fits)
 simp only [raiseNew]
 refine aA (wpAny_handled ?_)
 rw [show A.in1.handled=none from W]
 refine aA (aE (wpAny_throw ?_))
 refine aA (lE (T:="StopIteration") (b:=true) ⟨_,aN _ rfl,rfl⟩ isSubtype_stop ?_)
 exact aE (hQ _ (((iD ..).extBut.push _).push _))
end
noncomputable def Alx (d:Addr) (od:Obj) (kvs:List (List Key × V)):It:=
 ⟨fun i H=>H d=some (.frz od (.dT kvs))/\i<kvs.length,
  fun i H x H'=>∃p b k v,kvs[i]? =some (k,v)/\H b=some (.tup (k.map kV))/\H p=none/\x= .ref p/\H'=upd H p (.tup [.ref b,v]),
  fun i H=>H d=some (.frz od (.dT kvs))/\kvs.length<=i⟩
theorem Ab5 {P:Program}{w:World}{K:Frag}{el:List Expr}{x1}{tp:Pos} (d it:Addr) (U:Obj) (es:Array DictEntry) (ep:Nat) (kvs:List (List Key × V)) (J:U.data= .dict es ep) (hz:es.size=kvs.length) (a7:it≠d):
 Turn P w K (.Tuple el x1 tp) (Alx d U kvs) [it] it (fun i h=>∃ok L,IsItemIter h it d i es.size ep ok L) where
 mem:=by simp
 obj:=fun i h st c hc=>by
  obtain⟨ok,L,hi⟩:=st
  obtain rfl:c=it:=by simpa using hc
  exact⟨_,hi,fun v z=>by cases(show Data.fields _=Data.cell v from z)⟩
 keep:=fun i h h' st k=>by
  obtain⟨ok,L,hi⟩:=st
  exact⟨ok,L,k it (by simp) _ hi⟩
 item:=by
  intro X hP hw hK hc i pins s σ H E I hf st hg
  subst hP hw hK
  obtain⟨hd,hi⟩:=hg
  obtain⟨ok,L,G⟩:=st
  obtain⟨e1,z,y,xs,r,o,a4,a5,h1,h2,h3,h4,h5⟩:=(show Dk X.prog X.w H s.heap d (.frz U (.dT kvs))from I.hok d _ hd)
  have eo:o=U:=bE (h1.symm.trans e1)
  subst eo
  rw [J]at h3
  obtain⟨rfl,rfl⟩:es=a4/\ep=a5:=by
   injection h3 with a b
   exact⟨a,b⟩
  have hx:i<xs.length:=by rw [<-jP r];exact hi
  obtain⟨q,hq⟩:∃q,xs[i]? =some q:=⟨_,aG hx⟩
  obtain⟨p,hp⟩:∃p,kvs[i]? =some p:=⟨_,aG hi⟩
  have Z:p.1=q.1/\H q.2.1=some (.tup (p.1.map kV))/\RelV p.2 q.2.2:=by
   have get:∀ {l:List (List Key × V)}{m:List (List Key × Addr × Value)} (i:Nat),Paired (fun(p:List Key × V) (q:List Key × Addr × Value)=>p.1=q.1/\H q.2.1=some (.tup (p.1.map kV))/\RelV p.2 q.2.2) l m->l[i]? =some p->m[i]? =some q->p.1=q.1/\H q.2.1=some (.tup (p.1.map kV))/\RelV p.2 q.2.2:=by
    intro l m i r
    induction r generalizing i with
    | nil=>intro e;simp at e
    | cons h _ ih=>
      intro a b
      cases i with
      | zero=>
        simp only [eT,jY]at a b
        subst a b
        exact h
      | succ i=>exact ih i (by simpa using a) (by simpa using b)
   exact get i r hp hq
  have he:es[i]? =some (entryOfKey (tupleKind (Bs X.prog X.w)) q):=by
   rw [<-eC,h4,aZ,hq]
   rfl
  refine Vw G h1 J he fun h' a1 a2 a3 hk=>⟨_,rfl,?_⟩
  refine wpAny_letOwnedTupleGo_items a1 fun g2 a6 M=> ?_
  replace M:Heap.SameBut it h' g2:=M
  have lt:it≠s.heap.objs.size:=aV (aM G)
  have hn:H s.heap.objs.size=none:=I.fresh
  have I1:Inv X pins σ (upd H s.heap.objs.size (.tup [.ref q.2.1,p.2])) { s with heap:=s.heap.push { cls:= .type "tuple",data:= .seq #[.ref q.2.1,q.2.2]},toks:=s.toks}:=
   I.laid (fun b o q=>aC _ q) (aH _) ⟨by show 2<=sizeLine;decide,[.ref q.2.1,q.2.2],.cons rfl (.cons Z.2.2 .nil),⟨_,aN _ rfl,rfl,_,rfl⟩⟩
  have a0:∀b∈ [it],P0 X pins (upd H s.heap.objs.size (.tup [.ref q.2.1,p.2])) b:=fun b O=>by
   obtain rfl:b=it:=by simpa using O
   exact⟨by rw [Bm lt];exact(hf b (by simp)).1,(hf b (by simp)).2⟩
  have I2:=I1.turnL (h':=g2) (t':=s.toks) (fp:=[it]) (fun b o O q=>by
   have n1:b≠it:=fun e=>O (by simp [e])
   refine(M.2 b n1).trans ?_
   rcases jU q with⟨rfl,rfl⟩ | q0
   . exact a2
   . exact hk b o n1 q0) a0
  exact⟨.ref s.heap.objs.size,_,I2,rfl,⟨_,q.2.1,p.1,p.2,hp,Z.2.1,hn,rfl,rfl⟩,⟨_,_,a6⟩,fun b O=>(a0 b O).1⟩
 done:=by
  intro X hP hw hK hc i pins s σ H E I hf st hg
  subst hP hw hK
  obtain⟨hd,hi⟩:=hg
  obtain⟨ok,L,G⟩:=st
  obtain⟨e1,_⟩:=(show Dk X.prog X.w H s.heap d (.frz U (.dT kvs))from I.hok d _ hd)
  exact Aab (I.ok.hd hc) G e1 J (by omega) fun g hk=>⟨rfl,I.turnL (t':=s.toks) (fp:=[it]) (fun b o O q=>hk b o (fun e=>O (by simp [e])) q) hf⟩
 self:=fun A i s Q E st h=>by
  obtain⟨ok,L,hi⟩:=st
  exact kcp_self hi h
theorem Vy {prog:Program}{w:World} (d:Addr) (q:(d==sysModules)=false):
 MeetsIn prog w (Builtin.«dict.items» ⟨[.ref d],[]⟩) (fun _ R s=>s.TypeIs (.ref d) "dict"/\R (.ok (.ret (.ref s.heap.objs.size))) { s with heap:=s.heap.push { cls:= .type "dict_items",data:= .fields #[.ref d]}}):=
 .of_wp fun A R s ⟨ty,h⟩=>by
  unfold Builtin.«dict.items»
  refine aA ?_
  unfold Builtin.Dict.noArgs
  refine aA (wpAny_notOrdered_dict ty ?_)
  show wpAny _ _ (pure d) _ _ s
  refine aE ?_
  show wpAny _ _ (Builtin.Dict.showsAll d>>=_) _ _ s
  unfold Builtin.Dict.showsAll
  rw [aF (by rw [q];exact aY)]
  exact aA (aE (aA (cG (aE ⟨_,rfl,h⟩))))
structure M0 (X:Cx) (o:Expr) (m:Str) (apos cpos:Pos):Prop where
 base:attributeBase o m X.env (eval o X.env)=eval o X.env
 few:((backTo cpos (starEach [] X.env)).all (fun x=> !x.1)&&(backToKw cpos (keywordEach [] X.env)).all (fun x=>x.1.isSome)
  &&decide (([]:List Expr).length+([]:List Keyword).length+(if([]:List Keyword).isEmpty then 0 else 1)<30))=true
 line:(apos.endLine==cpos.line)=true
 trees:backTo cpos (starEach [] X.env)=[]
noncomputable def Z5 (td:TE):TI:=fun σ H R=>td σ H fun x H1=>∃a kvs,x= .ref a/\H1 a=some (.dT kvs)/\∀od,R (Alx a od kvs) (upd H1 a (.frz od (.dT kvs)))
theorem Adw {X:Cx}{o:Expr}{td:TE}{el:List Expr}{x1}{tp apos cpos:Pos} (ho:PE X o td) (m:M0 X o "items" apos cpos):PI X (.Tuple el x1 tp) (.Call (.Attribute o "items" apos) [] [] cpos) (Z5 td):=by
 intro pins s σ H R I h
 refine kW m.base m.few m.line iC iB PySem.F.type_dict_items (thn (ho pins s σ H _ I h) fun u G ⟨x,H1,L,rx,a,kvs,ex,e,q1⟩=> ?_)
 subst ex
 obtain rfl:u=Value.ref a:=rx
 obtain⟨O,t2,hd⟩:=Vv L (.inr ⟨kvs,.inl e⟩)
 refine⟨O,t2,?_⟩
 rw [m.trees]
 refine fH rfl (PySem.evalArgs_none ?_)
 obtain⟨z,y,xs,r,J,es,ep,h1,h2,U,W,h5⟩:=(show Dk X.prog X.w H1 G.heap a (.dT kvs)from L.hok a _ e)
 refine call_meetsIn iB O PySem.F.entry_dict_items (PySem.F.args_dict_items_1 _) (Vy a hd) ⟨O,?_⟩
 have hz:es.size=kvs.length:=by
  have:=bK length W
  rw [bJ,aB]at this
  rw [this,jP r]
 have M:(G.heap.push { cls:= .type "dict_items",data:= .fields #[.ref a]}).get? a=some J:=aC _ h1
 refine Vx (s:={ G with heap:=G.heap.push { cls:= .type "dict_items",data:= .fields #[.ref a]}}) (d:=a) ⟨_,aN _ rfl,rfl,rfl⟩ M U ?_
 have Z:a<G.heap.objs.size:=aM h1
 have sz:(G.heap.push { cls:= .type "dict_items",data:= .fields #[.ref a]}).objs.size=G.heap.objs.size+1:=dO ..
 have I2:Inv X pins σ (upd H1 a (.frz J (.dT kvs))) { G with heap:=(G.heap.push { cls:= .type "dict_items",data:= .fields #[.ref a]}).push { cls:= .type "dict_itemiterator",data:= .fields #[.none,.bool false,.ref a,.int 0 0,.int es.size 0,.int ep 0,.none,.none]},toks:=G.toks}:=
  L.write (x:=a) (e:=a) (by rw [e];exact True.intro) (.inl rfl) (fun b u _ q=>aC _ (aC _ q)) ⟨J,aC _ M⟩
   ⟨aC _ M,z,y,xs,Paired.mapP r fun p q z=>⟨z.1,by rw [Bm (Ih z.2.1 e (fun z=>nomatch z))];exact z.2.1,z.2.2⟩,J,es,ep,aC _ M,h2,U,W,h5⟩
 refine⟨(G.heap.push { cls:= .type "dict_items",data:= .fields #[.ref a]}).objs.size,[(G.heap.push { cls:= .type "dict_items",data:= .fields #[.ref a]}).objs.size],_,_,_,rfl,I2,Ab5 a _ J es ep kvs U hz (by rw [sz];exact eI (bP Z)),⟨.none,.none,aN _ rfl⟩,fun c hc=> ?_,q1 J⟩
 have ec:c=G.heap.objs.size+1:=by
  rw [sz]at hc
  simpa using hc
 subst ec
 refine L.fpOk (fV _) ?_
 rw [Bm (eI (bP Z))]
 exact L.hok.fresh (fV _)
variable {td:TE}
theorem Ad8 {R:It->Hp->Prop}:Z5 td σ H R=td σ H (fun x H1=>∃a kvs,x= .ref a/\H1 a=some (.dT kvs)/\∀q,R (Alx a q kvs) (upd H1 a (.frz q (.dT kvs)))):=rfl
theorem Za {d:Addr}{od:Obj}{kvs:List (List Key × V)}{H1:Hp}{p:Addr}{cσ:St}{g:TG}{tt:TT}{te:TE}{Q:VK} (pf:List Key × V->Bool) (L:List Key × V->V->Hp->Prop)
 (mono:∀e v H H',L e v H->Same H H'->L e v H') (put:∀e v H ys zs,L e v H->H p=some (.lst ys)->L e v (upd H p (.lst zs))) (hz:kvs.length<=sizeLine) (hp:H1 p=none) (hd:H1 d=some (.frz od (.dT kvs)))
 (step:∀(e:List Key × V) (H':Hp) (b q:Addr) (R:VK) (RF:Hp->Prop),e∈kvs->Same H1 H'->H' b=some (.tup (e.1.map kV))->H' q=some (.tup [.ref b,e.2])->(pf e=true->∀v J,Same H' J->L e v J->R v J)->(pf e=false->∀J,Same H' J->RF J)->
   g (.ref q) cσ H' fun M H4=>Kp cσ M/\tt M H4 fun b H5=>if b=true then te M H5 R else RF H5)
 (a0:∀H' (vs:List (V × (List Key × V))),Same H1 H'->H' p=some (.lst (vs.map (·.1)))->vs.map (·.2)=kvs.filter pf->(∀x∈vs,L x.2 x.1 H')->Q (.ref p) H'):cIn (Alx d od kvs) cσ g tt te Q H1 p:=by
 have su:∀ {H':Hp}{o:HO},Same H1 H'->Same H1 (upd H' p o):=fun {H' o} s b u e=>by
  rw [Bm (Bg e hp)]
  exact s b u e
 refine⟨fun i m O H'=>∃vs:List (V × (List Key × V)),m=kvs.length-i/\i<=kvs.length/\O=vs.map (·.1)/\vs.map (·.2)=(kvs.take i).filter pf/\(∀x∈vs,L x.2 x.1 H')/\H' p=some (.lst O)/\Same H1 H',⟨kvs.length,[],by simp,bO _,rfl,by simp,by simp,Ag,su (Same.refl _)⟩,?_⟩
 rintro i m O H' ⟨vs,rfl,hi,rfl,hv,hr,hH,s⟩
 cases he:kvs[i]? with
 | none=>
   have e:i=kvs.length:=fI hi (cC.mp he)
   subst e
   rw [fT]at hv
   exact .inl ⟨⟨s _ _ hd,aH _⟩,a0 _ vs s hH hv hr⟩
 | some e=>
   obtain⟨U,_⟩:=bL.mp he
   refine .inr ⟨⟨s _ _ hd,U⟩,fun x H3 y=> ?_⟩
   obtain⟨q,b,k,v,hk,hb,hq,rfl,rfl⟩:=y
   rw [he]at hk
   obtain rfl:e=(k,v):=bE hk
   have sq:=Same.upd hq (.tup [.ref b,v])
   have tk:kvs.take (i+1)=kvs.take i++ [(k,v)]:=by rw [iH,he];rfl
   have fl:vs.length<=i:=by
    have h1:=bK length hv
    rw [aB]at h1
    rw [h1]
    exact aO (dM _ _) (by rw [bT];omega)
   refine step (k,v) (upd H' q (.tup [.ref b,v])) b q _ _ (dR he) (s.trans sq) (sq _ _ hb) Ag (fun W v' J G r6=>⟨G _ _ (sq _ _ hH),by rw [aB];omega,_,by omega,vs++ [(v',(k,v))],rfl,U,by rw [aJ];rfl,?_,?_,Ag,su ((s.trans sq).trans G)⟩)
    (fun W J G=>⟨_,by omega,vs,rfl,U,rfl,?_,fun x Z=>mono _ _ _ _ (hr x Z) (sq.trans G),G _ _ (sq _ _ hH),(s.trans sq).trans G⟩)
   . rw [tk,fE,aJ,hv]
     simp [W]
   . intro x Z
     rcases bG.mp Z with Z | Z
     . exact put _ _ _ _ _ (mono _ _ _ _ (hr x Z) (sq.trans G)) (G _ _ (sq _ _ hH))
     . have:x=(v',(k,v)):=by simpa using Z
       rw [this]
       exact put _ _ _ _ _ r6 (G _ _ (sq _ _ hH))
   . rw [tk,fE,hv]
     simp [W]
variable {Q:VK}
theorem Ahx:Abs σ H Q=∀p,H p=none->Q (.ref p) (upd H p (.dT [])):=rfl
section
variable {prog:Program}{w:World}{A:Around}{E:Value->Shared->Prop}{s:Shared}
theorem Acz {o:Obj}{Q:Value->Shared->Prop} (L:(d==sysModules)=false) (G:s.heap.get? d=some o) (M:o.ExactDict) (q:o.data= .dict es ep)
 (O:Q (.ref s.heap.objs.size) { s with heap:=s.heap.push { cls:= .type "dict_keyiterator",data:= .fields #[.ref d,.int 0 0,.int es.size 0,.int ep 0]}}):wpAny (model prog w) A (pyIter (.ref d)) Q E s:=by
 have J:s.TypeIs (.ref d) "dict":=⟨o,G,M.1⟩
 refine wpAny_pyIter_slot J F.slot_dict_iter (cN F.slot_dict_iter J F.entry_dict_iter ?_ (F.args_dict_iter_1 _))
 unfold Builtin.«dict.__iter__»
 refine aA ?_
 unfold Builtin.Dict.dictSlotNone
 refine aA (wpAny_notOrdered_dict J ?_)
 show wpAny _ _ (pure (Value.ref d)) _ _ s
 refine aE ?_
 show wpAny _ _ (Builtin.Dict.showsAll d>>=_) _ _ s
 unfold Builtin.Dict.showsAll
 rw [aF (by rw [L];exact aY)]
 refine aA (aE (aA (gT G q (aA (iM G q ?_)))))
 refine aA (cG (aE ⟨_,rfl,"dict_keyiterator",_,⟨_,aN _ rfl,rfl⟩,fD.lookup,?_⟩))
 simpa [rawInt]using O
theorem Acy {Z:Obj}{e:DictEntry}{Q:Option Value->Shared->Prop} (q:s.heap.IsKeyIter it d i es.size ep) (J:s.heap.get? d=some Z) (L:Z.data= .dict es ep) (he:es[i]? =some e)
 (hQ:∀h',h'.IsKeyIter it d (i+1) es.size ep->Heap.SameBut it s.heap h'->Q (some e.key) { s with heap:=h'}):wpAny (model prog w) A (pyNext (.ref it)) Q E s:=by
 obtain⟨o,W,hc,U⟩:=id q
 unfold pyNext
 refine aA (gL (cU (name:=Str.ofString "__next__") q.typeIs fD
  (cN fD q.typeIs F.entry_dict_keyiterator_next ?_ (F.args_dict_keyiterator_next_1 _))))
 refine aA (aE (aA (aA ?_)))
 first | refine aA (gF q.typeIs (aE ?_)) | refine aA (iE q.typeIs (aE ?_))
 refine aA (wpAny_fieldsOf W U ?_)
 have M:Builtin.Dict_items.ownsTuple "dict_keyiterator"=false:=by decide
 simp only [M,fF,fY]
 show wpAny _ _ (if(Value.ref d==Value.none)=true then _ else _) _ _ s
 rw [aF (show ¬((Value.ref d==Value.none)=true)from aY)]
 refine aA (aE (aA (gT J L ?_)))
 rw [aF (by simp)]
 refine aA (aE (aA (iM J L ?_)))
 rw [aF (by simp)]
 refine aE ?_
 obtain⟨O,rfl⟩:=Array.getElem?_eq_some_iff.mp he
 simp only [show ¬((i:Int)<0)from by omega,fY,eU,eN O]
 refine aA ?_
 first | refine aA (gF q.typeIs (aE ?_)) | refine aA (iE q.typeIs (aE ?_))
 refine aA (wpAny_isOneOf_keyiter q.typeIs ?_)
 show wpAny _ _ (setField (.ref it) 1 (rawInt ((i:Int)+1))>>=_) _ _ s
 refine aA (kG W U (by simp) ?_)
 have G:(s.heap.update it (Obj.mapFields (·.setIfInBounds 1 (rawInt ((i:Int)+1))))).IsKeyIter it d (i+1) es.size ep:=
  ⟨_,fN _ W (Obj.isFreed_of_fields (kM U _)),(Obj.cls_mapFields ..).trans hc,by rw [kM U];simp [rawInt]⟩
 refine aA (dP ?_)
 refine aA (wpAny_isOneOf_keyiter (s:={ s with heap:=s.heap.update it (Obj.mapFields (·.setIfInBounds 1 (rawInt ((i:Int)+1))))}) G.typeIs ?_)
 show wpAny _ _ (pure es[i].key) _ _ _
 exact aE (aE ⟨_,rfl,aE (hQ _ G (iD ..))⟩)
theorem Afu {O:Obj}{Q:Option Value->Shared->Prop} (Z:A.handled=none) (q:s.heap.IsKeyIter it d i es.size ep) (G:s.heap.get? d=some O) (J:O.data= .dict es ep) (M:es.size<=i)
 (hQ:∀h',Heap.ExtBut it s.heap h'->Q none { s with heap:=h'}):wpAny (model prog w) A (pyNext (.ref it)) Q E s:=by
 obtain⟨o,U,hc,W⟩:=id q
 unfold pyNext
 refine aA (gL (cU (name:=Str.ofString "__next__") q.typeIs fD
  (cN fD q.typeIs F.entry_dict_keyiterator_next ?_ (F.args_dict_keyiterator_next_1 _))))
 refine aA (aE (aA (aA ?_)))
 first | refine aA (gF q.typeIs (aE ?_)) | refine aA (iE q.typeIs (aE ?_))
 refine aA (wpAny_fieldsOf U W ?_)
 have L:Builtin.Dict_items.ownsTuple "dict_keyiterator"=false:=by decide
 simp only [L,fF,fY]
 show wpAny _ _ (if(Value.ref d==Value.none)=true then _ else _) _ _ s
 rw [aF (show ¬((Value.ref d==Value.none)=true)from aY)]
 refine aA (aE (aA (gT G J ?_)))
 rw [aF (by simp)]
 refine aA (aE (aA (iM G J ?_)))
 rw [aF (by simp)]
 refine aE ?_
 simp only [show ¬((i:Int)<0)from by omega,fY,eU,Array.getElem?_eq_none M]
 refine aA ?_
 first | refine aA (gF q.typeIs (aE ?_)) | refine aA (iE q.typeIs (aE ?_))
 show wpAny _ _ (setField (.ref it) 0 .none>>=_) _ _ s
 refine aA (kG U W (by simp) ?_)
 show wpAny _ _ (newExc (.type "StopIteration") []>>=_) _ _ _
 refine aA ?_
 simp only [newExc,newTuple]
 refine aA (cG ?_ (by size_fits))
 refine aA (m:=firstArgMember _ _) (wpAny_of_eq (a:=Value.none) (by first | rfl | (simp only [firstArgMember];rfl)) ?_)
 refine cG ?_ (by size_fits)
 simp only [raiseNew]
 refine aA (wpAny_handled ?_)
 rw [show A.in1.handled=none from Z]
 refine aA (aE (wpAny_throw ?_))
 refine aA (lE (T:="StopIteration") (b:=true) ⟨_,aN _ rfl,rfl⟩ isSubtype_stop ?_)
 exact aE (hQ _ (((iD ..).extBut.push _).push _))
theorem Zn (hh:A.handled=none) (I d:Addr) (O:d≠I) {W:Obj} (G:W.data= .dict es ep):
 Walks prog w A I [I,d] [I] es.size (fun i v=>∃e,es[i]? =some e/\v=e.key) (fun i h=>h.IsKeyIter I d i es.size ep/\h.get? d=some W) where
 sub:=fun b q=>by simp at q;simp [q]
 frame:=fun _ _ _ st Z=>⟨let ⟨o,e,r⟩:=st.1;⟨o,Z I (by simp) o e,r⟩,Z d (by simp) _ st.2⟩
 item:=fun i s Q E hi st J=>by
  refine Acy st.1 st.2 G (eN hi) fun h' L M=> ?_
  exact J _ h' s.toks ⟨_,eN hi,rfl⟩ ⟨L,M.extBut _ _ O st.2⟩ fun b o q e=>M.extBut b o (fun h=>q (by simp [h])) e
 done:=fun s Q E st J=>Afu hh st.1 st.2 G (aH _) fun h' U=>J h' s.toks fun b o q e=>U b o (fun h=>q (by simp [h])) e
 self:=fun _ _ _ _ st J=>wpAny_pyIter_keyiter st.1 J
theorem Afv {J:Obj} (lo:(d==sysModules)=false) (L:J.ExactDict) (G:J.data= .dict es ep):
 KdlSrc prog w "dict" d d es.size (fun i v=>∃e,es[i]? =some e/\v=e.key) (fun h=>h.get? d=some J) where
 type:=fun _ q=>⟨_,q,L.1⟩
 there:=fun _ q=>⟨aM q,aM q⟩
 keep:=fun _ _ q O=>O d (.inl rfl) _ q
 notList:=by decide
 notTuple:=by decide
 hint:=fun _ _ _ _ q M=>kdl_hint_dict ⟨_,q,L.1⟩ M
 iter:=fun _ _ U q=>⟨_,_,(fun _ _ M=>Acz lo q L G M),Zn U _ d (aV (aM q)) G,⟨⟨_,aN _ rfl,rfl,rfl⟩,aC _ q⟩⟩
theorem Vz {Q:Bool->Shared->Prop}:∀ {ns ms:List Int}{vs J:List Value} (i:Nat),IntsAre vs ns->IntsAre J ms->ns.length=ms.length->Q (HT.lexLt ns ms) s->KatLex prog w A true false Q (vs.zip J) i s
 | _,_,_,_,_,.nil,.nil,_,q=>q
 | _,_,_,_,_,.nil,.cons _ _ _,h,_=>by simp at h
 | _,_,_,_,_,.cons _ _ _,.nil,h,_=>by simp at h
 | _,_,_,_,i,.cons a t r,.cons c u r',h,q=>by
   rw [HT.Bu]at q
   refine kat_cons (wpAny_eqBool_int ?_)
   by_cases e:a=c
   . rw [aI e]at q
     have G:(a==c)=true:=by simp [e]
     rw [G]
     exact kat_yes (Vz (i+1) r r' (by simpa using h) q)
   . rw [aF e]at q
     have G:(a==c)=false:=by simp [e]
     rw [G]
     refine kat_no ?_
     cases i with
     | zero=>exact oneLt_int q
     | succ i=>
       have:(true&&(i+1==0))=false:=by simp
       rw [this]
       exact kat_one _ _ (lt_int q)
end
noncomputable abbrev Tpt:=Addr × List Int
structure Aeb (h:Heap) (t:Tpt):Prop where
 tu:∃its:List Value,IsTup h t.1 its.toArray/\IntsAre its t.2
theorem Aeb.keeps {t:Tpt} (x:Aeb h t) (k:∀b o,b≠a->h.get? b=some o->h'.get? b=some o) (h1:t.1≠a):Aeb h' t:=by
 obtain⟨q,⟨G,J,rt⟩,i⟩:=x
 exact⟨q,⟨G,k _ _ h1 J,rt⟩,i⟩
noncomputable def toI:Key->Int
 | .inl i=>i
 | .inr _=>0
theorem Jz:∀ks:List Int,(ks.map Sum.inl:List Key).map toI=ks
 | []=>rfl
 | _::r=>by
   show _::_=_
   rw [Jz r]
   rfl
theorem Ab1 {h:Heap}:∀ts:List Tpt,(∀t∈ts,Aeb h t/\t.2≠ [])->∃fs:List Value,KatTups h (ts.map fun t=>Value.ref t.1) fs/\fs.length=ts.length/\∀v∈fs,∃i u,v= .int i u
 | [],_=>⟨[],.nil,rfl,by simp⟩
 | t::r,k=>by
   obtain⟨fs,L,M,O⟩:=Ab1 r fun t q=>k t (.tail _ q)
   obtain⟨⟨U,⟨o,e,c,n,d⟩,J⟩,ne⟩:=k t (.head _)
   cases q:t.2 with
   | nil=>exact absurd q ne
   | cons x xs=>
     rw [q]at J
     cases J with
     | cons _ u W=>
       refine⟨.int x u::fs,KatTups.cons e c d (by simp) L,by simp [M],fun v G=> ?_⟩
       rcases aQ.mp G with rfl | G
       . exact⟨x,u,rfl⟩
       . exact O v G
theorem Anr {P:Program}{w:World}{A:Around}{E:Value->Shared->Prop}{x y:Tpt}{Q:Bool->Shared->Prop} (U:Aeb s.heap x) (W:Aeb s.heap y) (L:x.2.length=y.2.length) (q:Q (HT.lexLt x.2 y.2) s):
 wpAny (model P w) A (keyLt' (tuples' true) (.ref x.1) (.ref y.1)) Q E s:=by
 obtain⟨J,⟨o,e,c,n,d⟩,M⟩:=U
 obtain⟨G,⟨o',Z,c',n',d'⟩,O⟩:=W
 refine kat_lt e d Z d' ?_
 have l1:J.length=x.2.length:=M.length
 have l2:G.length=y.2.length:=O.length
 have ef:decide (J.toArray.size<G.toArray.size)=false:=by
  rw [aR,aR,l1,l2,L]
  simp
 rw [ef]
 exact Vz 0 M O L q
theorem Aht:∀ {kvs:List (List Key × V)}{ys:List (List Key × Addr × Value)},Paired (fun(p:List Key × V) (q:List Key × Addr × Value)=>p.1=q.1/\H q.2.1=some (.tup (p.1.map kV))/\RelV p.2 q.2.2) kvs ys->(∀e∈kvs,∃ks:List Int,e.1=ks.map Sum.inl/\ks.length=n)->
 ∃ts:List Tpt,(ts.map fun t=>(t.2.map Sum.inl:List Key))=kvs.map (·.1)/\(ts.map fun t=>t.1)=ys.map (fun y=>y.2.1)/\∀t∈ts,H t.1=some (.tup (t.2.map V.int))/\t.2.length=n:=by
 intro kvs ys J
 induction J with
 | nil=>exact fun _=>⟨[],rfl,rfl,by simp⟩
 | @cons p q ps qs O _ U=>
   intro G
   obtain⟨ts,W,Z,e3⟩:=U (fun e he=>G e (.tail _ he))
   obtain⟨ks,M,kl⟩:=G p (.head _)
   refine⟨(q.2.1,ks)::ts,by rw [aU,aU,W,M],by rw [aU,aU,Z],fun t L=> ?_⟩
   rcases aQ.mp L with rfl | L
   . refine⟨?_,kl⟩
     have:=O.2.1
     rw [M,aK]at this
     exact this
   . exact e3 t L
variable {ns:List Int}
theorem Aan {xs:Array (Int × Tok)} (q:ns=xs.toList.map (·.1)) (hsz:0<xs.size) {v:Value} (J:(intItems xs)[argBest (fun i j=>decide (numAt xs i>numAt xs j)) (xs.size-1)]? =some v):
 ∃(M:Int) (t:Tok),v= .int M t/\M∈ns/\∀a∈ns,a<=M:=by
 obtain⟨t,rfl⟩:=intItems_at J
 obtain⟨h1,h2⟩:=argBest_gt (numAt xs) (xs.size-1)
 refine⟨_,t,rfl,?_,fun a G=> ?_⟩
 . rw [q,numAt_eq];exact getD_mem (by rw [aB,bJ];omega)
 . rw [q]at G
   obtain⟨j,L,rfl⟩:=mem_getD G
   rw [aB,bJ]at L
   rw [<-numAt_eq];exact h2 j (by omega)
theorem Y0 (O:X.calm=true):Gv X (.builtin "max") (fun xs H Q=>∃(a:Addr) (ns:List Int),xs=[.ref a]/\(SqL X.K H a (ns.map V.int)\/SqT X.K H a (ns.map V.int))/\ns≠ []/\∀M,M∈ns->(∀x∈ns,x<=M)->Q (.int M) H):=by
 intro pins s σ H xs us Q I r h
 obtain⟨a,ns,rfl,U,ne,q⟩:=h
 obtain⟨u,rfl,ru⟩:=vals1 r
 cases ru
 have W:∀ {G:List Value},Vals (ns.map V.int) G->∃xs:Array (Int × Tok),G.toArray=intItems xs/\ns=xs.toList.map (·.1)/\0<xs.size:=fun {G} Z=>by
  have hi:IntsAre G ns:=intsAre_of Z
  obtain⟨xs,e⟩:=hi.allInts.items
  have J:ns=xs.toList.map (·.1):=by rw [<-hi.numsOf,<-nums_intItems,<-e]
  refine⟨xs,e,J,?_⟩
  have h3:0<ns.length:=eA.mpr ne
  rw [J,aB,bJ]at h3
  exact h3
 rcases U with U | U
 . obtain⟨G,Z,p,_⟩:=I.list U
   obtain⟨xs,e,J,L⟩:=W Z
   have hl:=p.isList
   rw [e]at hl
   refine max_intList (I.ok.hd O) hl L fun v h' tk hv hk=> ?_
   obtain⟨M,t,rfl,m1,m2⟩:=Aan J L hv
   exact⟨.int M,H,I.kept hk,⟨t,rfl⟩,q M m1 m2⟩
 . obtain⟨G,Z,p,_⟩:=I.tuple U
   obtain⟨xs,e,J,L⟩:=W Z
   have hT:s.heap.IsTuple a (intItems xs):=by rw [<-e];exact p
   have al:a<s.heap.objs.size:=p.lt
   refine call_max_walk (kH hT ?_)
   refine⟨_,[_,a],[_],_,_,_,_,rfl,Walks.tuple (A:=X.A.in1) (I.ok.hd O) _ a (aV al) (intItems xs),⟨⟨_,aN _ rfl,rfl,rfl⟩,hT.push _⟩,fun c O=> ?_,by simpa [intItems]using L,CmpOf.ints_gt (numAt xs) (fun _ _=>intItems_at),fun v h' tk hP hk=> ?_⟩
   . show c<(s.heap.push _).objs.size
     rw [dO]
     rcases aQ.mp O with rfl | O
     . exact iQ _
     . rcases aQ.mp O with rfl | O
       . exact bP al
       . cases O
   . obtain⟨M,t,rfl,m1,m2⟩:=Aan J L (v:=v) (by simpa [intItems]using hP)
     refine⟨.int M,H,I.kept fun c o e=>hk c o (fun hm=> ?_) (aC _ e),⟨t,rfl⟩,q M m1 m2⟩
     rcases aQ.mp hm with e1 | hm
     . exact absurd (aM e) (by rw [e1];exact dD _)
     . cases hm
open PySem PySem.Spec PyProof.Rows PySem.W
section
variable {prog:Program}{w:World}{A:Around}{E:Value->Shared->Prop}{I:Addr}{fp wr:List Addr}{n:Nat}{P:Nat->Value->Prop}{St:Nat->Heap->Prop}{R:Result->Shared->Prop}{kw:List (Str × Value)}
theorem Ac2 (W:Walks prog w A.in1 I fp wr n P St) (bt:Nat->Nat->Bool) (a6:CmpOf prog w A.in1 .Gt P bt) (S:Addr) (a7:S∉fp):∀(k j:Nat) (s:Shared) (Z:Value) (c:Nat),k=n-(j+1)->j<n->St (j+1) s.heap->P (argBest bt j) Z->
 s.heap.get? S=some { cls:= .type "list",dict:=none,data:= .seq #[Z,Z] c,slots:= #[]}->
 (∀v h' tk,P (argBest bt (n-1)) v->(∀b o,b∉wr->b≠S->s.heap.get? b=some o->h'.get? b=some o)->R (.ok (.ret v)) { s with heap:=h',toks:=tk})->
 codeAny (model prog w) A (.builtin "max.loop" ⟨[.ref I,.none,.ref S],kw⟩) R s:=by
 have a8:S∉wr:=fun h=>a7 (W.sub _ h)
 have L:(toString "max"++toString ".loop":String)="max.loop":=by decide
 intro k
 induction k with
 | zero=>
   intro j s Z c hk hj a2 a0 hS hR
   have a9:j+1=n:=by omega
   refine jV F.entry_max_loop ?_
   rw [gZ fZ _]
   show wpAny _ A.in1 (seqItems? (.ref S)>>=_) _ _ s
   refine aA (dZ hS rfl ?_)
   show wpAny _ A.in1 (tryCatch (pyNext (.ref I)) _>>=_) _ _ s
   refine aA (jA (W.done s _ _ (a9▸a2) fun h' tk G=> ?_))
   have M:=G S _ a8 hS
   show wpAny _ A.in1 (updateSeq S (fun _=> #[])>>=_) _ _ _
   refine aA ?_
   refine wpAny_updateSeq M rfl (aA (iN (aE ?_)))
   refine hR Z _ tk (by rw [<-a9];exact a0) fun b o q J e=>(eQ _ _ (cS J)).trans (G b o q e)
 | succ k ih=>
   intro j s Z c hk hj a2 a0 hS hR
   have a3:j+1<n:=by omega
   refine jV F.entry_max_loop ?_
   rw [gZ fZ _]
   show wpAny _ A.in1 (seqItems? (.ref S)>>=_) _ _ s
   refine aA (dZ hS rfl ?_)
   show wpAny _ A.in1 (tryCatch (pyNext (.ref I)) _>>=_) _ _ s
   refine aA (jA (W.item (j+1) s _ _ a3 a2 fun v h' tk hP a1 G=> ?_))
   have M:=G S _ a8 hS
   show wpAny _ A.in1 (tryCatch (holding [v,v] (richCompare .Gt v Z>>=_)) _>>=_) _ _ _
   refine aA (jA (dP (aA (a6 (j+1) (argBest bt j) v Z _ _ _ hP a0 ?_))))
   refine aA (dP (fR ?_))
   refine aA (iN (aE ?_))
   cases hb:bt (j+1) (argBest bt j)with
   | true=>
     simp only [gG]
     refine aA ?_
     refine wpAny_updateSeq M rfl (aA (iN ?_))
     rw [L]
     refine aE ⟨lC fZ _,ih (j+1) _ v _ (by omega) a3 (W.frame _ _ _ a1 fun b aa o e=> ?_) (by simp only [argBest,hb,gG];exact hP) (fN _ M rfl)
      fun v' a4 O a5 U=> ?_⟩
     . exact(eQ _ _ (fun h:S=b=>a7 (by rw [h];exact aa))).trans e
     . exact hR v' a4 O a5 fun b o q J e=>U b o q J ((eQ _ _ (cS J)).trans (G b o q e))
   | false=>
     simp only [fF,fY]
     refine aA (iN ?_)
     rw [L]
     refine aE ⟨lC fZ _,ih (j+1) _ Z c (by omega) a3 a1 (by simp only [argBest,hb,fF,fY];exact a0) M fun v' a4 O a5 U=> ?_⟩
     exact hR v' a4 O a5 fun b o q J e=>U b o q J (G b o q e)
theorem Zo (W:Walks prog w A.in1 I fp wr n P St) (bt:Nat->Nat->Bool) (M:CmpOf prog w A.in1 .Gt P bt) (S:Addr) (J:S∉fp) {d:Value}{c:Nat} (O:St 0 s.heap)
 (hS:s.heap.get? S=some { cls:= .type "list",dict:=none,data:= .seq #[] c,slots:= #[]})
 (h0:n=0->∀h' tk,(∀b o,b∉wr->b≠S->s.heap.get? b=some o->h'.get? b=some o)->R (.ok (.ret d)) { s with heap:=h',toks:=tk})
 (hR:0<n->∀v h' tk,P (argBest bt (n-1)) v->(∀b o,b∉wr->b≠S->s.heap.get? b=some o->h'.get? b=some o)->R (.ok (.ret v)) { s with heap:=h',toks:=tk}):
 codeAny (model prog w) A (.builtin "max.loop" ⟨[.ref I,.none,.ref S],[(Str.ofString "default",d)]⟩) R s:=by
 have a3:S∉wr:=fun h=>J (W.sub _ h)
 have L:(toString "max"++toString ".loop":String)="max.loop":=by decide
 refine jV F.entry_max_loop ?_
 rw [gZ fZ _]
 show wpAny _ A.in1 (seqItems? (.ref S)>>=_) _ _ s
 refine aA (dZ hS rfl ?_)
 show wpAny _ A.in1 (tryCatch (pyNext (.ref I)) _>>=_) _ _ s
 by_cases hn:0<n
 . refine aA (jA (W.item 0 s _ _ hn O fun v h' tk hP U q=> ?_))
   have Z:=q S _ a3 hS
   show wpAny _ A.in1 (updateSeq S (fun _=> #[v,v])>>=_) _ _ _
   refine aA ?_
   refine wpAny_updateSeq Z rfl ?_
   rw [L]
   refine aE ⟨lC fZ _,Ac2 W bt M S J _ 0 _ v _ rfl hn (W.frame _ _ _ U fun b a4 o e=> ?_) hP (fN _ Z rfl) fun v' a5 a0 a6 a1=> ?_⟩
   . exact(eQ _ _ (fun h:S=b=>J (by rw [h];exact a4))).trans e
   . exact hR hn v' a5 a0 a6 fun b o G a2 e=>a1 b o G a2 ((eQ _ _ (cS a2)).trans (q b o G e))
 . have z:n=0:=by omega
   refine aA (jA (W.done s _ _ (z▸O) fun h' tk q=> ?_))
   refine aA (jL (aE ?_))
   exact h0 z h' tk fun b o G _ e=>q b o G e
theorem Ac0 (a v:Value):argsOk "max" ⟨[a],[(Str.ofString "default",v)]⟩:=by unfold argsOk;kernel_rfl
theorem Ac1 {x d:Value}{s:Shared}{Q:Value->Shared->Prop}
 (h:wpAny (model prog w) A.in1 (pyIter x) (fun it q=>∃I fp wr n P St O,it= .ref I/\Walks prog w A.in1 I fp wr n P St/\St 0 q.heap/\(∀b∈fp,b<q.heap.objs.size)/\CmpOf prog w A.in1 .Gt P O/\
   (n=0->∀h' tk,(∀b o,b∉wr->q.heap.get? b=some o->h'.get? b=some o)->Q d { q with heap:=h',toks:=tk})/\
   (0<n->∀v h' tk,P (argBest O (n-1)) v->(∀b o,b∉wr->q.heap.get? b=some o->h'.get? b=some o)->Q v { q with heap:=h',toks:=tk})) E s):
 wpAny (model prog w) A (call (.builtin "max") [x] [(Str.ofString "default",d)]) Q E s:=by
 have G:(toString "max"++toString ".loop":String)="max.loop":=by decide
 refine kmb_tree PySem.F.kind_max PySem.F.plain_max PySem.F.entry_max (Ac0 _ _) ?_
 show wpAny _ A.in1 (Builtin.Builtins.bindParams "max" ["key","default"] 0 ⟨[],[(Str.ofString "default",d)]⟩>>=_) _ _ s
 refine aA (wpAny_of_eq (show Builtin.Builtins.bindParams "max" ["key","default"] 0 ⟨[],[(Str.ofString "default",d)]⟩=pure [none,some d]from rfl) ?_)
 refine aA (aE ?_)
 refine aA (cT h (fun it q L=> ?_) fun _ _ e=>e)
 obtain⟨I,fp,wr,n,P,St,O,rfl,W,U,Z,M,a0,hQ⟩:=L
 refine aA (cG ?_)
 have a1:q.heap.objs.size∉fp:=fun hm=>dD _ (Z _ hm)
 rw [G]
 refine aE ⟨lC fZ _,Zo W O M q.heap.objs.size a1 (W.frame _ _ _ U fun b _ o e=>aC _ e) (aN _ rfl) (fun z h' tk hk=> ?_) fun z v h' tk hP hk=> ?_⟩
 . exact a0 z h' tk fun b o J e=>hk b o J (aV (aM e)) (aC _ e)
 . exact hQ z v h' tk hP fun b o J e=>hk b o J (aV (aM e)) (aC _ e)
end
noncomputable def Ahk (K:Frag) (t:TA) (td:TE):TE:=fun σ H Q=>t σ H fun vs H1=>td σ H1 fun d H2=>∃(a:Addr) (ns:List Int),vs=[.ref a]/\SqL K H2 a (ns.map V.int)/\(ns=[]->Q d H2)/\(ns≠ []->∀M,M∈ns->(∀x∈ns,x<=M)->Q (.int M) H2)
theorem Alk {K:Frag}{t:TA}:Ahk K t td σ H Q=t σ H (fun q H1=>td σ H1 fun d H2=>∃(a:Addr) (ns:List Int),q=[.ref a]/\SqL K H2 a (ns.map V.int)/\(ns=[]->Q d H2)/\(ns≠ []->∀M,M∈ns->(∀x∈ns,x<=M)->Q (.int M) H2)):=rfl
theorem Aa6 {X:Cx}{e f:Expr}{t:TA}{td:TE}{p kp pos:Pos} (hc:X.calm=true) (hg:Gl X "max") (hm:X.mg "max"=none) (ha:PA X [e] t) (hd:PE X f td) (h1:Di e=true:=by rfl):PE X (.Call (.Name "max" p) [e] [⟨some "default",f,kp⟩] pos) (Ahk X.K t td):=by
 intro pins s σ H Q I h
 refine kJ (Lp I hg hm gA ?_ (by decide) (by decide))
 have se:=Hz (env:=X.env) (e:=e) (es:=[]) h1
 refine callWith_kw (thn (ha pos pins s σ H _ I h) fun us s1 ⟨vs,H1,I1,r1,q1⟩=>kws_cons (thn (hd pins s1 σ H1 _ I1 q1) fun dv s2 ⟨d,H2,G,rd,q2⟩=>kws_nil ?_)) (by rw [se];rfl) (by rw [se];rfl)
 obtain⟨a,ns,rfl,hS,q0,qM⟩:=q2
 obtain⟨u,rfl,ru⟩:=vals1 r1
 cases ru
 obtain⟨J,rv,pl,_⟩:=G.list hS
 have hi:IntsAre J ns:=intsAre_of rv
 obtain⟨xs,ex⟩:=hi.allInts.items
 have q:ns=xs.toList.map (·.1):=by rw [<-hi.numsOf,<-nums_intItems,<-ex]
 have hl:=pl.isList
 rw [ex]at hl
 have L:ns.length=xs.size:=by rw [q,aB,bJ]
 show wpAny (model X.prog X.w) X.A (call (.builtin "max") [.ref a] [(Str.ofString "default",dv)]) _ _ s2
 refine Ac1 (iter_intList hl fun a0 e st O U=> ?_)
 subst e
 refine⟨_,_,_,_,_,_,_,rfl,Walks.list (A:=X.A.in1) (G.ok.hd hc) _ a U (intItems xs),st,O,CmpOf.ints_gt (numAt xs) (fun _ _=>intItems_at),fun z h' tk W=> ?_,fun z v h' tk hP W=> ?_⟩
 . have z':ns=[]:=kN.mp (by rw [L];simpa [intItems]using z)
   exact⟨d,H2,G.kept (old_kept W),rd,q0 z'⟩
 . have Z:0<xs.size:=by simpa [intItems]using z
   obtain⟨M,t,rfl,m1,m2⟩:=Aan q Z (v:=v) (by simpa [intItems]using hP)
   exact⟨.int M,H2,G.kept (old_kept W),⟨t,rfl⟩,qM (fun e=>by rw [e]at L;simp at L;omega) M m1 m2⟩
set_option maxRecDepth 100000
end L2
namespace L2
open PySem PySem.Spec PyProof.Rows
theorem T6:∀(names:List (Str × NameKind)) (n:Nat) (q:List (Str × Addr)) (y:Str) (c:Addr),(cellsFrom n names q).lookup y=some c->q.lookup y=some c\/(n<=c/\(y,NameKind.cell)∈names)
 | [],_,_,_,_,h=> .inl h
 | (x,k)::r,n,q,y,c,h=>by
   unfold cellsFrom at h
   by_cases G:(k==NameKind.cell)=true
   . rw [aI G]at h
     have J:k= .cell:=by simpa using G
     subst J
     rcases T6 r (n+1) _ y c h with z | ⟨z,m⟩
     . rw [dG]at z
       cases e:y==x with
       | true=>
         rw [e]at z
         have L:y=x:=by simpa using e
         subst L
         exact .inr ⟨eJ (bE z),eE⟩
       | false=>
         rw [e]at z
         exact .inl z
     . exact .inr ⟨by omega,cO _ m⟩
   . rw [aF G]at h
     rcases T6 r n q y c h with z | ⟨z,m⟩
     . exact .inl z
     . exact .inr ⟨z,cO _ m⟩
theorem Y8:∀(names:List (Str × NameKind)) (n:Nat) (q:List (Str × Addr)) (y:Str),¬(y,NameKind.cell)∈names->(cellsFrom n names q).lookup y=q.lookup y
 | [],_,_,_,_=>rfl
 | (x,k)::r,n,q,y,h=>by
   have J:¬(y,NameKind.cell)∈r:=fun z=>h (cO _ z)
   unfold cellsFrom
   by_cases G:(k==NameKind.cell)=true
   . have L:k= .cell:=by simpa using G
     subst L
     rw [aI G,Y8 r _ _ y J,dG]
     cases e:y==x with
     | true=>
       have M:y=x:=by simpa using e
       subst M
       exact absurd eE h
     | false=>rfl
   . rw [aF G,Y8 r _ _ y J]
theorem Y5:∀(names:List (Str × NameKind)) (n:Nat) (q:List (Str × Addr)) (y:Str),((y,NameKind.cell)∈names\/∃c,q.lookup y=some c)->∃c,(cellsFrom n names q).lookup y=some c
 | [],_,_,_,h=>by
   rcases h with h | h
   . cases h
   . exact h
 | (x,k)::r,n,q,y,h=>by
   unfold cellsFrom
   by_cases G:(k==NameKind.cell)=true
   . rw [aI G]
     refine Y5 r _ _ y ?_
     rw [dG]
     cases e:y==x with
     | true=>exact .inr ⟨n,rfl⟩
     | false=>
       rcases h with h | h
       . rcases aQ.mp h with z | z
         . cases z
           simp at e
         . exact .inl z
       . exact .inr h
   . rw [aF G]
     refine Y5 r _ _ y ?_
     rcases h with h | h
     . rcases aQ.mp h with z | z
       . cases z
         exact absurd rfl G
       . exact .inl z
     . exact .inr h
theorem Y7:∀(names:List (Str × NameKind)) (n lo:Nat) (q:List (Str × Addr)) (y:Str) (c:Addr),lo<=n->((y,NameKind.cell)∈names\/∀d,q.lookup y=some d->lo<=d)->(cellsFrom n names q).lookup y=some c->lo<=c
 | [],_,_,_,_,_,_,h,e=>by
   rcases h with h | h
   . cases h
   . exact h _ e
 | (x,k)::r,n,lo,q,y,c,hl,h,e=>by
   unfold cellsFrom at e
   by_cases J:(k==NameKind.cell)=true
   . rw [aI J]at e
     refine Y7 r (n+1) lo _ y c (by omega) ?_ e
     cases ex:y==x with
     | true=>
       refine .inr fun d G=> ?_
       rw [dG,ex]at G
       have:n=d:=bE G
       omega
     | false=>
       rcases h with h | h
       . rcases aQ.mp h with z | z
         . cases z
           simp at ex
         . exact .inl z
       . refine .inr fun d G=>h d ?_
         rw [dG,ex]at G
         exact G
   . rw [aF J]at e
     refine Y7 r n lo q y c hl ?_ e
     rcases h with h | h
     . rcases aQ.mp h with z | z
       . cases z
         exact absurd rfl J
       . exact .inl z
     . exact .inr h
theorem Y6:∀(names:List (Str × NameKind)) (n:Nat) (q:List (Str × Addr)),(∀x y c,q.lookup x=some c->q.lookup y=some c->x=y)->(∀x c,q.lookup x=some c->c<n)->
 ∀x y c,(cellsFrom n names q).lookup x=some c->(cellsFrom n names q).lookup y=some c->x=y
 | [],_,_,h,_=>h
 | (z,k)::r,n,q,h,hb=>by
   unfold cellsFrom
   by_cases O:(k==NameKind.cell)=true
   . rw [aI O]
     have L:∀x c,((z,n)::q).lookup x=some c->(x=z/\c=n)\/(q.lookup x=some c):=fun x c e=>by
      rw [dG]at e
      cases ex:x==z with
      | true=>
        rw [ex]at e
        exact .inl ⟨by simpa using ex,(bE e).symm⟩
      | false=>
        rw [ex]at e
        exact .inr e
     refine Y6 r (n+1) _ (fun x y c W U=> ?_) fun x c e=> ?_
     . rcases L x c W with⟨G,M⟩ | G
       . rcases L y c U with⟨J,_⟩ | J
         . rw [G,J]
         . exact absurd (hb y c J) (by rw [M];exact dD _)
       . rcases L y c U with⟨_,Z⟩ | J
         . exact absurd (hb x c G) (by rw [Z];exact dD _)
         . exact h x y c G J
     . rcases L x c e with⟨_,M⟩ | G
       . rw [M]
         exact iQ _
       . exact bP (hb x c G)
   . rw [aF O]
     exact Y6 r n q h hb
theorem T5:∀(names:List (Str × NameKind)) (h:Heap) (q:List (Str × Addr)) (y:Str) (c:Addr),(cellsFrom h.objs.size names q).lookup y=some c->q.lookup y=some c\/(pushCells h names).IsCell c none
 | [],_,_,_,_,e=> .inl e
 | (x,k)::r,h,q,y,c,e=>by
   unfold cellsFrom at e
   unfold pushCells
   by_cases G:(k==NameKind.cell)=true
   . rw [aI G]at e ⊢
     rw [<-dO h { cls:= .type "cell",data:= .cell none}]at e
     rcases T5 r _ _ y c e with z | z
     . rw [dG]at z
       cases ex:y==x with
       | true=>
         rw [ex]at z
         have:h.objs.size=c:=bE z
         subst this
         exact .inr ⟨_,pushCells_keeps r _ _ _ (aN _ rfl),rfl⟩
       | false=>
         rw [ex]at z
         exact .inl z
     . exact .inr z
   . rw [aF G]at e ⊢
     exact T5 r h q y c e
theorem Aii {M:Model}{A:Around}{E:Value->Shared->Prop}{s:Shared}{scope:Scope}{g:Addr}{G:List (Str × Addr)}{qual:Str}{env:Env}{Q:Env->Shared->Prop}
 (q:Q { scope:=scope,locals:=s.heap.objs.size,globals:=g,cells:=cellsFrom (s.heap.objs.size+1) scope.names G,qual:=qual,func:=none,code:=env.code,frame:=env.frame,builtins:=env.builtins} { s with heap:=pushCells (s.heap.push { cls:= .type "dict",data:= .dict #[]}) scope.names}):
 wpAny M A (newFunctionEnv scope g G [] qual none .none (some env)) Q E s:=by
 simp only [newFunctionEnv,jQ,gG]
 refine aA (wpAny_alloc (aA (wpAny_layCells _ (fun x k J=>by cases h:k==NameKind.cell<;>simp [h]) _ _ _ _ ?_)))
 have z:({ s with heap:=s.heap.push { cls:= .type "dict",data:= .dict #[]}}:Shared).heap.objs.size=s.heap.objs.size+1:=dO ..
 rw [z]
 refine aA ?_
 rw [jR]
 exact aE (aE q)
noncomputable def cxD (X:Cx) (N:List Str) (scope:Scope) (ex:List Addr) (s:Shared) (H:Hp):Cx where
 prog:=X.prog
 w:=X.w
 K:=X.K
 mg:=X.mg
 base:=X.base
 A:=X.A
 N:=N
 s₀:=s
 H₀:=H
 env:=compEnvC scope (cellsFrom (s.heap.objs.size+1) scope.names (scope.names.foldl (clF X.env) [])) s.heap.objs.size X.env
 outer:=X.stack
 stack:=X.stack
 ex:=ex
 fn:=fun x=>scope.names.contains (x,NameKind.cell)
 calm:=X.calm
 pn:=[]
 xe:=fun _ _=>False
structure Dy (X:Cx) (ts:List Str) (fs:List (Nat × Str)) (scope:Scope):Prop where
 kind:scope.kind= .function
 names:∀y∈scope.names,y.2= .local ->scope.names.lookup y.1=some .local
 free:∀y∈scope.names,y.2= .free->X.env.kindOf y.1=some .cell\/X.env.kindOf y.1=some .free
 at':∀p∈fs,X.N[p.1]? =some p.2/\(p.2,NameKind.free)∈scope.names/\((relabel scope X.env).names.lookup p.2=some .cell\/(relabel scope X.env).names.lookup p.2=some .free)/\¬(p.2,NameKind.cell)∈scope.names
noncomputable def Ao1 (sc:Scope) (N:List Str) (fs:List (Nat × Str)) (scope:Scope):Bool:=
 (scope.kind== .function)&&(scope.names.all fun y=>y.2 != .local ||scope.names.lookup y.1==some .local)&&
 (scope.names.all fun y=>y.2 != .free||(sc.names.lookup y.1==some .cell||sc.names.lookup y.1==some .free))&&
 fs.all fun p=>N[p.1]? ==some p.2&&(scope.names.contains (p.2,NameKind.free)&&(((rlb sc scope).lookup p.2==some .cell||(rlb sc scope).lookup p.2==some .free)&& !scope.names.contains (p.2,NameKind.cell)))
variable {X:Cx}{scope:Scope}{N:List Str}
theorem Dy.of {ts:List Str}{fs:List (Nat × Str)}{sc:Scope} (G:X.env.scope=sc) (e2:X.N=N) (h:Ao1 sc N fs scope=true):Dy X ts fs scope:=by
 unfold Ao1 at h
 simp only [cM,gQ,Bool.or_eq_true,bne_iff_ne,beq_iff_eq,iP,Bool.not_eq_true']at h
 obtain⟨⟨⟨h1,J⟩,L⟩,M⟩:=h
 refine⟨h1,fun y q e=> ?_,fun y q e=> ?_,fun p hp=> ?_⟩
 . rcases J y q with z | z
   . exact absurd e z
   . exact z
 . rcases L y q with z | z
   . exact absurd e z
   . show X.env.scope.names.lookup y.1=_\/X.env.scope.names.lookup y.1=_
     rw [G]
     exact z
 . obtain⟨a,b,c,d⟩:=M p hp
   refine⟨by rw [e2];exact a,b,?_,fun z=> ?_⟩
   . subst G
     exact c
   . rw [<-iP]at z
     rw [z]at d
     cases d
variable {c:Addr}{n:Nat}{pins:List (Addr × Obj)}{σ:St}{H:Hp}{s:Shared}
section
variable {X:Cx}{elt tg iter:Expr}{ifs:List Expr}{scope:Scope}{pos:Pos}{wi:TI}{g:TG}{tt:TT}{te:TE}{ts:List Str}{fs:List (Nat × Str)}
theorem Dy.clos (S:Dy X ts fs scope) (ok:X.Ok):∀x∈scope.names,x.2= .free->∃c,X.env.cells.lookup x.1=some c:=fun x q G=>ok.has x.1 (S.free x q G)
theorem Dy.sub0 (S:Dy X ts fs scope) (ok:X.Ok) {y:Str} (h:(scope.names.foldl (clF X.env) []).lookup y=some c):X.env.cells.lookup y=some c:=by
 rcases Qc scope.names [] y c (S.clos ok) h with z | z
 . simp at z
 . exact z
theorem Dy.sub (S:Dy X ts fs scope) (ok:X.Ok) {y:Str} (h:(cellsFrom n scope.names (scope.names.foldl (clF X.env) [])).lookup y=some c):X.env.cells.lookup y=some c\/n<=c:=by
 rcases T6 _ _ _ _ _ h with z | ⟨z,_⟩
 . exact .inl (S.sub0 ok z)
 . exact .inr z
theorem Xa {L s4:Shared}{ex:List Addr} (S:Dy X ts fs scope) (I:Inv X pins σ H L)
 (J:∀b∈ex,P0 X pins H b/\∃o,L.heap.get? b=some o) (a5:s4.os=L.os) (hg:s4.gens=L.gens) (hk:∀b u,L.heap.get? b=some u->s4.heap.get? b=some u)
 (hn:s4.heap.Ns L.heap.objs.size fun _=>none) (a6:∀y c,(cellsFrom (L.heap.objs.size+1) scope.names (scope.names.foldl (clF X.env) [])).lookup y=some c->(scope.names.foldl (clF X.env) []).lookup y=some c\/s4.heap.IsCell c none):Inv (cxD X (cpN ts fs) scope ex L H) [] (cpσ ts.length fs σ) H s4:=by
 have ok:=I.ok
 have cl:∀y c,X.env.cells.lookup y=some c->c<L.heap.objs.size:=fun y c e=>(I.cell y c e).choose_spec.lt
 have a7:∀b∈ex,b≠L.heap.objs.size:=fun b M=>by
  obtain⟨_,o,O⟩:=J b M
  exact aV (aM O)
 refine⟨⟨ok.mod,S.kind,ok.glob,ok.blt,aH _,Y6 _ _ _ (fun y z c h1 h2=>ok.inj y z c (S.sub0 ok h1) (S.sub0 ok h2)) (fun y c h=>bP (cl y c (S.sub0 ok h))),fun y W=> ?_,fun y c h e=>Nat.le_of_succ_le (Y7 _ _ _ _ y c (aH _) (.inl (iP.mp h)) e),ok.hd,ok.frames,.inl rfl,fun b M=>⟨a7 b M,fun x c e=>(S.sub ok e).elim ((J b M).1.2.2.2.2.1 x c) fun z z2=> ?_⟩,
  I.bs,aO ok.bsz I.sz,fun b o e M=> ?_,fun b M=> ?_,I.stack,I.stkFree⟩,a5,by rw [hg];exact I.bare,Un.kept hk,⟨_,hn,fun i x v h1 h2 h3=> ?_⟩,fun y c e=> ?_,I.hok.fresh (aH _),fun y c e=>(S.sub ok e).elim (I.freeC y c) fun z=>I.hok.fresh (Nat.le_of_succ_le z),
  fun p hp=>absurd (show p∈([]:List (Addr × Obj))from hp) (by simp),I.hok.kept hk,?_⟩
 . have z:∃k',(k'=NameKind.cell\/k'= .free)/\(scope.names.map fun(n,k)=>if(k==NameKind.free&&X.env.scope.kind== .function&&X.env.kindOf n==some .cell)then(n,NameKind.cell)else(n,k)).lookup y=some k':=by
    rcases W with W | W
    . exact⟨_,.inl rfl,W⟩
    . exact⟨_,.inr rfl,W⟩
   obtain⟨k',a8,hl⟩:=z
   obtain⟨k,hm,h2⟩:=Ip hl
   refine Y5 _ _ _ y ?_
   rcases h2 with e | ⟨e,_⟩
   . subst e
     rcases a8 with e | e
     . subst e
       exact .inl hm
     . exact .inr (Qa scope.names [] y (.inl ⟨_,hm,e,rfl⟩))
   . exact .inr (Qa scope.names [] y (.inl ⟨_,hm,e,rfl⟩))
 . subst z2
   obtain⟨_,o,O⟩:=J c M
   have:=aM O
   exact dD _ (bH (bP this) z)
 . rcases(J b M).1.2.2.2.1 with z | z
   . exact ok.noex b o e z
   . exact absurd (bH (aM e) (aO ok.bsz z)) (dD _)
 . intro a9
   rcases aQ.mp (I.stkSub b a9)with e | e
   . exact(J b M).1.2.1 e
   . exact(J b M).1.2.2.1 e
 . unfold cpσ at h2
   by_cases hi:i<ts.length
   . rw [jW (by simpa using hi),List.getElem?_replicate]at h2
     split at h2<;>cases h2
   . rw [cR (by simpa using hi),List.length_replicate]at h2
     have G:(cpN ts fs)[i]? =some x:=h1
     unfold cpN at G
     rw [cR (by omega)]at G
     rw [aZ]at G h2
     cases e:fs[i-ts.length]? with
     | none=>rw [e]at G;cases G
     | some p=>
       rw [e]at G h2
       have ex':p.2=x:=bE G
       have Z:(σ[p.1]?).join=some v:=bE h2
       have e3:σ[p.1]? =some (some v):=by
        cases q:σ[p.1]? with
        | none=>rw [q]at Z;cases Z
        | some o=>rw [q]at Z;cases o with | none=>cases Z | some v'=>cases Z;rfl
       obtain⟨a1,a2,a3,a4⟩:=S.at' p (dR e)
       obtain⟨m,_,hl⟩:=I.loc
       have kd:=S.free _ a2 rfl
       have aa:Vis X.env.scope p.2:=by
        rcases kd with z | z
        . exact .inr (.inl z)
        . exact .inr (.inr z)
       obtain⟨u,r,l⟩:=hl p.1 p.2 v a1 e3 aa
       refine⟨u,r,?_⟩
       rcases l with⟨z,_⟩ | ⟨_,c,hc,U⟩
       . rcases kd with q | q
         . rw [q]at z;cases z
         . rw [q]at z;cases z
       . obtain⟨c',a0⟩:=Qa (env:=X.env) scope.names [] p.2 (.inl ⟨_,a2,rfl,rfl⟩)
         have ec:c'=c:=bE ((S.sub0 ok a0).symm.trans hc)
         subst ec
         subst ex'
         refine .inr ⟨?_,c',(Y8 _ _ _ _ a4).trans a0,?_⟩
         . exact a3
         . obtain⟨o,O,hd⟩:=U
           exact⟨o,hk _ _ O,hd⟩
 . rcases a6 y c e with z | z
   . obtain⟨v,o,O,hd⟩:=I.cell y c (S.sub0 ok z)
     exact⟨v,o,hk _ _ O,hd⟩
   . exact⟨none,z⟩
 . unfold cpσ
   show _=(cpN ts fs).length
   unfold cpN
   simp
theorem Vn {W:St}{H':Hp}{G O:Shared}{h':Heap}{ex:List Addr} (S:Dy X ts fs scope) (I:Inv X pins σ H G) (M:∀b∈ex,P0 X pins H b)
 (J:Inv (cxD X (cpN ts fs) scope ex G H) [] W H' O) (sb:Heap.SameBut G.heap.objs.size O.heap h'):Inv X pins σ H' { O with heap:=h'}:=by
 have nC:H' G.heap.objs.size=none:=J.free
 have old:∀b o,b≠G.heap.objs.size->O.heap.get? b=some o->h'.get? b=some o:=fun b o L e=>sb.extBut b o L e
 have lt:∀b o,G.heap.get? b=some o->b≠G.heap.objs.size:=fun b o e=>aV (aM e)
 have u:Un (frs X.stack) ex H H' G.heap O.heap:=J.base
 have u2:Un (frs X.stack) ex H H' G.heap h':=
  ⟨fun b o e n L U=>old b o (lt b o e) (u.keep b o e n L U),fun b o e n L U=>by
   obtain⟨sl,q⟩:=u.slot b o e n L U
   exact⟨sl,old b _ (lt b o e) q⟩,u.free,fun b o e U=>by
   obtain⟨o',q⟩:=u.there b o e U
   exact⟨o',old b o' (lt b o e) q⟩,u.tups,u.frzs,u.tbls⟩
 have Z:HOk X.prog X.w H' h':=fun b o e=>by
  have nb:b≠G.heap.objs.size:=fun z=>by rw [z,nC]at e;cases e
  refine(J.hok b o e).stay (fun c v hc q=>old c v ?_ q) (fun _ q=>q) fun _ _ q=>q
  rcases hc with z | z
  . rw [z];exact nb
  . intro z2;rw [z2,nC]at z;cases z
 exact I.call' (s':={ O with heap:=h'}) (ch:=ex) J.os u2 Z J.bare fun b L=>⟨(M b L).2.2.2.1,(M b L).2.1,(M b L).2.2.2.2.1,(M b L).2.2.2.2.2⟩
theorem Acw {pins:List (Addr × Obj)}{σ:St}{L:Hp}{M s4:Shared}{Q:VK}{R:Result->Shared->Prop}{fp:List Addr}{it p:Addr}{tn:Nat->Heap->Prop}{J:It}{W:Nat->Nat->List V->Hp->Prop}{m0:Nat} (hc:X.calm=true) (S:Dy X ts fs scope)
 (hg:∀ex s H,PG (cxD X (cpN ts fs) scope ex s H) tg g) (ht:∀ex s H,PTs (cxD X (cpN ts fs) scope ex s H) ifs tt) (he:∀ex s H,PE (cxD X (cpN ts fs) scope ex s H) elt te)
 (I3:Inv X pins σ L M) (T:Turn X.prog X.w X.K tg J fp it tn) (a1:∀b∈fp,P0 X pins L b) (lt:∀b∈fp,b<M.heap.objs.size)
 (I4:Inv (cxD X (cpN ts fs) scope fp M L) [] (cpσ ts.length fs σ) L s4) (aa:tn 0 s4.heap) (w0:W 0 m0 [] L)
 (ab:∀H5 s6,Inv (cxD X (cpN ts fs) scope fp M L) [] (cpσ ts.length fs σ) H5 s6->Q (.ref p) H5->R (.ok .next) s6)
 (a5:∀i m G H2,W i m G H2->(J.stop i H2/\Q (.ref p) H2)\/(J.go i H2/\∀x L,J.yld i H2 x L->g x (cpσ ts.length fs σ) L fun a3 H4=>Kp (cpσ ts.length fs σ) a3/\tt a3 H4 fun b H5=>
   if b=true then te a3 H5 fun y H6=>H6 p=some (.lst G)/\G.length<sizeLine/\∃U,U<m/\W (i+1) U (G++ [y]) (upd H6 p (.lst (G++ [y])))else ∃U,U<m/\W (i+1) U G H5)):
 codeAny (model X.prog X.w) X.A (.compLoop (.ListComp elt [⟨tg,iter,ifs,0⟩] scope pos) 0 (.ref it) (.ref p) (cxD X (cpN ts fs) scope fp M L).env) R s4:=by
 have Z:∀ {H':Hp},(∀b∈fp,H' b=none)->∀b∈fp,P0 (cxD X (cpN ts fs) scope fp M L) [] H' b:=fun hn b O=>
  ⟨hn b O,aV (lt b O),fun z=>(aQ.mp (I3.stkSub b z)).elim (a1 b O).2.1 (a1 b O).2.2.1,.inl O,fun x c e=>(S.sub I3.ok e).elim ((a1 b O).2.2.2.2.1 x c) (fun z z2=>dD _ (bH (bP (lt b O)) (by rw [<-z2];exact z))),fun q hq=>absurd (show q∈([]:List (Addr × Obj))from hq) (by simp)⟩
 refine Rv (fun n s'=>∃i G H',Inv (cxD X (cpN ts fs) scope fp M L) [] (cpσ ts.length fs σ) H' s'/\tn i s'.heap/\(∀b∈fp,H' b=none)/\W i n G H') ?_ m0 ⟨0,[],L,I4,aa,fun b O=>(a1 b O).1,w0⟩
 rintro n s5 ⟨i,G,H5,I5,a6,a7,w5⟩
 rcases a5 i n G H5 w5 with⟨stop,q⟩ | ⟨go,step⟩
 . refine thn (T.done (cxD X (cpN ts fs) scope fp M L) rfl rfl rfl hc i [] s5 _ H5 _ I5 (Z a7) a6 stop) fun r s6 ⟨hr,I6⟩=> ?_
   subst hr
   exact ab H5 s6 I6 q
 . refine thn (T.item (cxD X (cpN ts fs) scope fp M L) rfl rfl rfl hc i [] s5 _ H5 _ I5 (Z a7) a6 go) fun r s6 ⟨u,hr,h6⟩=> ?_
   subst hr
   refine thn h6 fun _ s7 ⟨x,H7,I7,r7,y7,a4,ac⟩=> ?_
   have ad:=I7.pinned (Z ac) (T.obj _ _ a4)
   refine thn (hg fp M L _ s7 _ H7 x u _ ad r7 (step x H7 y7)) fun _ s8 ⟨a2,H8,I8,kp,q8⟩=> ?_
   have again:∀ {H9:Hp}{s9:Shared}{a0:List V}{U:Nat},Inv (cxD X (cpN ts fs) scope fp M L) ([]++Sw fp s7.heap) a2 H9 s9->U<n->W (i+1) U a0 H9->
    ∃m,m<n/\∃i G H',Inv (cxD X (cpN ts fs) scope fp M L) [] (cpσ ts.length fs σ) H' s9/\tn i s9.heap/\(∀b∈fp,H' b=none)/\W i m G H':=fun {H9 s9 a0 U} I9 hm w9=>by
    refine⟨U,hm,i+1,a0,H9,(I9.fade kp).unpinned,T.keep _ _ _ a4 fun b O o e=>(I9.pin (b,o) (bI _ (bI _ (Hg O e)))).1,fun b O=> ?_,w9⟩
    obtain⟨o,e,d⟩:=T.obj _ _ a4 b O
    exact(I9.pin (b,o) (bI _ (bI _ (Hg O e)))).2.1
   refine thn (ht fp M L _ s8 a2 H8 _ I8 q8) fun ok s9 ⟨H9,I9,q9⟩=> ?_
   cases ok with
   | false=>
     rw [aF aY]at q9 ⊢
     obtain⟨U,hm,w9⟩:=q9
     exact again I9 hm w9
   | true=>
     rw [aI rfl]at q9 ⊢
     refine thn (he fp M L _ s9 a2 H9 _ I9 q9) fun y ae ⟨yv,af,ag,ah,a8,a9,U,hm,ai⟩=> ?_
     exact thn (Hh _ ae a2 af (.ref p) [yv] (.ref p) [y] _ ag rfl (.cons ah .nil) ⟨p,G,yv,rfl,rfl,a8,a9,ai⟩) fun _ al ⟨_,am,aj,_,ak⟩=>again aj hm ak
set_option maxHeartbeats 2000000 in
theorem O1 {pos':Pos}{pins:List (Addr × Obj)}{σ:St}{Q:VK}{QQ:Value->Shared->Prop}{use:Option (Value->Sem Unit)} (hc:X.calm=true) (S:Dy X ts fs scope) (hi:PI X tg iter wi) (hg:∀ex s H,PG (cxD X (cpN ts fs) scope ex s H) tg g) (ht:∀ex s H,PTs (cxD X (cpN ts fs) scope ex s H) ifs tt)
 (he:∀ex s H,PE (cxD X (cpN ts fs) scope ex s H) elt te) (hs:∀x,foldedSetIterable iter X.env x=pure x) (I:Inv X pins σ H s) (h:Yi ts.length fs wi g tt te σ H Q)
 (a2:∀(H3:Hp) (s3:Shared) (fp:List Addr) (p:Addr) (H5:Hp) (s6:Shared),Inv X pins σ H3 s3->(∀b∈fp,P0 X pins H3 b)->Inv (cxD X (cpN ts fs) scope fp s3 H3) [] (cpσ ts.length fs σ) H5 s6->Q (.ref p) H5->compPost (model X.prog X.w) X.A X.xe use QQ (.ref p) s3.heap.objs.size (.ok .next) s6):
 wpAny (model X.prog X.w) X.A (comprehension (.ListComp elt [⟨tg,iter,ifs,0⟩] scope pos) scope X.env pos' (newList []) false (eval iter X.env) use) QQ X.xe s:=by
 refine wpAny_comprehension_free (use:=use) rfl hs (W9 (S.clos I.ok)) S.kind S.names (thn (hi pins s σ H _ I h) fun v s1 h1=>thn h1 fun a3 G h2=> ?_)
 obtain⟨it,fp,tn,J,H2,rfl,I2,T,O,f2,hw⟩:=h2
 refine cG (Aii ?_)
 dsimp only
 have I3:=I2.lnew (its:=[]) (ys:=[]) (t':=G.toks) .nil (bO _)
 have hD:H2 G.heap.objs.size=none:=I2.fresh
 obtain⟨W,⟨m0,w0⟩,U⟩:=hw _ hD
 have up:∀b o,G.heap.get? b=some o->(G.heap.push { cls:= .type "list",data:= .seq ([]:List Value).toArray}).get? b=some o:=fun b o e=>aC _ e
 have L:∀b∈fp,P0 X pins (upd H2 G.heap.objs.size (.lst [])) b/\∃o,(G.heap.push { cls:= .type "list",data:= .seq ([]:List Value).toArray}).get? b=some o:=fun b M=>by
  obtain⟨o,ho,_⟩:=T.obj _ _ O b M
  have nb:b≠G.heap.objs.size:=aV (aM ho)
  exact⟨⟨by rw [Bm nb];exact(f2 b M).1,(f2 b M).2⟩,o,up b o ho⟩
 have Z:∀b u,(G.heap.push { cls:= .type "list",data:= .seq ([]:List Value).toArray}).get? b=some u->(pushCells ((G.heap.push { cls:= .type "list",data:= .seq ([]:List Value).toArray}).push { cls:= .type "dict",data:= .dict #[]}) scope.names).get? b=some u:=fun b u e=>
  pushCells_keeps _ _ _ _ (aC _ e)
 have I4:=Xa (s4:={ G with heap:=pushCells ((G.heap.push { cls:= .type "list",data:= .seq ([]:List Value).toArray}).push { cls:= .type "dict",data:= .dict #[]}) scope.names,toks:=G.toks}) S I3 L rfl rfl Z ((Heap.Ns.new _ (.type "dict")).keeps (pushCells_keeps _ _)) (fun y c e=>by
  have z:=T5 scope.names ((G.heap.push { cls:= .type "list",data:= .seq ([]:List Value).toArray}).push { cls:= .type "dict",data:= .dict #[]}) (scope.names.foldl (clF X.env) []) y c
  rw [dO]at z
  exact z e)
 have a0:tn 0 (pushCells ((G.heap.push { cls:= .type "list",data:= .seq ([]:List Value).toArray}).push { cls:= .type "dict",data:= .dict #[]}) scope.names):=T.keep _ _ _ O fun b _ o e=>Z b o (up b o e)
 have a1:=Acw (elt:=elt) (iter:=iter) (pos:=pos) hc S hg ht he I3 T (fun b M=>(L b M).1) (fun b M=>aM (L b M).2.choose_spec) I4 a0 w0 (fun H5 s6 I6 q=>a2 _ _ fp _ H5 s6 I3 (fun b M=>(L b M).1) I6 q) U
 exact codeAny_compStart_list a1 (T.self X.A 0 _ _ _ a0 a1)
theorem Wa (L:X.calm=true) (S:Dy X ts fs scope) (hi:PI X tg iter wi) (M:∀ex s H,PG (cxD X (cpN ts fs) scope ex s H) tg g) (O:∀ex s H,PTs (cxD X (cpN ts fs) scope ex s H) ifs tt)
 (U:∀ex s H,PE (cxD X (cpN ts fs) scope ex s H) elt te) (W:∀x,foldedSetIterable iter X.env x=pure x:=by intro _;rfl):
 PE X (.ListComp elt [⟨tg,iter,ifs,0⟩] scope pos) (Yi ts.length fs wi g tt te):=by
 intro pins s σ H Q I h
 rw [eval_ListComp]
 refine O1 (use:=none) L S hi M O U W I h fun H3 s3 fp p Z s6 I3 G J q=> ?_
 obtain⟨m,hn,_⟩:=J.loc
 exact⟨m,hn,fun h' sb=>⟨.ref p,Z,Vn S I3 G J sb,rfl,q⟩⟩
theorem Qy {g':TG}{y:Str}{M G:Pos} (hc:X.calm=true) (S:Dy X ts fs scope) (hi:PI X tg iter wi) (hg:∀ex s H,PG (cxD X (cpN ts fs) scope ex s H) tg g) (ht:∀ex s H,PTs (cxD X (cpN ts fs) scope ex s H) ifs tt)
 (he:∀ex s H,PE (cxD X (cpN ts fs) scope ex s H) elt te) (hn:PG X (.Name y M) g') (Z:swapsWith (.ListComp elt [⟨tg,iter,ifs,0⟩] scope pos) (some (.Name y M)) G.line X.env=pure true:=by rfl) (hs:∀x,foldedSetIterable iter X.env x=pure x:=by intro _;rfl):
 PS X (.Assign [.Name y M] (.ListComp elt [⟨tg,iter,ifs,0⟩] scope pos) G) (Ad5 (Yi ts.length fs wi g tt te) g'):=by
 intro pins s σ H D I h
 rw [exec_Assign_Name_used _ _ _ _ Z]
 refine aA (wpAny_standAt (aA ?_))
 show wpAny _ X.A (do let _<-comprehension (.ListComp elt [⟨tg,iter,ifs,0⟩] scope pos) scope X.env _ (newList []) false (eval iter X.env) (some (assign (.Name y M) X.env))) _ _ s
 refine aA (cT (O1 (use:=some (assign (.Name y M) X.env)) (QQ:=fun _ s'=>SP X pins D .next s') hc S hi hg ht he hs I h fun H3 L fp p H5 s6 I3 a0 I6 q=> ?_) (fun _ s' hq=>aE (aE hq)) fun _ _ e=>e)
 have J:Inv X pins σ H5 s6:=Vn S I3 a0 I6 (Heap.SameBut.refl _ _)
 obtain⟨m,⟨o,es,ep,ho,hd,a1,hf⟩,_⟩:=I6.loc
 have O:s6.heap.get? L.heap.objs.size=some o:=ho
 have U:P0 X pins H5 L.heap.objs.size:=I3.fpOk (aH _) I6.free
 have J':=J.pinned (fp:=[L.heap.objs.size]) (fun b W=>by
  have e:b=L.heap.objs.size:=by simpa using W
  subst e
  exact U) (fun b W=>by
  have e:b=L.heap.objs.size:=by simpa using W
  subst e
  exact⟨o,O,fun v z=>by rw [hd]at z;cases z⟩)
 refine thn (hn _ s6 σ H5 (.ref p) (.ref p) _ J' rfl q) fun _ s7 ⟨a2,H7,I7,q7⟩=> ?_
 have pC:=I7.pin (L.heap.objs.size,o) (bI _ (bI _ (Hg (by simp) O)))
 exact⟨m,⟨o,es,ep,pC.1,hd,a1,hf⟩,fun h' sb=>⟨a2,H7,I7.unpinned.turned (t':=s7.toks) (fun b o W e=>sb.extBut b o W e) pC.2.1 U.2.1 U.2.2.2.1 U.2.2.2.2.1 U.2.2.2.2.2,q7⟩⟩
end
structure Pyl (P:Program) (base:Heap):Prop where
 seer:base.NoSeer
 tree:P.given.tree=none
variable {A:Around}
set_option maxRecDepth 100000
end L2
namespace L2
open PySem PySem.Spec PyProof.Rows
structure Apg (P:Program) (w:World) (K:Frag) (mg:Str->Option Value) (base:Heap) (k:Nat) (a:Addr) (ps:List Str) (sp:Sp):Prop where
 ex:∃fd,Pz P w K mg base CX0 k a fd ps sp/\Binds K fd ps []
 kp:∀(M:Model) (h:Heap),(∀b o,base.get? b=some o->h.get? b=some o)->K.In h->∃k,(k=Keeper.frame\/k=Keeper.machine\/k=Keeper.boundFrame)/\PySem.W.Looks M h (keeperOf (.ref a)) k
variable {P:Program}{w:World}{mg:Str->Option Value}{base:Heap}{x:Str}{ps:List Str}{sp:Sp}{a:Addr}
structure Apk (ps fs:List Str) (sc:Scope):Prop where
 kind:sc.kind= .function
 co:sc.isCoroutine=false
 gen:sc.isGenerator=false
 nd:ps.Nodup
 par:∀x∈ps,sc.names.lookup x=some .local
 fre:∀x∈fs,sc.names.lookup x=some .free
 nocell:∀y∈sc.names,y.2≠ .cell
 only:∀y∈sc.names,y.2= .free->y.1∈fs
structure Apj (base:Heap) (fs:List Str) (cl:List (Str × Addr)) (ws:List V):Prop where
 inj:∀x y c,cl.lookup x=some c->cl.lookup y=some c->x=y
 has:∀x∈fs,∃c,cl.lookup x=some c
 cell:∀x c,cl.lookup x=some c->∃v,base.IsCell c v
 val:∀(i:Nat) (x:Str) (v:V),fs[i]? =some x->ws[i]? =some v->∃c u,cl.lookup x=some c/\base.IsCell c (some u)/\RelV v u
 len:ws.length=fs.length
noncomputable def Al9 (c:Addr) (q:Str):HO:= .ext fun h=>h.CodeRec (.ref c) q
noncomputable def SmP (p:Addr) (H H':Hp):Prop:=∀b o,b≠p->H b=some o->H' b=some o
noncomputable def Tab (p:Addr) (lp:Pos) (q:Str) (H:Hp):Prop:=∃ps,H p=some (.tbl ps)/\(ps= #[]\/∃c',ps= #[rawInt lp.line,rawInt lp.col,.ref c']/\H c'=some (Al9 c' q))
structure Aqh (mg:Str->Option Value) (base:Heap) (c p:Addr):Prop where
 code:CodeHd base c p
 bm:∃bm ob,mg "__builtins__"=some (.ref bm)/\bm≠builtinsNs/\base.get? bm=some ob/\ob.cls= .type "module"/\ob.dict=some builtinsNs/\ob.data= .plain
variable {p:Addr}{H H1:Hp}
theorem SmP.trans {H2:Hp} (a:SmP p H H1) (b:SmP p H1 H2):SmP p H H2:=fun c o n e=>b c o n (a c o n e)
variable {H':Hp}
theorem nd2 {f:Str->Addr}{a b:Str}{q:Addr} (h1:f a=p) (h2:f b=q) (n:p≠q):([a,b].map f).Nodup:=by simp [h1,h2,n]
theorem nd3 {f:Str->Addr}{a b c:Str}{q r:Addr} (h1:f a=p) (h2:f b=q) (G:f c=r) (n:p≠q/\p≠r/\q≠r):([a,b,c].map f).Nodup:=by simp [h1,h2,G,n]
open PySem PySem.Spec PySem.Calls PyProof.Rows PySem.W
noncomputable abbrev Tk:=Addr × List Int
structure Aqi (h:Heap) (k:Addr) (t:Tk):Prop where
 pr:∃o xs n tk,h.get? k=some o/\o.cls= .type "tuple"/\o.data= .seq xs n/\xs.toList=[.int t.2.length tk,.ref t.1]
 tu:∃its:List Value,IsTup h t.1 its.toArray/\IntsAre its t.2
noncomputable def EX (a:Addr) (o:Obj):HO:= .ext fun h=>h.get? a=some o
structure KyI (X:Cx) (pins:List (Addr × Obj)) (σ:St) (H2:Hp) (a kS f:Addr) (oa of:Obj) (ts:List Tk) (i:Nat) (H':Hp) (ks:List Addr) (s':Shared):Prop where
 inv:Inv X pins σ H' s'
 sm:Same H2 H'
 ea:H' a=some (EX a oa)
 ky:H' kS=some (.lst (ks.map V.ref))
 ln:ks.length=i
 tu:∀(j:Nat) (k:Addr) (t:Tk),ks[j]? =some k->ts[j]? =some t->H' k=some (.tup [.int t.2.length,.ref t.1])
 fo:s'.heap.get? f=some of
 fn:H' f=none
noncomputable abbrev Is3 (h:Heap) (T:Addr) (a b c:Value):Prop:=h.get? T=some { cls:= .type "tuple",data:= .seq #[a,b,c]}
section
variable {prog:Program}{w:World}{A:Around}{E:Value->Shared->Prop}{s:Shared}
theorem nz {a b:Nat} (h:a<b\/b<a):(show Addr from a)≠b:=fun e=>by
 have e:a=b:=e
 omega
structure Zp3 (h:Heap) (n l1 l2 l3 k:Nat) (f0:Value):Prop where
 z:IsZip h (n+5) (n+3) (n+4) f0
 ti:Is3 h (n+3) (.ref n) (.ref (n+1)) (.ref (n+2))
 to:∃p q r,Is3 h (n+4) p q r
 j1:h.IsListIter n l1 k
 j2:h.IsListIter (n+1) l2 k
 j3:h.IsListIter (n+2) l3 k
structure Zl3 (h:Heap) (n l1 l2 l3:Nat) (xs ys zs:Array Value):Prop where
 b1:l1<n
 b2:l2<n
 b3:l3<n
 a1:h.IsList l1 xs
 a2:h.IsList l2 ys
 a3:h.IsList l3 zs
end
noncomputable def Ris (xs:Array Nat):Prop:=xs.toList.Pairwise (· < ·)
structure WT (led:Bool) (t:SetTable):Prop where
 led:t.led=led
 dum:t.dummies= #[]
 ris:t.plain=true->Ris t.place
open PySem PySem.Spec PyProof.Rows PySem.W
variable {s:Shared}{it:Addr}{i n ep:Nat}{h h':Heap}
section
variable {P:Program}{w:World}{A:Around}{E:Value->Shared->Prop}
structure Lies (h:Heap) (a:Addr) (es:Array (Int × Value)) (ep:Nat) (t:SetTable):Prop where
 obj:∃o,h.get? a=some o/\o.cls= .type "set"/\o.data= .set es ep t
 fit:t.fits es.size=true
structure SIt (h:Heap) (it:Addr) (first:Value) (i:Nat) (a:Addr) (n ep:Nat):Prop where
 obj:∃o,h.get? it=some o/\o.cls= .type "set_iterator"/\o.data= .fields #[first,.int i 0,.ref a,.int n 0,.int ep 0]
variable {s:Shared}{a:Addr}{es:Array (Int × Value)}{ep:Nat}{t:SetTable}
structure Tup (h:Heap) (tp:Addr) (ps:List Nat):Prop where
 obj:∃o k,h.get? tp=some o/\o.data= .seq (ps.map fun(i:Nat)=>rawInt i).toArray k
end
variable {X:Cx}{pins:List (Addr × Obj)}
theorem Acs (hc:X.calm=true):Gv X (.builtin "any") (fun xs H Q=>∃(a:Addr) (bs:List Bool),xs=[.ref a]/\SqL X.K H a (bs.map V.bl)/\Q (.bl (bs.any id)) H):=by
 intro pins s σ H xs us Q I r h
 obtain⟨a,bs,rfl,ha,q⟩:=h
 obtain⟨u,rfl,ru⟩:=vals1 r
 cases ru
 obtain⟨G,U,p,hz⟩:=I.list ha
 have L:s.heap.IsList a G.toArray:=p.isList
 have lt:a<s.heap.objs.size:=by
  obtain⟨_,e,_⟩:=L
  exact aM e
 have ln:G.length=bs.length:=by
  have:=U.length
  rw [aB]at this
  exact this.symm
 refine call_any_walk (gS L ?_)
 refine⟨s.heap.objs.size,[s.heap.objs.size,a],[s.heap.objs.size],G.toArray.size,_,_,fun i=>(bs[i]?).getD false,rfl,Walks.list (A:=X.A.in1) (I.ok.hd hc) _ a (aV lt) G.toArray,
  ⟨⟨_,aN _ rfl,rfl,rfl⟩,L.push _⟩,fun i v s' Q' E' hP W=> ?_,fun g tk hk=> ?_⟩
 . have Z:G[i]? =some v:=by simpa using hP
   have hi:i<G.length:=(bL.mp Z).1
   have hb:bs[i]? =some bs[i]:=aG (by omega)
   obtain⟨w',hw,M⟩:=U.get (show(bs.map V.bl)[i]? =some (V.bl bs[i])by rw [aZ,hb];rfl)
   rw [Z]at hw
   cases hw
   cases M
   simp only [hb,getD_some]at W
   exact fR W
 . have e:((List.range G.toArray.size).any fun i=>(bs[i]?).getD false)=bs.any id:=by
    rw [aR,ln,hV,iV,iV]
    constructor
    . rintro⟨i,hi,h⟩
      have J:=eD.mp hi
      rw [aG J]at h
      exact⟨_,cE J,h⟩
    . rintro⟨x,hx,h⟩
      obtain⟨i,hi,ei⟩:=List.getElem_of_mem hx
      exact⟨i,eD.mpr hi,by rw [aG hi,ei];exact h⟩
   rw [e]
   exact⟨.bl _,H,I.kept (t':=tk) fun b o O=>hk b o (fun hm=>by rw [aS.mp hm]at O;exact dD _ (aM O)) (aC _ O),rfl,q⟩
set_option maxRecDepth 100000
noncomputable abbrev ZpB (h:Heap) (z TI TO T:Addr) (b:Bool):Prop:=h.get? z=some { cls:= .type "zip",data:= .fields #[rawInt T,.bool b,.bool false,.ref TI,.ref TO]}
structure ZpS (t1 t2:Bool) (h:Heap) (S z TI TO i1 i2 u1 u2:Addr) (i:Nat):Prop where
 st:(IsZip h z TI TO .none/\∃p q,IsPair h TO p q)\/∃T b oT,ZpB h z TI TO T b/\h.get? T=some oT/\T≠S/\T≠z/\T≠i1/\T≠i2
 ti:IsPair h TI (.ref i1) (.ref i2)
 j1:It1 t1 h i1 u1 i
 j2:It1 t2 h i2 u2 i
variable {G O:Addr}
structure ZpG (xs ys:Array Value) (lo:Addr) (h:Heap) (as:List Addr):Prop where
 rise:as.Pairwise (· < ·)
 above:∀a∈as,lo<=a
 pairs:∀(j:Nat) (a:Addr),as[j]? =some a->∃x y,xs[j]? =some x/\ys[j]? =some y/\IsPair h a x y
end L2
namespace L2
open PySem PySem.Spec PySem.Calls PyProof.Rows PySem.W
noncomputable abbrev Pri:=Addr × Int × V
noncomputable def Pri.ks (t:Pri):Int:=t.2.1
noncomputable def Aoz (K:Frag) (H:Hp) (t:Pri):Prop:=SqT K H t.1 [.int t.ks,t.2.2]
noncomputable def Al0 (h:Heap) (t:Pri):Prop:=∃o xs n tk u,h.get? t.1=some o/\o.cls= .type "tuple"/\o.data= .seq xs n/\xs.toList=[.int t.ks tk,u]
variable {h h':Heap}{a:Addr}
variable {X:Cx}{pins:List (Addr × Obj)}{σ:St}{H:Hp}{s:Shared}
open PySem PySem.Spec PyProof.Rows
noncomputable abbrev tx (l:List Nat):Str:=⟨l.toArray⟩
section
variable {X:Cx}
noncomputable abbrev TJ:=St->Hp->Str->(Str->Hp->Prop)->Prop
noncomputable def PJ (X:Cx) (es:List Expr) (t:TJ):Prop:=
 ∀(pins:List (Addr × Obj)) (s:Shared) (σ:St) (H:Hp) (z:Str) (Q:Str->Hp->Prop),Inv X pins σ H s->t σ H z Q->
   Joins (model X.prog X.w) X.A X.xe (evalEach es X.env) z (fun z' s1=>∃H',Inv X pins σ H' s1/\Q z' H') s
end
noncomputable def dg (m:Nat):List Nat:=(Nat.toDigits 10 m).map Char.toNat
open PySem L2
@[irreducible] noncomputable def Bq (X:Cx) (e:Expr) (t:TE):Prop:=L2.PE X e t
@[irreducible] noncomputable def Ko (X:Cx) (e:Expr) (t:TT):Prop:=L2.PT X e t
@[irreducible] noncomputable def Ti (X:Cx) (e:Expr) (t:TT):Prop:=L2.PW X e t
@[irreducible] noncomputable def Jj (X:Cx) (es:List Expr) (t:TA):Prop:=L2.PA X es t
@[irreducible] noncomputable def J0 (X:Cx) (st:Stmt) (t:TS):Prop:=L2.PS X st t
@[irreducible] noncomputable def Ij (X:Cx) (st:List Stmt) (t:TS):Prop:=L2.PSs X st t
@[irreducible] noncomputable def Mz (X:Cx) (target:Expr) (t:TG):Prop:=L2.PG X target t
@[irreducible] noncomputable def Rp (X:Cx) (ts:List Expr) (t:TGs):Prop:=L2.PGs X ts t
@[irreducible] noncomputable def Lz (X:Cx) (tg iter:Expr) (wi:TI):Prop:=L2.PI X tg iter wi
@[irreducible] noncomputable def Acq (X:Cx) (e:Option Expr) (t:TO):Prop:=L2.PO X e t
@[irreducible] noncomputable def Vj (X:Cx) (ifs:List Expr) (t:TT):Prop:=L2.PTs X ifs t
@[irreducible] noncomputable def Apl (X:Cx) (es:List Expr) (t:TJ):Prop:=L2.PJ X es t
theorem Ah8 {b:List Stmt}{t:TS} (h:Ij X b t):L2.PSs X b t:=by unfold Ij at h;exact h
theorem Af:∀ {X:Cx} (i:Nat) {x:Str}{pos:Pos},autoParam ((Cx.N X)[i]? =Option.some x) L2.pv._auto_1->autoParam (Vis (Env.scope (Cx.env X)) x) L2.pv._auto_2->autoParam ((x==("__debug__":Str))=Bool.false) L2.pv._auto_3->autoParam ((x==("__classdict__":Str))=Bool.false) L2.pv._auto_4->Bq X (Expr.Name x pos) (Ahp i):=by with_unfolding_all exact @L2.pv
theorem Ep:∀ {X:Cx}{x:Str}{v:V}{u:Value}{pos:Pos},Gl X x->Cx.mg X x=Option.none->bootBuiltins x=Option.some u->RelV v u->autoParam (x≠("__name__":Str)) L2.Uz._auto_1->autoParam ((x==("__debug__":Str))=Bool.false) L2.Uz._auto_2->Bq X (Expr.Name x pos) (tC v):=by with_unfolding_all exact @L2.Uz
theorem Dq:∀ {X:Cx}{x:Str}{v:V}{u:Value}{pos:Pos},Gl X x->Cx.mg X x=Option.some u->RelV v u->autoParam ((x==("__debug__":Str))=Bool.false) L2.Aa5._auto_1->Bq X (Expr.Name x pos) (tC v):=by with_unfolding_all exact @L2.Aa5
theorem Ad:∀ {X:Cx}{i:Int}{j:Nat}{pos:Pos},Bq X (Expr.Constant (Const.int i) j pos) (tC (V.int i)):=by with_unfolding_all exact @L2.Ajx
theorem Ec:∀ {X:Cx}{b:Bool}{j:Nat}{pos:Pos},Bq X (Expr.Constant (Const.bool b) j pos) (tC (V.bl b)):=by with_unfolding_all exact @L2.Am3
theorem Yr:∀ {X:Cx}{x:Str}{j:Nat}{pos:Pos},Bq X (Expr.Constant (Const.str x) j pos) (tC (V.str x)):=by with_unfolding_all exact @L2.Aj1
theorem Al:∀ {X:Cx}{a b:Expr}{ta tb:TE}{pos:Pos}{op:Operator}{r:R2},OpR X (binaryOp op) r->Bq X a ta->Bq X b tb->Bq X (Expr.BinOp a op b pos) (tOp r ta tb):=by with_unfolding_all exact @L2.Am5
theorem Yq:∀ {X:Cx}{a:Expr}{ta:TE}{pos:Pos},Bq X a ta->Bq X (Expr.UnaryOp UnaryOp.Not a pos) (Ahm ta):=by with_unfolding_all exact @L2.Ajz
theorem Gj:∀ {X:Cx}{a:Expr}{ta:TE}{pos:Pos}{op:UnaryOp}{r:V->Hp->VK->Prop},UnR X (unaryOp op) r->Bq X a ta->Bq X (Expr.UnaryOp op a pos) (tUn r ta):=by with_unfolding_all exact @L2.Am6
theorem Dp:∀ {X:Cx}{a b:Expr}{ta tb:TE}{pos:Pos}{op:CmpOp}{r:R2},OpR X (compareOp op) r->Bq X a ta->Bq X b tb->behindInMarks op b=Bool.false->Bq X (Expr.Compare a [op] [b] pos) (tOp r ta tb):=by with_unfolding_all exact @L2.Agr
theorem J1:∀ {X:Cx}{a b:Expr}{ta tb:TE}{pos:Pos}{rest:List Expr},Bq X a ta->Bq X (Expr.BoolOp BoolOp.And (b::rest) pos) tb->Bq X (Expr.BoolOp BoolOp.And (a::b::rest) pos) (Ahg ta tb):=by with_unfolding_all exact @L2.Ajw
theorem J2:∀ {X:Cx}{a:Expr}{pos:Pos}{op:BoolOp}{t:TE},Bq X a t->Bq X (Expr.BoolOp op [a] pos) t:=by with_unfolding_all exact @L2.Aj0
theorem Tj:∀ {X:Cx}{a b:Expr}{ta tb:TE}{pos:Pos}{tA:TT}{c:Expr},Ko X c tA->Bq X a ta->Bq X b tb->Bq X (Expr.IfExp c a b pos) (tIf tA ta tb):=by with_unfolding_all exact @L2.Adt
theorem Aw:∀ {X:Cx}{es:List Expr}{t:TA}{pos:Pos}{x1:Nat},Jj X es t->Bq X (Expr.Tuple es x1 pos) (Ano t):=by with_unfolding_all exact @L2.Aj2
theorem Dl:∀ {X:Cx}{es:List Expr}{t:TA}{pos:Pos},Jj X es t->Bq X (Expr.List es pos) (Ank t):=by with_unfolding_all exact @L2.Ajy
theorem Fj:∀ {X:Cx}{e:Expr}{te:TE}{lo hi:Option Expr}{tl th:TO}{pos p2:Pos}{r:V->Option Int->Option Int->Hp->VK->Prop},SlR X r->Bq X e te->Acq X lo tl->Acq X hi th->Bq X (Expr.Subscript e (Expr.Slice lo hi Option.none p2) pos) (tSl r te tl th):=by with_unfolding_all exact @L2.Adu
theorem Gp:∀ {X:Cx},Acq X Option.none Vc:=by with_unfolding_all exact @L2.Ag0
theorem Gq:∀ {X:Cx}{e:Expr}{te:TE},Bq X e te->Acq X (Option.some e) (Ahn te):=by with_unfolding_all exact @L2.Ag1
theorem Bf:∀ {X:Cx}{a b:Expr}{ta tb:TE}{pos:Pos}{r:R2},IxR X r->Bq X a ta->Bq X b tb->Yo b->Bq X (Expr.Subscript a b pos) (tOp r ta tb):=by with_unfolding_all exact @L2.Am4
theorem Kq:∀ {X:Cx}{pos:Pos},Bq X (Expr.Dict [] [] pos) Ahi:=by with_unfolding_all exact @L2.Agt
theorem Gn:∀ {X:Cx}{o i:Expr}{pos:Pos}{td ty:TE},Around.units (Cx.A X)+(1:Nat)<cLine->Bq X o td->Bq X i ty->Amb i->Bq X (Expr.Subscript o i pos) (Ahh td ty):=by with_unfolding_all exact @L2.Ags
theorem Fg:∀ {X:Cx}{o e f:Expr}{apos cpos:Pos}{td ty tx:TE},Around.units (Cx.A X)+(1:Nat)<cLine->Bq X o td->Bq X e ty->Bq X f tx->M2 X o (("get":Str)) apos e f cpos->Bq X (Expr.Call (Expr.Attribute o (("get":Str)) apos) [e,f] [] cpos) (Abr td ty tx):=by with_unfolding_all exact @L2.Adq
theorem Br:∀ {X:Cx}{elt tg iter:Expr}{ifs:List Expr}{scope:Scope}{pos:Pos}{wi:TI}{g:TG}{tt:TT}{te:TE}{ts:List Str}{fs:List (Nat × Str)},Cx.calm X=Bool.true->Dy X ts fs scope->Lz X tg iter wi->(∀(ex:List Addr) (s:Shared) (H:Hp),Mz (cxD X (cpN ts fs) scope ex s H) tg g)->(∀(ex:List Addr) (s:Shared) (H:Hp),Vj (cxD X (cpN ts fs) scope ex s H) ifs tt)->(∀(ex:List Addr) (s:Shared) (H:Hp),Bq (cxD X (cpN ts fs) scope ex s H) elt te)->autoParam (∀(x:Value),foldedSetIterable iter (Cx.env X) x=Pure.pure x) L2.Wa._auto_1->Bq X (Expr.ListComp elt [{ target:=tg,iter:=iter,ifs:=ifs,is_async:=(0:Int)}] scope pos) (Yi (length ts) fs wi g tt te):=by with_unfolding_all exact @L2.Wa
theorem Bj:∀ {X:Cx}{e:Expr}{es:List Expr}{t:TA}{x:Str}{p pos:Pos}{id:String}{r:List V->Hp->VK->Prop},Gv X (Value.builtin id) r->Gl X x->Cx.mg X x=Option.none->bootBuiltins x=Option.some (Value.builtin id)->Jj X (e::es) t->autoParam (Di e=Bool.true) L2.Aa3._auto_1->autoParam (List.all es Di=Bool.true) L2.Aa3._auto_2->autoParam (x≠("__name__":Str)) L2.Aa3._auto_3->autoParam ((x==("__debug__":Str))=Bool.false) L2.Aa3._auto_4->Bq X (Expr.Call (Expr.Name x p) (e::es) [] pos) (tCB r t):=by with_unfolding_all exact @L2.Aa3
theorem Eu:∀ {X:Cx}{e:Expr}{es:List Expr}{t:TA}{x:Str}{p pos:Pos}{T:String}{r:List V->Hp->VK->Prop},Gv X (Value.type T) r->Gl X x->Cx.mg X x=Option.none->bootBuiltins x=Option.some (Value.type T)->Jj X (e::es) t->autoParam (Di e=Bool.true) L2.Ss._auto_1->autoParam (List.all es Di=Bool.true) L2.Ss._auto_2->autoParam (x≠("__name__":Str)) L2.Ss._auto_3->autoParam ((x==("__debug__":Str))=Bool.false) L2.Ss._auto_4->Bq X (Expr.Call (Expr.Name x p) (e::es) [] pos) (tCB r t):=by with_unfolding_all exact @L2.Ss
theorem Aj:∀ {X:Cx}{e:Expr}{es:List Expr}{t:TA}{x:Str}{p pos:Pos}{k:Nat}{ps:List Str}{sp:Sp}{n:Nat},Cal (Cx.prog X) (Cx.w X) (Cx.K X) (Cx.mg X) (Cx.base X) k x ps sp->Km n (Cx.A X)->Jj X (e::es) t->autoParam (k<=n) L2.X5._auto_1->autoParam (Di e=Bool.true) L2.X5._auto_2->autoParam (List.all es Di=Bool.true) L2.X5._auto_3->autoParam (Gl X x) L2.X5._auto_4->autoParam ((x==("__debug__":Str))=Bool.false) L2.X5._auto_5->Bq X (Expr.Call (Expr.Name x p) (e::es) [] pos) (S7 sp [] E0 t):=by with_unfolding_all exact @L2.X5
theorem Hr:∀ {X:Cx}{o e:Expr}{es:List Expr}{to:TE}{t:TA}{name:Str}{apos cpos:Pos}{T id:String}{r:V->List V->Hp->VK->Prop},PlainAttrs T->Slot T name id->typeOf (Value.builtin id)=Pure.pure (Value.type "method_descriptor")->MtR X id r->Bq X o to->Jj X (e::es) t->autoParam (attributeBase o name (Cx.env X) (eval o (Cx.env X))=eval o (Cx.env X)) L2.Xz._auto_1->autoParam ((((List.all (backTo cpos (starEach (e::es) (Cx.env X))) fun(x:Bool × Sem Value) ↦ !Prod.fst x)&&List.all (backToKw cpos (keywordEach [] (Cx.env X))) fun(x:Option Str × Sem Value) ↦ Option.isSome (Prod.fst x))&&Decidable.decide ((length (e::es)+length ([]:List Keyword)+if List.isEmpty ([]:List Keyword)=Bool.true then(0:Nat)else(1:Nat))<(30:Nat)))=Bool.true) L2.Xz._auto_2->autoParam ((Pos.endLine apos==Pos.line cpos)=Bool.true) L2.Xz._auto_3->autoParam (starEach (e::es) (Cx.env X)=(Bool.false,eval e (Cx.env X))::starEach es (Cx.env X)) L2.Xz._auto_4->autoParam ((List.any (backTo cpos (starEach es (Cx.env X))) fun(x:Bool × Sem Value) ↦ Prod.fst x)=Bool.false) L2.Xz._auto_5->Bq X (Expr.Call (Expr.Attribute o name apos) (e::es) [] cpos) (tBM (Cx.K X) T r to t):=by with_unfolding_all exact @L2.Xz
theorem Yp:∀ {X:Cx}{o:Expr}{to:TE}{name:Str}{apos cpos:Pos}{T id:String}{r:V->List V->Hp->VK->Prop},PlainAttrs T->Slot T name id->typeOf (Value.builtin id)=Pure.pure (Value.type "method_descriptor")->MtR X id r->Bq X o to->autoParam (attributeBase o name (Cx.env X) (eval o (Cx.env X))=eval o (Cx.env X)) L2.Aa2._auto_1->autoParam ((Pos.endLine apos==Pos.line cpos)=Bool.true) L2.Aa2._auto_2->Bq X (Expr.Call (Expr.Attribute o name apos) [] [] cpos) (Anh (Cx.K X) T r to):=by with_unfolding_all exact @L2.Aa2
theorem Yu:∀ {X:Cx}{a:Expr}{ta:TA}{el:List Expr}{x1:Nat}{tp p pos:Pos},Gl X (("enumerate":Str))->Cx.mg X (("enumerate":Str))=Option.none->Jj X [a] ta->autoParam (starEach [a] (Cx.env X)=[(Bool.false,eval a (Cx.env X))]) L2.Ae1._auto_1->Lz X (Expr.Tuple el x1 tp) (Expr.Call (Expr.Name (("enumerate":Str)) p) [a] [] pos) (Amv (Cx.K X) ta):=by with_unfolding_all exact @L2.Ae1
theorem W0:∀ {X:Cx}{a b:Expr}{ta:TA}{el:List Expr}{x1:Nat}{tp p pos:Pos} (q G:Bool),Gl X (("zip":Str))->Cx.mg X (("zip":Str))=Option.none->Jj X [a,b] ta->autoParam (starEach [a,b] (Cx.env X)=[(Bool.false,eval a (Cx.env X)),(Bool.false,eval b (Cx.env X))]) L2.U5._auto_1->autoParam (starEach [b] (Cx.env X)=[(Bool.false,eval b (Cx.env X))]) L2.U5._auto_2->Lz X (Expr.Tuple el x1 tp) (Expr.Call (Expr.Name (("zip":Str)) p) [a,b] [] pos) (Af2 q G (Cx.K X) ta):=by with_unfolding_all exact @L2.U5
theorem Tn:∀ {X:Cx}{o:Expr}{td:TE}{el:List Expr}{x1:Nat}{tp apos cpos:Pos},Bq X o td->M0 X o (("items":Str)) apos cpos->Lz X (Expr.Tuple el x1 tp) (Expr.Call (Expr.Attribute o (("items":Str)) apos) [] [] cpos) (Z5 td):=by with_unfolding_all exact @L2.Adw
theorem M4:∀ {X:Cx}{pos:Pos},Bq X (Expr.Dict [] [] pos) Abs:=by with_unfolding_all exact @L2.Ads
theorem Oz:∀ {X:Cx}{e f:Expr}{t:TA}{td:TE}{p q pos:Pos},Cx.calm X=Bool.true->Gl X (("max":Str))->Cx.mg X (("max":Str))=Option.none->Jj X [e] t->Bq X f td->autoParam (Di e=Bool.true) L2.Aa6._auto_1->Bq X (Expr.Call (Expr.Name (("max":Str)) p) [e] [{ arg:=Option.some (("default":Str)),value:=f,pos:=q}] pos) (Ahk (Cx.K X) t td):=by with_unfolding_all exact @L2.Aa6
theorem Wz:∀ {X:Cx}{tg a b c:Expr}{ta:TA}{p pos:Pos},Gl X (("range":Str))->Cx.mg X (("range":Str))=Option.none->Jj X [a,b,c] ta->autoParam (Di a=Bool.true) L2.U4._auto_1->autoParam (List.all [b,c] Di=Bool.true) L2.U4._auto_2->Lz X tg (Expr.Call (Expr.Name (("range":Str)) p) [a,b,c] [] pos) (Afz ta):=by with_unfolding_all exact @L2.U4
theorem Dg:∀ {X:Cx}{tg a:Expr}{ta:TA}{p pos:Pos},Gl X (("range":Str))->Cx.mg X (("range":Str))=Option.none->Jj X [a] ta->autoParam (starEach [a] (Cx.env X)=[(Bool.false,eval a (Cx.env X))]) L2.Sv._auto_1->Lz X tg (Expr.Call (Expr.Name (("range":Str)) p) [a] [] pos) (Af1 ta):=by with_unfolding_all exact @L2.Sv
theorem Fl:∀ {X:Cx}{tg l:Expr}{tl:TE},Bq X l tl->Lz X tg l (Af0 (Cx.K X) tl):=by with_unfolding_all exact @L2.Agv
theorem Cu:∀ {X:Cx}{tg l:Expr}{tl:TE},Bq X l tl->Lz X tg l (Amw (Cx.K X) tl):=by with_unfolding_all exact @L2.Aj5
theorem Yt:∀ {X:Cx}{tg l:Expr}{tl:TE},Bq X l tl->Lz X tg l (Amu (Cx.K X) tl):=by with_unfolding_all exact @L2.Aj4
theorem Bx:∀ {X:Cx},Vj X [] Mj:=by with_unfolding_all exact @L2.Ag6
theorem Jc:∀ {X:Cx}{c:Expr}{t:TT},Ko X c t->Vj X [c] t:=by with_unfolding_all exact @L2.Ag7
theorem Av:∀ {X:Cx}{a b:Expr}{ta tb:TE}{pos:Pos}{op:CmpOp}{r:R2},OpR X (compareOp op) r->Bq X a ta->Bq X b tb->behindInMarks op b=Bool.false->Ko X (Expr.Compare a [op] [b] pos) (Aho (tOp r ta tb)):=by with_unfolding_all exact @L2.Ag5
theorem Dm:∀ {X:Cx}{a:Expr}{pos:Pos}{tA:TT},Ko X a tA->Ko X (Expr.UnaryOp UnaryOp.Not a pos) (Anl tA):=by with_unfolding_all exact @L2.Akc
theorem Gw:∀ {X:Cx}{a b:Expr}{pos:Pos}{tA tB':TT}{rest:List Expr},Ko X a tA->Ti X (Expr.BoolOp BoolOp.And (b::rest) pos) tB'->Ti X (Expr.BoolOp BoolOp.And (a::b::rest) pos) (Ang tA tB'):=by with_unfolding_all exact @L2.Ake
theorem Em:∀ {X:Cx}{a b:Expr}{pos:Pos}{tA tB':TT}{rest:List Expr},Ko X a tA->Ti X (Expr.BoolOp BoolOp.Or (b::rest) pos) tB'->Ti X (Expr.BoolOp BoolOp.Or (a::b::rest) pos) (tOr tA tB'):=by with_unfolding_all exact @L2.Am9
theorem Hf:∀ {X:Cx}{a:Expr}{pos:Pos}{tA:TT},Ko X a tA->Ti X (Expr.BoolOp BoolOp.And [a] pos) tA:=by with_unfolding_all exact @L2.Ag8
theorem Ga:∀ {X:Cx}{a:Expr}{pos:Pos}{tA:TT},Ko X a tA->Ti X (Expr.BoolOp BoolOp.Or [a] pos) tA:=by with_unfolding_all exact @L2.Akf
theorem Eb:∀ {X:Cx}{e:Expr}{t:TT},Ti X e t->Ko X e t:=by with_unfolding_all exact @L2.PW.pt
theorem Cy:∀ {X:Cx}{e:Expr}{t:TE},Bq X e t->autoParam (∀(whole:Sem Value),isTrue e (Cx.env X) whole=do let v<-whole;standAt (Expr.pos e);holding [v] (truthy v)) L2.Ae7._auto_1->Ko X e (tB t):=by with_unfolding_all exact @L2.Ae7
theorem Ac:∀ {X:Cx},Jj X [] Al5:=by with_unfolding_all exact @L2.Ajv
theorem Aa:∀ {X:Cx}{e:Expr}{es:List Expr}{te:TE}{t:TA},Bq X e te->Jj X es t->autoParam (Di e=Bool.true) L2.Aez._auto_1->Jj X (e::es) (Yk te t):=by with_unfolding_all exact @L2.Aez
theorem Bc:∀ {X:Cx},Ij X [] Ahl:=by with_unfolding_all exact @L2.Ag3
theorem Ah:∀ {X:Cx}{st:Stmt}{t:TS},J0 X st t->Ij X [st] t:=by with_unfolding_all exact @L2.Ag4
theorem Ae:∀ {X:Cx}{st:Stmt}{rest:List Stmt}{t u:TS},J0 X st t->Ij X rest u->Ij X (st::rest) (Al6 t u):=by with_unfolding_all exact @L2.Ad0
theorem Ao:∀ {X:Cx}{pos:Pos}{x:Str} (i:Nat),Nodup (Cx.N X)->autoParam ((Cx.N X)[i]? =Option.some x) L2.Adv._auto_1->autoParam (Loc (Env.scope (Cx.env X)) x) L2.Adv._auto_2->autoParam (Cx.fn X x=Bool.true\/lookup x (Scope.names (Env.scope (Cx.env X)))=Option.some NameKind.local) L2.Adv._auto_3->Mz X (Expr.Name x pos) (Jq i):=by with_unfolding_all exact @L2.Adv
theorem Bh:∀ {X:Cx},Rp X [] Al2:=by with_unfolding_all exact @L2.Agu
theorem Ak:∀ {X:Cx}{e:Expr}{es:List Expr}{t:TG}{u:TGs},Mz X e t->Rp X es u->autoParam (List.map (fun(x:Bool × (Value->Sem Unit)) ↦ Prod.snd x) (assignEach (e::es) (Cx.env X))=assign e (Cx.env X)::List.map (fun(x:Bool × (Value->Sem Unit)) ↦ Prod.snd x) (assignEach es (Cx.env X))) L2.Wc._auto_1->Rp X (e::es) (Ud t u):=by with_unfolding_all exact @L2.Wc
theorem Ds:∀ {X:Cx}{es:List Expr}{k:Nat}{pos:Pos}{t:TGs} (K:W.Frag) (n:Nat),Cx.K X=K->Cx.calm X=Bool.true->Rp X es t->autoParam (length (assignEach es (Cx.env X))=n) L2.U3._auto_1->autoParam (List.findIdx? (fun(x:Bool × (Value->Sem Unit)) ↦ Prod.fst x) (assignEach es (Cx.env X))=Option.none) L2.U3._auto_2->Mz X (Expr.Tuple es k pos) (Ah5 K n t):=by with_unfolding_all exact @L2.U3
theorem Ca:∀ {X:Cx}{pos:Pos}{es:List Expr}{k:Nat}{t:TGs}{n:Nat},Cx.calm X=Bool.true->Rp X es t->autoParam (length (assignEach es (Cx.env X))=n) L2.Wb._auto_1->autoParam (List.findIdx? (fun(x:Bool × (Value->Sem Unit)) ↦ Prod.fst x) (assignEach es (Cx.env X))=Option.none) L2.Wb._auto_2->Mz X (Expr.Tuple es k pos) (Ah5 (Cx.K X) n t):=by with_unfolding_all exact @L2.Wb
theorem Ys:∀ {X:Cx}{pos:Pos}{o i:Expr}{to q:TE}{t:Aia},Bq X o to->Bq X i q->Amd X t->autoParam (∀(v:Value),assign (Expr.Subscript o i pos) (Cx.env X) v=do let ov<-holding [v] (eval o (Cx.env X));let iv<-holding [v,ov] (eval i (Cx.env X));standAt pos;holding [v,ov,iv] (setItem ov iv v);release [v,ov,iv] []) L2.Ae0._auto_1->Mz X (Expr.Subscript o i pos) (Amq to q t):=by with_unfolding_all exact @L2.Ae0
theorem Tp:∀ {X:Cx}{st:Stmt},J0 X st Afc:=by with_unfolding_all exact @L2.Ady
theorem M5:∀ {X:Cx}{elt tg iter:Expr}{ifs:List Expr}{scope:Scope}{pos:Pos}{wi:TI}{g:TG}{tt:TT}{te:TE}{ts:List Str}{fs:List (Nat × Str)}{g':TG}{y:Str}{G q:Pos},Cx.calm X=Bool.true->Dy X ts fs scope->Lz X tg iter wi->(∀(ex:List Addr) (s:Shared) (H:Hp),Mz (cxD X (cpN ts fs) scope ex s H) tg g)->(∀(ex:List Addr) (s:Shared) (H:Hp),Vj (cxD X (cpN ts fs) scope ex s H) ifs tt)->(∀(ex:List Addr) (s:Shared) (H:Hp),Bq (cxD X (cpN ts fs) scope ex s H) elt te)->Mz X (Expr.Name y G) g'->autoParam (swapsWith (Expr.ListComp elt [{ target:=tg,iter:=iter,ifs:=ifs,is_async:=(0:Int)}] scope pos) (Option.some (Expr.Name y G)) (Pos.line q) (Cx.env X)=Pure.pure Bool.true) L2.Qy._auto_1->autoParam (∀(x:Value),foldedSetIterable iter (Cx.env X) x=Pure.pure x) L2.Qy._auto_2->J0 X (Stmt.Assign [Expr.Name y G] (Expr.ListComp elt [{ target:=tg,iter:=iter,ifs:=ifs,is_async:=(0:Int)}] scope pos) q) (Ad5 (Yi (length ts) fs wi g tt te) g'):=by with_unfolding_all exact @L2.Qy
theorem Ay:∀ {X:Cx}{e:Expr}{pos:Pos}{te:TE}{x:Str}{pos':Pos} (i:Nat),Nodup (Cx.N X)->Bq X e te->autoParam ((Cx.N X)[i]? =Option.some x) L2.Abf._auto_1->autoParam (Loc (Env.scope (Cx.env X)) x) L2.Abf._auto_2->autoParam (swapsWith e (Option.some (Expr.Name x pos')) (Pos.line pos) (Cx.env X)=Pure.pure Bool.false) L2.Abf._auto_3->autoParam (Cx.fn X x=Bool.true\/lookup x (Scope.names (Env.scope (Cx.env X)))=Option.some NameKind.local) L2.Abf._auto_4->J0 X (Stmt.Assign [Expr.Name x pos'] e pos) (Ad5 te (Jq i)):=by with_unfolding_all exact @L2.Abf
theorem Gs:∀ {X:Cx}{o i value:Expr}{pos pos':Pos}{td ty tv:TE},Around.units (Cx.A X)+(1:Nat)<cLine->Bq X o td->Bq X i ty->Bq X value tv->swapsWith value (Option.some (Expr.Subscript o i pos')) (Pos.line pos) (Cx.env X)=Pure.pure Bool.false->J0 X (Stmt.Assign [Expr.Subscript o i pos'] value pos) (Ahc td ty tv):=by with_unfolding_all exact @L2.Ag2
theorem M6:∀ {X:Cx}{pos:Pos}{i j:Nat}{x y:Str}{a b:Expr}{ta:TA}{G J pt:Pos}{L M:Nat}{q:Pos},Cx.calm X=Bool.true->Nodup (Cx.N X)->(Cx.N X)[i]? =Option.some x->(Cx.N X)[j]? =Option.some y->i≠j->lookup x (Scope.names (Env.scope (Cx.env X)))=Option.some NameKind.local->lookup y (Scope.names (Env.scope (Cx.env X)))=Option.some NameKind.local->Jj X [a,b] ta->swappedStores [Expr.Tuple [Expr.Name x G,Expr.Name y J] L pt] (Expr.Tuple [a,b] M q) (Cx.env X)=Pure.pure (Option.some [x,y])->autoParam (swapsWithSole [Expr.Tuple [Expr.Name x G,Expr.Name y J] L pt] (Expr.Tuple [a,b] M q) (Pos.line pos) (Cx.env X)=Pure.pure Bool.false) L2.Ae6._auto_1->J0 X (Stmt.Assign [Expr.Tuple [Expr.Name x G,Expr.Name y J] L pt] (Expr.Tuple [a,b] M q) pos) (Anm i j ta):=by with_unfolding_all exact @L2.Ae6
theorem Ew:∀ {X:Cx}{pos:Pos}{tg e:Expr}{te:TE}{g:TG},Bq X e te->Mz X tg g->autoParam (swapsWithSole [tg] e (Pos.line pos) (Cx.env X)=Pure.pure Bool.false) L2.Wg._auto_1->autoParam (swappedStores [tg] e (Cx.env X)=Pure.pure Option.none) L2.Wg._auto_2->autoParam (List.map (fun(x:Bool × (Value->Sem Unit)) ↦ Prod.snd x) (assignEach [tg] (Cx.env X))=[assign tg (Cx.env X)]) L2.Wg._auto_3->J0 X (Stmt.Assign [tg] e pos) (Ad5 te g):=by with_unfolding_all exact @L2.Wg
theorem Ar:∀ {X:Cx}{e:Expr}{te:TE}{pos:Pos},Bq X e te->J0 X (Stmt.Return (Option.some e) pos) (Ann te):=by with_unfolding_all exact @L2.Akb
theorem Bp:∀ {X:Cx}{t u:TS}{pos:Pos}{c:Expr}{a b:List Stmt}{tc:TT},Ko X c tc->Ij X a t->Ij X b u->J0 X (Stmt.If c a b pos) (Anj tc t u):=by with_unfolding_all exact @L2.Am8
theorem Fv:∀ {X:Cx}{pos:Pos}{c:Expr}{q:List Stmt}{tc:TT}{tb:TS},PassesOwn (model (Cx.prog X) (Cx.w X)) (Cx.A X) (Cx.env X) (Cx.xe X)->Ko X c tc->Ij X q tb->J0 X (Stmt.While c q [] pos) (Wq tc tb):=by with_unfolding_all exact @L2.Adz
theorem Ce:∀ {X:Cx}{tg iter:Expr}{q:List Stmt}{wi:TI}{g:TG}{tb:TS}{pos:Pos},PassesOwn (model (Cx.prog X) (Cx.w X)) (Cx.A X) (Cx.env X) (Cx.xe X)->Cx.calm X=Bool.true->Lz X tg iter wi->Mz X tg g->Ij X q tb->autoParam (∀(x:Value),foldedSetIterable iter (Cx.env X) x=Pure.pure x) L2.Ae5._auto_1->J0 X (Stmt.For tg iter q [] pos) (Ani wi g tb):=by with_unfolding_all exact @L2.Ae5
theorem Fp:∀ {X:Cx}{e:Expr}{te:TE}{pos:Pos},Bq X e te->autoParam (swapsWith e Option.none (Pos.line pos) (Cx.env X)=Pure.pure Bool.false) L2.Abe._auto_1->J0 X (Stmt.Expr e pos) (Ahj te):=by with_unfolding_all exact @L2.Abe
theorem Bb {b:List Stmt}{q:TS->Prop} (h:∃t,Ij X b t/\q t):∃t,L2.PSs X b t/\q t:=by
 obtain⟨t,h1,h2⟩:=h
 exact⟨t,Ah8 h1,h2⟩
section
universe a b c d e f g
variable {A:Sort a}{B:A->Sort b}{C:∀x,B x->Sort c}{D:∀x y,C x y->Sort d}{E:∀x y z,D x y z->Sort e}{F:∀x y z u,E x y z u->Sort f}{I:∀x y z u v,F x y z u v->Sort g}
end
noncomputable def asI (x:V) (p:Int->Prop):Prop:=match x with | .int k=>p k | _=>False
theorem Yv (x:V) (p:Int->Prop):asI x p=∃k,x= .int k/\p k:=by
 refine propext ⟨fun h=> ?_,fun⟨k,e,h⟩=>by subst e;exact h⟩
 cases x with
 | int k=>exact⟨k,rfl,h⟩
 | _=>exact False.elim h
noncomputable def rIN (C:Int->Int->Prop) (g:Int->Int->V):R2:=fun x y H Q=>asI x fun i=>asI y fun j=>C i j/\Q (g i j) H
variable {y:V}
theorem Amx {x:V}{p:Int->Int->Prop}:(asI x fun i=>asI y fun j=>p i j)=∃i j,x= .int i/\y= .int j/\p i j:=by
 rw [Yv]
 refine propext ⟨fun⟨i,e,h⟩=> ?_,fun⟨i,j,e,f,h⟩=>⟨i,e,?_⟩⟩
 . rw [Yv]at h
   obtain⟨j,f,h⟩:=h
   exact⟨i,j,e,f,h⟩
 . rw [Yv]
   exact⟨j,f,h⟩
theorem Akg:rIN=rI:=funext fun _=>funext fun _=>funext fun _=>funext fun _=>funext fun _=>funext fun _=>Amx
section
variable {X:Cx}{f:Value->Value->Sem Value}{C:Int->Int->Prop}{g:Int->Int->V}
theorem oI (h:OpR X f (rI C g)):OpR X f (rIN C g):=by rw [Akg];exact h
end
open PySem PySem.W PyProof.Rows
noncomputable def Hs:Bool->Keyed->Array Keyed->Nat->Nat->Nat->StateT SortSt Sem (Option Nat):=sortPriv%PySem.Builtin.gallop
theorem Xg (left:Bool) (J:Keyed) (L:Array Keyed) (base n q:Nat):Hs left J L base n q=(do
 let beyond (i:Nat):StateT SortSt Sem (Option Bool):=do
  let x<-elem' L (base+i)
  if left then lt' x J else return (<-lt' J x).map (!·)
 let mut lastofs:=0
 let mut ofs:=1
 let mut lo:=0
 let mut hi:=0
 let some right<-beyond q | return none
 if right then
  let G:=n-q
  for _ in [0:n] do
   if ofs>=G then break
   let some more<-beyond (q+ofs) | return none
   if !more then break
   lastofs:=ofs
   ofs:=2*ofs+1
  lo:=q+lastofs+1
  hi:=q+min ofs G
 else
  let G:=q+1
  for _ in [0:n] do
   if ofs>=G then break
   let some found<-beyond (q-ofs) | return none
   if found then break
   lastofs:=ofs
   ofs:=2*ofs+1
  lo:=q+1-min ofs G
  hi:=q-lastofs
 for _ in [0:n] do
  if lo>=hi then break
  let m:=lo+(hi-lo)/2
  let some more<-beyond m | return none
  if more then lo:=m+1 else hi:=m
 return some hi):=rfl
variable {i j m:Nat}
section
variable {prog:Program}{w:World}{A:Around}{E:Value->Shared->Prop}{κ:SortKind}{it:Array Keyed}{n:Nat}{lt:Nat->Nat->Bool}{I:Shared->Prop}
noncomputable def CW (prog:Program) (w:World) (A:Around) (E:Value->Shared->Prop) (I:Shared->Prop) {α:Type} (m:StateT SortSt Sem α) (Q:α->SortSt->Prop) (st:SortSt):Prop:=
 ∀s,I s->kasC (model prog w) A E m (fun a st' s'=>I s'/\Q a st') st s
structure HC (prog:Program) (w:World) (A:Around) (I:Shared->Prop) (κ:SortKind) (it:Array Keyed) (n:Nat) (lt:Nat->Nat->Bool):Prop where
 lo:LO n lt
 ask:∀i j,i<n->j<n->i≠j->∀(C:Bool->Shared->Prop) s,I s->(∀s',I s'->C (lt i j) s')->kas_cmp prog w A κ it i j C s
section
variable {α β:Type}{st:SortSt}
theorem Az {a:α}{Q:α->SortSt->Prop} (h:Q a st):CW prog w A E I (pure a) Q st:=fun _ i=>kasC_pure ⟨i,h⟩
theorem Aq {m:StateT SortSt Sem α}{f:α->StateT SortSt Sem β}{Q:β->SortSt->Prop} (h:CW prog w A E I m (fun a q=>CW prog w A E I (f a) Q q) st):CW prog w A E I (m>>=f) Q st:=
 fun s i=>kasC_bind (cT (h s i) (fun _ _ G=>G.2 _ G.1) fun _ _ e=>e)
theorem Cz {m:StateT SortSt Sem α}{Q G:α->SortSt->Prop} (h:CW prog w A E I m Q st) (L:∀a q,Q a q->G a q):CW prog w A E I m G st:=
 fun s i=>cT (h s i) (fun _ _ J=>⟨J.1,L _ _ J.2⟩) fun _ _ e=>e
theorem J5 {Q:SortSt->SortSt->Prop} (h:Q st st):CW prog w A E I (get:StateT SortSt Sem SortSt) Q st:=fun _ i=>kasC_get ⟨i,h⟩
theorem Gx {f:SortSt->SortSt}{Q:PUnit->SortSt->Prop} (h:Q ⟨⟩ (f st)):CW prog w A E I (modify f) Q st:=fun _ i=>kasC_modify ⟨i,h⟩
theorem Aio {x:SortSt}{Q:PUnit->SortSt->Prop} (h:Q ⟨⟩ x):CW prog w A E I (set x) Q st:=fun s i=>by
 show wpAny _ _ ((set x:StateT SortSt Sem PUnit).run st) _ _ s
 rw [StateT.run_set]
 exact aE ⟨i,h⟩
theorem Ku {x:String}{Q:Unit->SortSt->Prop} (h:Q () st):CW prog w A E I (liftM (rule x):StateT SortSt Sem Unit) Q st:=fun _ i=>kasC_lift (jL ⟨i,h⟩)
theorem Ze (f:Nat->β->StateT SortSt Sem (ForInStep β)) (J:List Nat->β->SortSt->Prop) (Q:β->SortSt->Prop)
 (q:∀x rest b st,J (x::rest) b st->CW prog w A E I (f x b) (fun r G=>match r with | .done M=>Q M G | .yield M=>J rest M G) st)
 (L:∀b st,J [] b st->Q b st):∀(l:List Nat) (b:β) (st:SortSt),J l b st->CW prog w A E I (forIn l b f) Q st
 | [],b,st,h=>by rw [jR];exact Az (L _ _ h)
 | x::rest,b,st,h=>by
   rw [hG]
   refine Aq (Cz (q x rest b st h) fun r G h'=> ?_)
   cases r with
   | done M=>exact Az h'
   | yield M=>exact Ze f J Q q L rest M G h'
theorem Cv {b:Nat}{a:Nat}{f:Nat->β->StateT SortSt Sem (ForInStep β)} (J:Nat->β->SortSt->Prop) {Q:β->SortSt->Prop}
 (q:∀i c st,i<b-a->J i c st->CW prog w A E I (f (a+i) c) (fun r G=>match r with | .done M=>Q M G | .yield M=>J (i+1) M G) st)
 (O:∀c st,J (b-a) c st->Q c st) {c:β}{st:SortSt} (h:J 0 c st):CW prog w A E I (forIn [a:b] c f) Q st:=by
 intro s i
 refine kasC_range ?_
 refine Ze f (fun l c st=>∃i,i<=b-a/\l=range' (a+i) (b-a-i) 1/\J i c st) Q ?_ ?_ _ c st ⟨0,by omega,rfl,h⟩ s i
 . rintro x rest c st ⟨i,hi,L,W⟩
   have U:i<b-a:=by
    rcases lt_or_ge i (b-a)with h' | h'
    . exact h'
    . rw [show b-a-i=0 by omega]at L
      simp at L
   obtain⟨m,Z⟩:∃m,b-a-i=m+1:=⟨b-a-i-1,by omega⟩
   rw [Z,range'_succ]at L
   obtain⟨rfl,rfl⟩:=kF L
   refine Cz (q i c st U W) fun r G h'=> ?_
   cases r with
   | done M=>exact h'
   | yield M=>exact⟨i+1,U,by rw [show b-a-(i+1)=m by omega];rfl,h'⟩
 . rintro c st ⟨i,hi,L,W⟩
   have:i=b-a:=by
    rcases lt_or_ge i (b-a)with h' | h'
    . obtain⟨m,Z⟩:∃m,b-a-i=m+1:=⟨b-a-i-1,by omega⟩
      rw [Z,range'_succ]at L
      simp at L
    . omega
   subst this
   exact O _ _ W
theorem Ck {q:Array Keyed}{x:Keyed}{Q:Keyed->SortSt->Prop} (e:q[i]? =some x) (h:Q x st):CW prog w A E I (elem' q i) Q st:=by
 rw [elem'_eq,e]
 exact Az h
theorem Ajk {a:Array Nat} (h:i<a.size):(a.map (kas_item it))[i]? =some (kas_item it (aT a i)):=by
 rw [Array.getElem?_map,Afl h]
 rfl
theorem Zf (J:HC prog w A I κ it n lt) {Q:Option Bool->SortSt->Prop} (L:kindOf st=κ) (hi:i<n) (M:j<n) (O:i≠j) (h:Q (some (lt i j)) st):CW prog w A E I (lt' (kas_item it i) (kas_item it j)) Q st:=by
 intro s U
 rw [lt'_eq]
 refine kasC_bind (kasC_get ?_)
 rw [L]
 exact kasC_bind (kasC_lift (gL (cT (J.ask i j hi M O (fun c s'=>c=lt i j/\I s') s U fun s' q=>⟨rfl,q⟩) (fun c s' G=>by obtain⟨rfl,q⟩:=G;exact kasC_pure ⟨q,h⟩) fun _ _ W=>W.elim)))
end
theorem LO.not (L:LO n lt)  (hi:i<n) (q:j<n) (G:i≠j) (h:lt i j=false):lt j i=true:=by
 have:=L.tri i j hi q G
 rw [h]at this
 cases e:lt j i
 . rw [e]at this
   cases this
 . rfl
theorem Apo {lo hi:Nat} (h:lo<hi):lo+(hi-lo)/2<hi/\lo<=lo+(hi-lo)/2:=by omega
theorem Zd (hc:HC prog w A I κ it n lt) {left:Bool}{c base G:Nat}{a:Array Nat}{st:SortSt}{Q:Option Nat->SortSt->Prop} (hk:kindOf st=κ) (hb:base+m<=a.size) (hh:G<m) (Z:c<n)
 (ha:∀i,i<m->aT a (base+i)<n/\aT a (base+i)≠c) (so:∀i j,i<j->j<m->lt (aT a (base+i)) (aT a (base+j))=true)
 (q:∀k,k<=m->(∀i,i<k->lt (aT a (base+i)) c=true)->(∀i,k<=i->i<m->lt c (aT a (base+i))=true)->Q (some k) st):CW prog w A E I (Hs left (kas_item it c) (a.map (kas_item it)) base m G) Q st:=by
 have a7:∀i,i<m->∀(Q:Option Bool->SortSt->Prop),Q (some (lt (aT a (base+i)) c)) st->CW prog w A E I (do let x<-elem' (a.map (kas_item it)) (base+i);if left=true then lt' x (kas_item it c)else do let y<-lt' (kas_item it c) x;pure (y.map (!·))) Q st:=by
  intro i hi Q hq
  obtain⟨h1,h2⟩:=ha i hi
  refine Aq (Ck (Ajk (by omega)) ?_)
  cases left with
  | true=>exact Zf hc hk h1 Z h2 hq
  | false=>
    refine Aq (Zf hc hk Z h1 (cS h2) (Az ?_))
    have:=hc.lo.tri (aT a (base+i)) c h1 Z h2
    rw [this]at hq
    exact hq
 have dn:∀i j,i<=j->j<m->lt (aT a (base+j)) c=true->lt (aT a (base+i)) c=true:=fun i j a8 hj h=>by
  rcases Nat.eq_or_lt_of_le a8 with e | e
  . rw [e]
    exact h
  . exact hc.lo.trans _ _ _ (ha i (by omega)).1 (ha j hj).1 Z (so i j e hj) h
 have up:∀i j,i<=j->j<m->lt (aT a (base+i)) c=false->lt c (aT a (base+j))=true:=fun i j a8 hj h=>by
  refine hc.lo.not (ha j hj).1 Z (ha j hj).2 ?_
  cases e:lt (aT a (base+j)) c
  . rfl
  . rw [dn i j a8 hj e]at h
    cases h
 have tt:∀b:Bool,b≠true->b=false:=fun b h=>by
  cases b
  . rfl
  . exact absurd rfl h
 have bin:∀lo hi,lo<=hi->hi<=m->(∀i,i<lo->lt (aT a (base+i)) c=true)->(∀i,hi<=i->i<m->lt c (aT a (base+i))=true)->
  CW prog w A E I (do
   let mut l:=lo
   let mut h:=hi
   for _ in [0:m] do
    if l>=h then break
    let some more<-(do let x<-elem' (a.map (kas_item it)) (base+(l+(h-l)/2));if left then lt' x (kas_item it c)else return (<-lt' (kas_item it c) x).map (!·)) | return none
    if more then l:=l+(h-l)/2+1 else h:=l+(h-l)/2
   return some h) Q st:=by
  intro lo hi h1 h2 h3 h4
  dsimp only
  refine Aq (Cz (Cv (J:=fun i z L=>L=st/\∃l h,z=(none,l,h)/\l<=h/\h<=m/\h-l<=m-i/\(∀i,i<l->lt (aT a (base+i)) c=true)/\(∀i,h<=i->i<m->lt c (aT a (base+i))=true))
   (Q:=fun z L=>L=st/\∃k,z=(none,k,k)/\k<=m/\(∀i,i<k->lt (aT a (base+i)) c=true)/\(∀i,k<=i->i<m->lt c (aT a (base+i))=true)) ?_ ?_ ⟨rfl,lo,hi,rfl,h1,h2,by omega,h3,h4⟩) ?_)
  . rintro i z L a9 ⟨rfl,l,h,rfl,W,a2,O,M,U⟩
    dsimp only
    by_cases e:l>=h
    . rw [aI e]
      have:l=h:=by omega
      subst this
      exact Az ⟨rfl,l,rfl,a2,M,U⟩
    . rw [aF e]
      obtain⟨d1,d2⟩:=Apo (Nat.lt_of_not_le e)
      refine Aq (a7 _ (by omega) _ ?_)
      dsimp only
      split
      . rename_i g
        exact Az ⟨rfl,_,_,rfl,by omega,a2,by omega,fun i hi=>dn i _ (by omega) (by omega) g,U⟩
      . rename_i g
        exact Az ⟨rfl,_,_,rfl,by omega,by omega,by omega,M,fun i hi a0=>up _ i hi a0 (tt _ g)⟩
  . rintro z L ⟨rfl,l,h,rfl,W,a2,O,M,U⟩
    have:l=h:=by omega
    subst this
    exact⟨rfl,l,rfl,a2,M,U⟩
  . rintro z L ⟨rfl,k,rfl,a2,M,U⟩
    exact Az (q k a2 M U)
 rw [Xg]
 dsimp only
 refine Aq (a7 G hh _ ?_)
 dsimp only
 split
 . rename_i g
   refine Aq (Cz (Cv (J:=fun i z L=>L=st/\∃l o,z=(none,l,o)/\l<o/\i+1<=o/\G+l<m/\lt (aT a (base+(G+l))) c=true)
    (Q:=fun z L=>L=st/\∃l o,z=(none,l,o)/\l<o/\G+l<m/\lt (aT a (base+(G+l))) c=true/\(m-G<=o\/G+o<m/\lt (aT a (base+(G+o))) c=false)) ?_ ?_ ⟨rfl,0,1,rfl,by omega,by omega,hh,g⟩) ?_)
   . rintro i z L a9 ⟨rfl,l,o,rfl,W,a2,O,M⟩
     dsimp only
     by_cases e:o>=m-G
     . rw [aI e]
       exact Az ⟨rfl,l,o,rfl,W,O,M,.inl e⟩
     . rw [aF e]
       refine Aq (a7 _ (by omega) _ ?_)
       dsimp only
       split
       . rename_i g2
         exact Az ⟨rfl,l,o,rfl,W,O,M,.inr ⟨by omega,by simpa using g2⟩⟩
       . rename_i g2
         exact Az ⟨rfl,o,2*o+1,rfl,by omega,by omega,by omega,by simpa using g2⟩
   . rintro z L ⟨rfl,l,o,rfl,W,a2,O,M⟩
     exact⟨rfl,l,o,rfl,W,O,M,.inl (by omega)⟩
   . rintro z L ⟨rfl,l,o,rfl,W,O,M,U⟩
     dsimp only
     refine bin (G+l+1) (G+min o (m-G)) (by omega) (by omega) (fun i hi=>dn i (G+l) (by omega) O M) fun i hi a0=> ?_
     rcases U with U | ⟨U,a6⟩
     . omega
     . exact up (G+o) i (by omega) a0 a6
 . rename_i g
   refine Aq (Cz (Cv (J:=fun i z L=>L=st/\∃l o,z=(none,l,o)/\l<o/\i+1<=o/\l<=G/\lt (aT a (base+(G-l))) c=false)
    (Q:=fun z L=>L=st/\∃l o,z=(none,l,o)/\l<o/\l<=G/\lt (aT a (base+(G-l))) c=false/\(G+1<=o\/o<=G/\lt (aT a (base+(G-o))) c=true)) ?_ ?_ ⟨rfl,0,1,rfl,by omega,by omega,by omega,tt _ g⟩) ?_)
   . rintro i z L a9 ⟨rfl,l,o,rfl,W,a2,O,M⟩
     dsimp only
     by_cases e:o>=G+1
     . rw [aI e]
       exact Az ⟨rfl,l,o,rfl,W,O,M,.inl e⟩
     . rw [aF e]
       refine Aq (a7 _ (by omega) _ ?_)
       dsimp only
       split
       . rename_i g2
         exact Az ⟨rfl,l,o,rfl,W,O,M,.inr ⟨by omega,g2⟩⟩
       . rename_i g2
         exact Az ⟨rfl,o,2*o+1,rfl,by omega,by omega,by omega,tt _ g2⟩
   . rintro z L ⟨rfl,l,o,rfl,W,a2,O,M⟩
     exact⟨rfl,l,o,rfl,W,O,M,.inl (by omega)⟩
   . rintro z L ⟨rfl,l,o,rfl,W,O,M,U⟩
     dsimp only
     refine bin (G+1-min o (G+1)) (G-l) (by omega) (by omega) (fun i hi=> ?_) fun i hi a0=>up (G-l) i hi a0 M
     rcases U with U | ⟨U,a6⟩
     . omega
     . exact dn i (G-o) (by omega) (by omega) a6
end
noncomputable def Qm:Array Keyed->Array Keyed->StateT SortSt Sem (Array Keyed):=sortPriv%PySem.Builtin.mergeLo
noncomputable def Ql:Array Keyed->Array Keyed->StateT SortSt Sem (Array Keyed):=sortPriv%PySem.Builtin.mergeHi
noncomputable def setG (st:SortSt) (g:Nat):SortSt:=SortSt.mk' (kindOf st) (arrOf st) (pendingOf st) g (failedOf st)
noncomputable def Eh:Nat->StateT SortSt Sem Unit:=sortPriv%PySem.Builtin.setMinGallop
theorem Mi (g:Nat):Eh g=modify fun s=>setG s g:=rfl
theorem Ul (a b:Array Keyed):Qm a b=(do
 rule "list.sort.merge-lo"
 let J:=a.size+b.size
 let done (out:Array Keyed) (q G:Nat):=out++a.extract q a.size++b.extract G b.size
 let lastOfA (out:Array Keyed) (q G:Nat):=out++b.extract G b.size++a.extract q a.size
 let mut out:Array Keyed:= #[<-elem' b 0]
 let mut q:=0
 let mut G:=1
 if G==b.size then return done out q G
 if q+1==a.size then return lastOfA out q G
 let mut minGallop:=gallopOf (<-get)
 for _ in [0:J] do
  let mut acount:=0
  let mut bcount:=0
  for _ in [0:J] do
   let some bWins<-lt' (<-elem' b G) (<-elem' a q) | return done out q G
   if bWins then
    out:=out.push (<-elem' b G);G:=G+1;bcount:=bcount+1;acount:=0
    if G==b.size then return done out q G
    if bcount>=minGallop then break
   else
    out:=out.push (<-elem' a q);q:=q+1;acount:=acount+1;bcount:=0
    if q+1==a.size then return lastOfA out q G
    if acount>=minGallop then break
  rule "list.sort.gallop"
  minGallop:=minGallop+1
  for _ in [0:J] do
   if minGallop>1 then minGallop:=minGallop-1
   Eh minGallop
   let some k<-Hs false (<-elem' b G) a q (a.size-q) 0 | return done out q G
   acount:=k
   if k>0 then
    out:=out++a.extract q (q+k);q:=q+k
    if q+1==a.size then return lastOfA out q G
    if q==a.size then return done out q G
   out:=out.push (<-elem' b G);G:=G+1
   if G==b.size then return done out q G
   let some k<-Hs true (<-elem' a q) b G (b.size-G) 0 | return done out q G
   bcount:=k
   if k>0 then
    out:=out++b.extract G (G+k);G:=G+k
    if G==b.size then return done out q G
   out:=out.push (<-elem' a q);q:=q+1
   if q+1==a.size then return lastOfA out q G
   if acount<7&&bcount<7 then break
  minGallop:=minGallop+1
  Eh minGallop
 unsupported "internal:list.sort.merge-bound"):=rfl
theorem Uk (a b:Array Keyed):Ql a b=(do
 rule "list.sort.merge-hi"
 let J:=a.size+b.size
 let done (out:Array Keyed) (q G:Nat):=a.extract 0 q++b.extract 0 G++out.reverse
 let firstOfB (out:Array Keyed) (q G:Nat):=b.extract 0 G++a.extract 0 q++out.reverse
 let mut q:=a.size-1
 let mut G:=b.size
 let mut out:Array Keyed:= #[<-elem' a q]
 if q==0 then return done out q G
 if G==1 then return firstOfB out q G
 let mut minGallop:=gallopOf (<-get)
 for _ in [0:J] do
  let mut acount:=0
  let mut bcount:=0
  for _ in [0:J] do
   let some aWins<-lt' (<-elem' b (G-1)) (<-elem' a (q-1)) | return done out q G
   if aWins then
    q:=q-1;out:=out.push (<-elem' a q);acount:=acount+1;bcount:=0
    if q==0 then return done out q G
    if acount>=minGallop then break
   else
    G:=G-1;out:=out.push (<-elem' b G);bcount:=bcount+1;acount:=0
    if G==1 then return firstOfB out q G
    if bcount>=minGallop then break
  rule "list.sort.gallop"
  minGallop:=minGallop+1
  for _ in [0:J] do
   if minGallop>1 then minGallop:=minGallop-1
   Eh minGallop
   let some at_<-Hs false (<-elem' b (G-1)) a 0 q (q-1) | return done out q G
   let k:=q-at_
   acount:=k
   if k>0 then
    out:=out++(a.extract at_ q).reverse;q:=at_
    if q==0 then return done out q G
   G:=G-1;out:=out.push (<-elem' b G)
   if G==1 then return firstOfB out q G
   let some at_<-Hs true (<-elem' a (q-1)) b 0 G (G-1) | return done out q G
   let k:=G-at_
   bcount:=k
   if k>0 then
    out:=out++(b.extract at_ G).reverse;G:=at_
    if G==1 then return firstOfB out q G
    if G==0 then return done out q G
   q:=q-1;out:=out.push (<-elem' a q)
   if q==0 then return done out q G
   if acount<7&&bcount<7 then break
  minGallop:=minGallop+1
  Eh minGallop
 unsupported "internal:list.sort.merge-bound"):=rfl
section
variable {it:Array Keyed}{n:Nat}{lt:Nat->Nat->Bool}
noncomputable def im (it:Array Keyed) (l:List Nat):Array Keyed:=(l.map (kas_item it)).toArray
theorem Eo (l:List Nat):(im it l).size=l.length:=by simp [im]
theorem Lk (l r:List Nat):im it l++im it r=im it (l++r):=by simp [im]
theorem Il (l:List Nat) (j:Nat):(im it l).push (kas_item it j)=im it (l++ [j]):=by simp [im]
theorem Aep (j:Nat): #[kas_item it j]=im it [j]:=by simp [im]
theorem Mh (X x:List Nat) (j:Nat):(im it (X++j::x))[X.length]? =some (kas_item it j):=by simp [im]
theorem Kw (X x:List Nat):(im it (X++x)).extract X.length (im it (X++x)).size=im it x:=by
 apply gR.mp
 simp [im,eY]
theorem Vr (X u x:List Nat):(im it (X++(u++x))).extract X.length (X.length+u.length)=im it u:=by
 apply gR.mp
 simp [im]
noncomputable abbrev LT (lt:Nat->Nat->Bool) (i j:Nat):Prop:=lt i j=true
structure MP (n:Nat) (lt:Nat->Nat->Bool) (A B:List Nat):Prop where
 lo:LO n lt
 sa:A.Pairwise (LT lt)
 sb:B.Pairwise (LT lt)
 ba:∀i∈A,i<n
 bb:∀i∈B,i<n
 ne:∀i∈A,∀j∈B,i≠j
 fst:∀i∈A,∀j y,B=j::y->lt j i=true
 lst:∀j∈B,∀X i,A=X++ [i]->lt j i=true
structure MS (lt:Nat->Nat->Bool) (A B o X x Y y:List Nat):Prop where
 ea:A=X++x
 eb:B=Y++y
 pm:(o++(x++y)).Perm (A++B)
 so:(o++x).Pairwise (LT lt)
 s2:(o++y).Pairwise (LT lt)
 ln:o.length=X.length+Y.length
variable {A B o X x Y y:List Nat}
theorem MS.appA {u:List Nat} (h:MS lt A B o X (u++x) Y y) (l:∀i∈u,∀j∈y,lt i j=true):MS lt A B (o++u) (X++u) x Y y:=by
 refine⟨by rw [h.ea];simp,h.eb,?_,?_,?_,?_⟩
 . have:=h.pm
   simpa using this
 . have:=h.so
   simpa using this
 . have h1:=aX.mp h.so
   have h2:=aX.mp h.s2
   have G:=aX.mp h1.2.1
   refine aX.mpr ⟨aX.mpr ⟨h1.1,G.1,fun i hi j q=>h1.2.2 i hi j (bD _ q)⟩,h2.2.1,fun i hi j q=> ?_⟩
   rcases bG.mp hi with e | e
   . exact h2.2.2 i e j q
   . exact l i e j q
 . have:=h.ln
   simp only [aL]
   omega
theorem MS.appB {u:List Nat} (h:MS lt A B o X x Y (u++y)) (l:∀j∈u,∀i∈x,lt j i=true):MS lt A B (o++u) X x (Y++u) y:=by
 refine⟨h.ea,by rw [h.eb];simp,?_,?_,?_,?_⟩
 . refine Perm.trans ?_ h.pm
   simp only [cK]
   refine eO _ ?_
   rw [<-cK,<-cK]
   exact iJ _ iO
 . have h1:=aX.mp h.so
   have h2:=aX.mp h.s2
   have G:=aX.mp h2.2.1
   refine aX.mpr ⟨aX.mpr ⟨h1.1,G.1,fun i hi j q=>h2.2.2 i hi j (bD _ q)⟩,h1.2.1,fun i hi j q=> ?_⟩
   rcases bG.mp hi with e | e
   . exact h1.2.2 i e j q
   . exact l i e j q
 . have:=h.s2
   simpa using this
 . have:=h.ln
   simp only [aL]
   omega
noncomputable def Fi (it:Array Keyed) (lt:Nat->Nat->Bool) (A B:List Nat) (r:Array Keyed):Prop:=∃z:List Nat,r=im it z/\z.Perm (A++B)/\z.Pairwise (LT lt)
theorem MS.finB (h:MS lt A B o X x Y []):Fi it lt A B (im it o++(im it A).extract X.length (im it A).size++(im it B).extract Y.length (im it B).size):=by
 refine⟨o++x,?_,by simpa using h.pm,h.so⟩
 rw [h.ea,Kw,h.eb,Kw]
 simp [im]
theorem MS.finA (h:MS lt A B o X [] Y y):Fi it lt A B (im it o++(im it A).extract X.length (im it A).size++(im it B).extract Y.length (im it B).size):=by
 refine⟨o++y,?_,by simpa using h.pm,h.s2⟩
 rw [h.ea,Kw,h.eb,Kw]
 simp [im]
theorem MS.finL {t:Nat} (P:MP n lt A B) (h:MS lt A B o X [t] Y y):Fi it lt A B (im it o++(im it B).extract Y.length (im it B).size++(im it A).extract X.length (im it A).size):=by
 refine⟨o++(y++ [t]),?_,?_,?_⟩
 . rw [h.ea,Kw,h.eb,Kw]
   simp [im]
 . refine Perm.trans ?_ h.pm
   exact eO _ iO
 . have h1:=aX.mp h.so
   have h2:=aX.mp h.s2
   rw [<-cK]
   refine aX.mpr ⟨h.s2,fU _ _,fun i hi j q=> ?_⟩
   rcases bG.mp hi with e | e
   . exact h1.2.2 i e j q
   . rw [aS.mp q]
     exact P.lst i (by rw [h.eb];exact bI _ e) X t h.ea
theorem MS.mx (h:MS lt A B o X x Y y)  (hi:i∈x):i∈A:=by rw [h.ea];exact bI _ hi
theorem MS.my (h:MS lt A B o X x Y y)  (hi:i∈y):i∈B:=by rw [h.eb];exact bI _ hi
theorem MS.headB (P:MP n lt A B)  (h:MS lt A B o X (i::x) Y (j::y)) (l:lt j i=true):∀k∈i::x,lt j k=true:=fun k q=>by
 rcases aQ.mp q with rfl | e
 . exact l
 . have h1:=(cQ.mp (aX.mp h.so).2.1).1 k e
   exact P.lo.trans _ _ _ (P.bb _ (h.my (.head _))) (P.ba _ (h.mx (.head _))) (P.ba _ (h.mx q)) l h1
theorem MS.headA (P:MP n lt A B)  (h:MS lt A B o X (i::x) Y (j::y)) (l:lt i j=true):∀k∈j::y,lt i k=true:=fun k q=>by
 rcases aQ.mp q with rfl | e
 . exact l
 . have h1:=(cQ.mp (aX.mp h.s2).2.1).1 k e
   exact P.lo.trans _ _ _ (P.ba _ (h.mx (.head _))) (P.bb _ (h.my (.head _))) (P.bb _ (h.my q)) l h1
theorem MP.start (P:MP n lt A B):MS lt A B [] [] A [] B:=⟨rfl,rfl,by simp,P.sa,P.sb,rfl⟩
end
variable {B:List Nat}
section
variable {prog:Program}{w:World}{A:Around}{E:Value->Shared->Prop}{κ:SortKind}{it:Array Keyed}{n:Nat}{lt:Nat->Nat->Bool}{I:Shared->Prop}
theorem O4 (W:HC prog w A I κ it n lt) {left:Bool}{c G:Nat}{l X S Y:List Nat}{st:SortSt}{Q:Option Nat->SortSt->Prop} (Z:kindOf st=κ) (el:l=X++(S++Y)) (hm:m=S.length) (hh:G<m) (L:c<n)
 (ha:∀i∈S,i<n/\i≠c) (so:S.Pairwise (LT lt)) (q:∀u v,S=u++v->(∀i∈u,lt i c=true)->(∀i∈v,lt c i=true)->Q (some u.length) st):
 CW prog w A E I (Hs left (kas_item it c) (im it l) X.length m G) Q st:=by
 subst el
 have e:im it (X++(S++Y))=((X++(S++Y)).toArray).map (kas_item it):=by simp [im]
 have g:∀i (hi:i<S.length),aT (X++(S++Y)).toArray (X.length+i)=S[i]:=fun i hi=>by
  unfold aT
  simp [Array.getD_eq_getD_getElem?,dS,hi]
  rw [aF (by omega)]
  rfl
 rw [e]
 subst hm
 refine Zd W Z (by simp) hh L (fun i hi=>by rw [g i hi];exact ha _ (cE hi)) (fun i j M O=>by rw [g i (by omega),g j O];exact bV.mp so i j _ _ M) fun k U a1 a2=> ?_
 have:=q (S.take k) (S.drop k) (dH k S).symm (fun i hi=> ?_) fun i hi=> ?_
 . rwa [bT,jF U]at this
 . obtain⟨j,O,rfl⟩:=List.mem_take_iff_getElem.mp hi
   have J:j<k/\j<S.length:=by omega
   have:=a1 j J.1
   rwa [g j J.2]at this
 . obtain⟨j,O,rfl⟩:=List.mem_drop_iff_getElem.mp hi
   have:=a2 (k+j) (iS _ _) (by omega)
   rwa [g _ (by omega)]at this
structure LI (it:Array Keyed) (lt:Nat->Nat->Bool) (A B:List Nat) (k:Nat) (out:Array Keyed) (ia ib:Nat):Prop where
 ex:∃o X x Y y,out=im it o/\ia=X.length/\ib=Y.length/\MS lt A B o X x Y y/\2<=x.length/\1<=y.length/\k<=o.length
noncomputable def SgS (st st':SortSt):Prop:=∃g,st'=setG st g
theorem Qe {g:Nat}{st G:SortSt}{Q:Unit->SortSt->Prop} (h:SgS st G) (q:∀G,SgS st G->Q () G):CW prog w A E I (Eh g) Q G:=by
 obtain⟨J,rfl⟩:=h
 rw [Mi]
 exact Gx (q _ ⟨g,rfl⟩)
theorem sz0 {a X x:List Nat} (e:a=X++x):(X.length==(im it a).size)=true↔x=[]:=by
 rw [Eo,e]
 cases x<;>simp
theorem sz1 {a X x:List Nat} (e:a=X++x):(X.length+1==(im it a).size)=true↔x.length=1:=by
 rw [Eo,e]
 simp
 omega
theorem sz_ {a X x:List Nat} (e:a=X++x):(im it a).size-X.length=x.length:=by
 rw [Eo,e]
 simp
theorem len1 (Y:List Nat) (j:Nat):Y.length+1=(Y++ [j]).length:=by simp
theorem Ans {x:List Nat} (h:2<=x.length):∃i q G,x=i::q::G:=by
 cases x with
 | nil=>simp at h
 | cons i x=>
   cases x with
   | nil=>simp at h
   | cons q G=>exact⟨i,q,G,rfl⟩
theorem Adm {x:List Nat} (h:1<=x.length):∃i q,x=i::q:=by
 cases x with
 | nil=>simp at h
 | cons i x=>exact⟨i,x,rfl⟩
theorem SgS.kind {st q:SortSt} (h:SgS st q) (G:kindOf st=κ):kindOf q=κ:=by
 obtain⟨g,rfl⟩:=h
 exact G
theorem Xd (hc:HC prog w A I κ it n lt) {a b:List Nat}{st:SortSt}{Q:Array Keyed->SortSt->Prop} (U:kindOf st=κ) (P:MP n lt a b) (ha:a≠ []) (hb:b≠ [])
 (q:∀r G,SgS st G->Fi it lt a b r->Q r G):CW prog w A E I (Qm (im it a) (im it b)) Q st:=by
 obtain⟨j0,y0,rfl⟩:∃j y,b=j::y:=by
  cases b with
  | nil=>exact absurd rfl hb
  | cons j y=>exact⟨j,y,rfl⟩
 obtain⟨i0,x0,rfl⟩:∃i x,a=i::x:=by
  cases a with
  | nil=>exact absurd rfl ha
  | cons i x=>exact⟨i,x,rfl⟩
 generalize hA:i0::x0=a at*
 generalize hB:j0::y0=b at*
 have m1:MS lt a b [j0] [] a [j0] y0:=by
  have m0:MS lt a b [] [] a [] ([j0]++y0):=by
   rw [show [j0]++y0=b from hB]
   exact P.start
  have:=m0.appB fun j hj i hi=>by
   rw [aS.mp hj]
   exact P.fst i hi j0 y0 hB.symm
  simpa using this
 rw [Ul]
 dsimp only
 refine Aq (Ku ?_)
 refine Aq (Ck (x:=kas_item it j0) (by rw [<-hB];exact Mh [] y0 j0) ?_)
 rw [Aep]
 by_cases cy:y0=[]
 . subst cy
   rw [aI (by rw [Eo,<-hB];rfl)]
   exact Az (q _ _ ⟨gallopOf st,rfl⟩ (m1.finB (it:=it)))
 rw [aF (by rw [Eo,<-hB];cases y0 with | nil=>exact absurd rfl cy | cons _ _=>simp)]
 by_cases cx:x0=[]
 . subst cx
   rw [aI (by rw [Eo,<-hA];rfl)]
   rw [<-hA]at m1
   have:=m1.finL (it:=it) (by rw [hA];exact P)
   rw [hA]at this
   exact Az (q _ _ ⟨gallopOf st,rfl⟩ this)
 rw [aF (by rw [Eo,<-hA];cases x0 with | nil=>exact absurd rfl cx | cons _ _=>simp)]
 refine Aq (J5 ?_)
 have l2:2<=a.length:=by
  rw [<-hA]
  cases x0 with
  | nil=>exact absurd rfl cx
  | cons _ _=>simp
 have l1:1<=y0.length:=by
  cases y0 with
  | nil=>exact absurd rfl cy
  | cons _ _=>simp
 refine Aq (Cz (Cv (J:=fun i z G=>SgS st G/\z.1=none/\LI it lt a b (i+1) z.2.1 z.2.2.1 z.2.2.2.1) (Q:=fun z G=>SgS st G/\∃r,z.1=some r/\Fi it lt a b r) ?_ ?_
  ⟨⟨_,rfl⟩,rfl,[j0],[],a,[j0],y0,rfl,rfl,rfl,m1,l2,l1,aH _⟩) ?_)
 . rintro i0 ⟨r0,a0,ia,ib,g⟩ G al ⟨M,e,o,X,x,Y,y,Z,e2,e3,ms,h2,h1,W⟩
   dsimp only at e Z e2 e3 ⊢
   subst e Z e2 e3
   refine Aq (Cz (Cv (J:=fun i z G=>SgS st G/\z.1=none/\LI it lt a b (i0+1+i) z.2.1 z.2.2.1 z.2.2.2.1)
    (Q:=fun z G=>SgS st G/\((∃r,z.1=some r/\Fi it lt a b r)\/z.1=none/\LI it lt a b (i0+2) z.2.1 z.2.2.1 z.2.2.2.1)) ?_ ?_ ⟨M,rfl,o,X,x,Y,y,rfl,rfl,rfl,ms,h2,h1,W⟩) ?_)
   . rintro i1 ⟨r0,a0,ia,ib,ac,bc⟩ a4 ai ⟨M,e,o,X,x,Y,y,Z,e2,e3,ms,h2,h1,W⟩
     dsimp only at e Z e2 e3 ⊢
     subst e Z e2 e3
     obtain⟨i,i',x',rfl⟩:=Ans h2
     obtain⟨j,y',rfl⟩:=Adm h1
     have jn:=P.bb j (ms.my (.head _))
     have a5:=P.ba i (ms.mx (.head _))
     have ag:=P.ne i (ms.mx (.head _)) j (ms.my (.head _))
     refine Aq (Ck (by rw [ms.eb];exact Mh Y y' j) (Aq (Ck (by rw [ms.ea];exact Mh X (i'::x') i) (Aq (Zf hc (M.kind U) jn a5 (cS ag) ?_)))))
     dsimp only
     split
     . rename_i l
       have L:MS lt a b (o++ [j]) X (i::i'::x') (Y++ [j]) y':=MS.appB (u:=[j]) ms fun k U=>by
        rw [aS.mp U]
        exact ms.headB P l
       have ey:Y.length+1=(Y++ [j]).length:=by simp
       refine Aq (Ck (by rw [ms.eb];exact Mh Y y' j) ?_)
       rw [Il,ey]
       split
       . rename_i c
         have:=(sz0 L.eb).mp c
         subst this
         exact Az ⟨M,.inl ⟨_,rfl,L.finB⟩⟩
       . rename_i c
         have hy:1<=y'.length:=fW fun z=>c ((sz0 L.eb).mpr (aW z))
         split
         . exact Az ⟨M,.inr ⟨rfl,_,_,_,_,_,rfl,rfl,rfl,L,h2,hy,by simp;omega⟩⟩
         . exact Az ⟨M,rfl,_,_,_,_,_,rfl,rfl,rfl,L,h2,hy,by simp;omega⟩
     . rename_i l
       have l':=hc.lo.not jn a5 (cS ag) (by simpa using l)
       have L:MS lt a b (o++ [i]) (X++ [i]) (i'::x') Y (j::y'):=MS.appA (u:=[i]) ms fun k U=>by
        rw [aS.mp U]
        exact ms.headA P l'
       have ex:X.length+1=(X++ [i]).length:=by simp
       refine Aq (Ck (by rw [ms.ea];exact Mh X (i'::x') i) ?_)
       rw [Il,ex]
       split
       . rename_i c
         have:=(sz1 L.ea).mp c
         have hx:x'=[]:=aW (by simpa using this)
         subst hx
         exact Az ⟨M,.inl ⟨_,rfl,L.finL P⟩⟩
       . rename_i c
         have hx:2<=(i'::x').length:=by
          have:(i'::x').length≠1:=fun z=>c ((sz1 L.ea).mpr z)
          simp only [bU]at this ⊢
          omega
         split
         . exact Az ⟨M,.inr ⟨rfl,_,_,_,_,_,rfl,rfl,rfl,L,hx,h1,by simp;omega⟩⟩
         . exact Az ⟨M,rfl,_,_,_,_,_,rfl,rfl,rfl,L,hx,h1,by simp;omega⟩
   . rintro⟨r0,a0,ia,ib,ac,bc⟩ a4 ⟨M,e,o,X,x,Y,y,Z,e2,e3,ms,h2,h1,W⟩
     have a1:=bK length ms.ea
     simp only [aL]at a1
     rw [Eo,Eo]at W
     exact⟨M,.inr ⟨e,o,X,x,Y,y,Z,e2,e3,ms,h2,h1,by omega⟩⟩
   . rintro⟨r0,a0,ia,ib,ac,bc⟩ a4 ⟨M,⟨r,e,hf⟩ | ⟨e,o,X,x,Y,y,Z,e2,e3,ms,h2,h1,W⟩⟩
     . dsimp only at e ⊢
       subst e
       exact Az ⟨M,r,rfl,hf⟩
     dsimp only at e Z e2 e3 ⊢
     subst e Z e2 e3
     dsimp only
     refine Aq (Ku ?_)
     refine Aq (Cz (Cv (J:=fun i z G=>SgS st G/\z.1=none/\LI it lt a b (i0+2) z.2.1 z.2.2.1 z.2.2.2.1)
      (Q:=fun z G=>SgS st G/\((∃r,z.1=some r/\Fi it lt a b r)\/z.1=none/\LI it lt a b (i0+2) z.2.1 z.2.2.1 z.2.2.2.1)) ?_ ?_ ⟨M,rfl,o,X,x,Y,y,rfl,rfl,rfl,ms,h2,h1,W⟩) ?_)
     . rintro i1 ⟨r0,a0,ia,ib,g,ac,bc⟩ a4 ai ⟨M,e,o,X,x,Y,y,Z,e2,e3,ms,h2,h1,W⟩
       dsimp only at e Z e2 e3 ⊢
       subst e Z e2 e3
       obtain⟨j,y',rfl⟩:=Adm h1
       have jn:=P.bb j (ms.my (.head _))
       rcases eS (g>1)with cg | cg
       all_goals
        first | rw [aI cg] | rw [aF cg]
        refine Aq (Qe M fun aj O=> ?_)
        refine Aq (Ck (by rw [ms.eb];exact Mh Y y' j) (Aq (O4 hc (O.kind U) (S:=x) (Y:=[]) (by rw [ms.ea];simp) (sz_ ms.ea) (by rw [sz_ ms.ea];omega) jn (fun i hi=>⟨P.ba i (ms.mx hi),P.ne i (ms.mx hi) j (ms.my (.head _))⟩) (aX.mp ms.so).2.1 fun u v ab hu hv=> ?_)))
        dsimp only
        subst ab
        have L:MS lt a b (o++u) (X++u) v Y (j::y'):=ms.appA fun k U k2 a6=>by
         rcases aQ.mp a6 with rfl | e
         . exact hu k U
         . exact P.lo.trans _ _ _ (P.ba _ (ms.mx (bD _ U))) jn (P.bb _ (ms.my a6)) (hu k U) ((cQ.mp (aX.mp ms.s2).2.1).1 k2 e)
        have ex:X.length+u.length=(X++u).length:=by simp
        by_cases cu:u.length>0
        case' pos=>
         rw [aI cu]
         have em:im it o++(im it a).extract X.length (X.length+u.length)=im it (o++u):=by rw [ms.ea,Vr,Lk]
         rw [em,ex]
         rcases eS (((X++u).length+1==(im it a).size)=true)with c | c1
         . rw [aI c]
           have a9:=(sz1 L.ea).mp c
           obtain⟨t,v',rfl⟩:=Adm (eJ a9.symm)
           have ad:v'=[]:=aW (by simpa using a9)
           subst ad
           exact Az ⟨O,.inl ⟨_,rfl,L.finL P⟩⟩
         rw [aF c1]
         rcases eS (((X++u).length==(im it a).size)=true)with c | c2
         . rw [aI c]
           have:=(sz0 L.ea).mp c
           subst this
           exact Az ⟨O,.inl ⟨_,rfl,L.finA⟩⟩
         rw [aF c2]
         have ah:2<=v.length:=by
          have a1:v.length≠1:=fun z=>c1 ((sz1 L.ea).mpr z)
          have a2:v.length≠0:=fun z=>c2 ((sz0 L.ea).mpr (aW z))
          omega
         have a7:i0+2<=(o++u).length:=by simp;omega
         clear em ex ms c1 c2 W hu h2
         revert L a7
         generalize o++u=o2
         generalize X++u=X2
         intro L a7
        case' neg=>
         rw [aF cu]
         have ae:u=[]:=aW (by omega)
         subst ae
         have ah:2<=v.length:=h2
         have a7:=W
         simp only [cP]at L
         clear ex ms W hu h2
         revert L a7
         generalize o=o2
         generalize X=X2
         intro a7 L
        all_goals
         refine Aq (Ck (by rw [L.eb];exact Mh Y y' j) ?_)
         have m3:MS lt a b (o2++ [j]) X2 v (Y++ [j]) y':=MS.appB (u:=[j]) L (by intro k U;rw [aS.mp U];exact hv)
         rw [Il,len1 Y j]
         rcases eS (((Y++ [j]).length==(im it b).size)=true)with c | c3
         . rw [aI c]
           have:=(sz0 m3.eb).mp c
           subst this
           exact Az ⟨O,.inl ⟨_,rfl,m3.finB⟩⟩
         rw [aF c3]
         obtain⟨i,i',v',rfl⟩:=Ans ah
         have a5:=P.ba i (m3.mx (.head _))
         have hy:0<y'.length:=fW fun z=>c3 ((sz0 m3.eb).mpr (aW z))
         refine Aq (Ck (by rw [m3.ea];exact Mh X2 (i'::v') i) (Aq (O4 hc (O.kind U) (S:=y') (Y:=[]) (by rw [m3.eb];simp) (sz_ m3.eb) (by rw [sz_ m3.eb];exact hy) a5 (fun k U=>⟨P.bb k (m3.my U),(P.ne i (m3.mx (.head _)) k (m3.my U)).symm⟩) (aX.mp m3.s2).2.1 fun u3 v3 ab aa ak=> ?_)))
         dsimp only
         subst ab
         have m4:MS lt a b (o2++ [j]++u3) X2 (i::i'::v') (Y++ [j]++u3) v3:=m3.appB fun k U k2 a6=>by
          rcases aQ.mp a6 with rfl | e
          . exact aa k U
          . exact P.lo.trans _ _ _ (P.bb _ (m3.my (bD _ U))) a5 (P.ba _ (m3.mx a6)) (aa k U) ((cQ.mp (aX.mp m3.so).2.1).1 k2 e)
         by_cases c4:u3.length>0
         case' pos=>
          rw [aI c4]
          have em:im it (o2++ [j])++(im it b).extract (Y++ [j]).length ((Y++ [j]).length+u3.length)=im it (o2++ [j]++u3):=by rw [m3.eb,Vr,Lk]
          rw [em,show(Y++ [j]).length+u3.length=(Y++ [j]++u3).length from(aL).symm]
          rcases eS (((Y++ [j]++u3).length==(im it b).size)=true)with c | c5
          . rw [aI c]
            have:=(sz0 m4.eb).mp c
            subst this
            exact Az ⟨O,.inl ⟨_,rfl,m4.finB⟩⟩
          rw [aF c5]
          have af:1<=v3.length:=fW fun z=>c5 ((sz0 m4.eb).mpr (aW z))
          have a8:i0+2<=(o2++ [j]++u3).length:=by simp;omega
          clear em m3 c3 c5 hy aa
          revert m4 a8
          generalize o2++ [j]++u3=o3
          generalize Y++ [j]++u3=Y3
          intro m4 a8
         case' neg=>
          rw [aF c4]
          have ae:u3=[]:=aW (by omega)
          subst ae
          simp only [cP]at m4
          have af:1<=v3.length:=hy
          have a8:i0+2<=(o2++ [j]).length:=by simp;omega
          clear m3 c3 hy aa
          revert m4 a8
          generalize o2++ [j]=o3
          generalize Y++ [j]=Y3
          intro m4 a8
         all_goals
          refine Aq (Ck (by rw [m4.ea];exact Mh X2 (i'::v') i) ?_)
          have m5:MS lt a b (o3++ [i]) (X2++ [i]) (i'::v') Y3 v3:=MS.appA (u:=[i]) m4 (by intro k U;rw [aS.mp U];exact ak)
          rw [Il,len1 X2 i]
          rcases eS (((X2++ [i]).length+1==(im it a).size)=true)with c | c6
          . rw [aI c]
            have a9:=(sz1 m5.ea).mp c
            have ad:v'=[]:=aW (by simpa using a9)
            subst ad
            exact Az ⟨O,.inl ⟨_,rfl,m5.finL P⟩⟩
          rw [aF c6]
          have hx:2<=(i'::v').length:=by
           have:(i'::v').length≠1:=fun z=>c6 ((sz1 m5.ea).mpr z)
           simp only [bU]at this ⊢
           omega
          split
          . exact Az ⟨O,.inr ⟨rfl,_,_,_,_,_,rfl,rfl,rfl,m5,hx,af,by simp;omega⟩⟩
          . exact Az ⟨O,rfl,_,_,_,_,_,rfl,rfl,rfl,m5,hx,af,by simp;omega⟩
     . rintro⟨r0,a0,ia,ib,g,ac,bc⟩ a4 ⟨M,e⟩
       exact⟨M,.inr e⟩
     . rintro⟨r0,a0,ia,ib,g,ac,bc⟩ a4 ⟨M,⟨r,e,hf⟩ | ⟨e,W⟩⟩
       . dsimp only at e ⊢
         subst e
         exact Az ⟨M,r,rfl,hf⟩
       . dsimp only at e W ⊢
         subst e
         dsimp only
         refine Aq (Qe M fun aj O=> ?_)
         exact Az ⟨O,rfl,W⟩
 . rintro z G ⟨M,e,o,X,x,Y,y,Z,e2,e3,ms,h2,h1,W⟩
   have a1:=bK length ms.ea
   have a2:=bK length ms.eb
   have a3:=ms.ln
   rw [Eo,Eo]at W
   simp only [aL]at a1 a2
   omega
 . rintro⟨r,z⟩ G ⟨M,r',e,hf⟩
   dsimp only at e ⊢
   subst e
   exact Az (q _ _ M hf)
theorem MS.zB {A o X x Y:List Nat} (h:MS lt A B o X x Y []):(o++x).Perm (A++B)/\(o++x).Pairwise (LT lt):=⟨by simpa using h.pm,h.so⟩
theorem MS.zA {A o X Y y:List Nat} (h:MS lt A B o X [] Y y):(o++y).Perm (A++B)/\(o++y).Pairwise (LT lt):=⟨by simpa using h.pm,h.s2⟩
theorem MS.zL {A o X Y y:List Nat}{t:Nat} (P:MP n lt A B) (h:MS lt A B o X [t] Y y):(o++y++ [t]).Perm (A++B)/\(o++y++ [t]).Pairwise (LT lt):=by
 refine⟨?_,?_⟩
 . refine Perm.trans ?_ h.pm
   rw [cK]
   exact eO _ iO
 . have h1:=aX.mp h.so
   refine aX.mpr ⟨h.s2,fU _ _,fun i hi j q=> ?_⟩
   rcases bG.mp hi with e | e
   . exact h1.2.2 i e j q
   . rw [aS.mp q]
     exact P.lst i (by rw [h.eb];exact bI _ e) X t h.ea
noncomputable def flT (lt:Nat->Nat->Bool) (i j:Nat):Bool:=lt j i
noncomputable def FdT (it:Array Keyed) (lt:Nat->Nat->Bool) (p r:List Nat) (out:Array Keyed):Prop:=∃z:List Nat,out=im it z.reverse/\z.Perm (p++r)/\z.Pairwise (LT (flT lt))
theorem J6 {p X x:List Nat} (e:p=X++i::x):(im it p.reverse)[x.length]? =some (kas_item it i):=by
 have:=Mh (it:=it) x.reverse X.reverse i
 rw [fQ]at this
 rw [e]
 simpa using this
theorem Vs {p X x:List Nat} (e:p=X++x):(im it p.reverse).extract 0 x.length=im it x.reverse:=by
 apply gR.mp
 subst e
 simp [im,List.take_append,eY]
theorem Z6 {p X u v:List Nat} (e:p=X++(u++v)):((im it p.reverse).extract v.length (u++v).length).reverse=im it u:=by
 apply gR.mp
 subst e
 simp [im]
theorem Aeq (o:List Nat):(im it o).reverse=im it o.reverse:=by simp [im]
structure LH (it:Array Keyed) (lt:Nat->Nat->Bool) (p r:List Nat) (k:Nat) (na nb:Nat) (out:Array Keyed):Prop where
 ex:∃o X x Y y,out=im it o/\na=y.length/\nb=x.length/\MS (flT lt) p r o X x Y y/\2<=x.length/\1<=y.length/\k<=o.length
theorem Nb {p r o X x Y y z:List Nat} (h:MS (flT lt) p r o X x Y y) (e:z=o++x/\y=[]\/z=o++y/\x=[]) (q:z.Perm (p++r)/\z.Pairwise (LT (flT lt))):
 FdT it lt p r ((im it r.reverse).extract 0 y.length++(im it p.reverse).extract 0 x.length++(im it o).reverse):=by
 refine⟨z,?_,q.1,q.2⟩
 rw [Vs h.ea,Vs h.eb,Aeq,Lk,Lk]
 rcases e with⟨rfl,rfl⟩ | ⟨rfl,rfl⟩<;>simp
theorem Vp {p r o X Y y:List Nat}{t:Nat} (P:MP n (flT lt) p r) (h:MS (flT lt) p r o X [t] Y y):
 FdT it lt p r ((im it p.reverse).extract 0 1++(im it r.reverse).extract 0 y.length++(im it o).reverse):=by
 have e:=Vs (it:=it) h.ea
 refine⟨o++y++ [t],?_,(h.zL P).1,(h.zL P).2⟩
 rw [show(1:Nat)=[t].length from rfl,e,Vs h.eb,Aeq,Lk,Lk]
 simp
theorem Xc (hc:HC prog w A I κ it n lt) {p r:List Nat}{st:SortSt}{Q:Array Keyed->SortSt->Prop} (M:kindOf st=κ) (P:MP n (flT lt) p r) (ha:p≠ []) (hb:r≠ [])
 (q:∀G L,SgS st L->FdT it lt p r G->Q G L):CW prog w A E I (Ql (im it r.reverse) (im it p.reverse)) Q st:=by
 obtain⟨j0,y0,hB⟩:∃j y,r=j::y:=by
  cases r with
  | nil=>exact absurd rfl hb
  | cons j y=>exact⟨j,y,rfl⟩
 obtain⟨i0,x0,hA⟩:∃i x,p=i::x:=by
  cases p with
  | nil=>exact absurd rfl ha
  | cons i x=>exact⟨i,x,rfl⟩
 have m1:MS (flT lt) p r [j0] [] p [j0] y0:=by
  have m0:MS (flT lt) p r [] [] p [] ([j0]++y0):=by
   rw [show [j0]++y0=r from hB.symm]
   exact P.start
  have:=m0.appB fun j hj i hi=>by
   rw [aS.mp hj]
   exact P.fst i hi j0 y0 hB
  simpa using this
 have zr:(im it r.reverse).size-1=y0.length:=by rw [Eo,fQ,hB];simp
 have zp:(im it p.reverse).size=p.length:=by rw [Eo,fQ]
 rw [Uk]
 dsimp only
 refine Aq (Ku ?_)
 rw [zr,zp]
 refine Aq (Ck (J6 (X:=[]) hB) ?_)
 rw [Aep]
 by_cases cy:y0=[]
 . subst cy
   rw [aI (by simp)]
   exact Az (q _ _ ⟨gallopOf st,rfl⟩ (Nb m1 (.inl ⟨rfl,rfl⟩) m1.zB))
 rw [aF (by cases y0 with | nil=>exact absurd rfl cy | cons _ _=>simp)]
 by_cases cx:x0=[]
 . subst cx
   rw [aI (by rw [hA];rfl)]
   rw [hA]at m1 P q
   rw [hA]
   exact Az (q _ _ ⟨gallopOf st,rfl⟩ (Vp P m1))
 rw [aF (by rw [hA];cases x0 with | nil=>exact absurd rfl cx | cons _ _=>simp)]
 refine Aq (J5 ?_)
 have l2:2<=p.length:=by
  rw [hA]
  cases x0 with
  | nil=>exact absurd rfl cx
  | cons _ _=>simp
 have l1:1<=y0.length:=by
  cases y0 with
  | nil=>exact absurd rfl cy
  | cons _ _=>simp
 refine Aq (Cz (Cv (J:=fun i z L=>SgS st L/\z.1=none/\LH it lt p r (i+1) z.2.1 z.2.2.1 z.2.2.2.1) (Q:=fun z L=>SgS st L/\∃G,z.1=some G/\FdT it lt p r G) ?_ ?_
  ⟨⟨_,rfl⟩,rfl,[j0],[],p,[j0],y0,rfl,rfl,rfl,m1,l2,l1,aH _⟩) ?_)
 . rintro i0 ⟨r0,na,nb,G,g⟩ L al ⟨O,e,o,X,x,Y,y,e1,e2,e3,ms,h2,h1,hl⟩
   dsimp only at e e1 e2 e3 ⊢
   subst e e1 e2 e3
   refine Aq (Cz (Cv (J:=fun i z L=>SgS st L/\z.1=none/\LH it lt p r (i0+1+i) z.2.1 z.2.2.1 z.2.2.2.1)
    (Q:=fun z L=>SgS st L/\((∃G,z.1=some G/\FdT it lt p r G)\/z.1=none/\LH it lt p r (i0+2) z.2.1 z.2.2.1 z.2.2.2.1)) ?_ ?_ ⟨O,rfl,o,X,x,Y,y,rfl,rfl,rfl,ms,h2,h1,hl⟩) ?_)
   . rintro i1 ⟨r0,na,nb,G,ac,bc⟩ a5 ai ⟨O,e,o,X,x,Y,y,e1,e2,e3,ms,h2,h1,hl⟩
     dsimp only at e e1 e2 e3 ⊢
     subst e e1 e2 e3
     obtain⟨i,i',W,rfl⟩:=Ans h2
     obtain⟨j,y',rfl⟩:=Adm h1
     have jn:=P.bb j (ms.my (.head _))
     have a6:=P.ba i (ms.mx (.head _))
     have af:=P.ne i (ms.mx (.head _)) j (ms.my (.head _))
     rw [show(i::i'::W).length-1=(i'::W).length from rfl,show(j::y').length-1=y'.length from rfl]
     refine Aq (Ck (J6 ms.ea) (Aq (Ck (J6 ms.eb) (Aq (Zf hc (O.kind M) a6 jn af ?_)))))
     dsimp only
     split
     . rename_i l
       have Z:MS (flT lt) p r (o++ [j]) X (i::i'::W) (Y++ [j]) y':=MS.appB (u:=[j]) ms fun k M=>by
        rw [aS.mp M]
        exact ms.headB P l
       refine Aq (Ck (J6 ms.eb) ?_)
       rw [Il]
       split
       . rename_i c
         have:y'=[]:=aW (by simpa using c)
         subst this
         exact Az ⟨O,.inl ⟨_,rfl,Nb Z (.inl ⟨rfl,rfl⟩) Z.zB⟩⟩
       . rename_i c
         have hy:1<=y'.length:=fW fun z=>c (by simpa using z)
         split
         . exact Az ⟨O,.inr ⟨rfl,_,_,_,_,_,rfl,rfl,rfl,Z,h2,hy,by simp;omega⟩⟩
         . exact Az ⟨O,rfl,_,_,_,_,_,rfl,rfl,rfl,Z,h2,hy,by simp;omega⟩
     . rename_i l
       have l':=hc.lo.not a6 jn af (by simpa using l)
       have Z:MS (flT lt) p r (o++ [i]) (X++ [i]) (i'::W) Y (j::y'):=MS.appA (u:=[i]) ms fun k M=>by
        rw [aS.mp M]
        exact ms.headA P l'
       refine Aq (Ck (J6 ms.ea) ?_)
       rw [Il]
       split
       . rename_i c
         have hx:W=[]:=aW (by simpa using c)
         subst hx
         exact Az ⟨O,.inl ⟨_,rfl,Vp P Z⟩⟩
       . rename_i c
         have hx:2<=(i'::W).length:=by
          have:(i'::W).length≠1:=fun z=>c (by simpa using z)
          simp only [bU]at this ⊢
          omega
         split
         . exact Az ⟨O,.inr ⟨rfl,_,_,_,_,_,rfl,rfl,rfl,Z,hx,h1,by simp;omega⟩⟩
         . exact Az ⟨O,rfl,_,_,_,_,_,rfl,rfl,rfl,Z,hx,h1,by simp;omega⟩
   . rintro⟨r0,na,nb,G,ac,bc⟩ a5 ⟨O,e,o,X,x,Y,y,e1,e2,e3,ms,h2,h1,hl⟩
     have a1:=bK length ms.ea
     simp only [aL]at a1
     refine⟨O,.inr ⟨e,o,X,x,Y,y,e1,e2,e3,ms,h2,h1,?_⟩⟩
     omega
   . rintro⟨r0,na,nb,G,ac,bc⟩ a5 ⟨O,⟨r',e,hf⟩ | ⟨e,o,X,x,Y,y,e1,e2,e3,ms,h2,h1,hl⟩⟩
     . dsimp only at e ⊢
       subst e
       exact Az ⟨O,r',rfl,hf⟩
     dsimp only at e e1 e2 e3 ⊢
     subst e e1 e2 e3
     dsimp only
     refine Aq (Ku ?_)
     refine Aq (Cz (Cv (J:=fun i z L=>SgS st L/\z.1=none/\LH it lt p r (i0+2) z.2.1 z.2.2.1 z.2.2.2.1)
      (Q:=fun z L=>SgS st L/\((∃G,z.1=some G/\FdT it lt p r G)\/z.1=none/\LH it lt p r (i0+2) z.2.1 z.2.2.1 z.2.2.2.1)) ?_ ?_ ⟨O,rfl,o,X,x,Y,y,rfl,rfl,rfl,ms,h2,h1,hl⟩) ?_)
     . rintro i1 ⟨r0,na,nb,G,g,ac,bc⟩ a5 ai ⟨O,e,o,X,x,Y,y,e1,e2,e3,ms,h2,h1,hl⟩
       dsimp only at e e1 e2 e3 ⊢
       subst e e1 e2 e3
       obtain⟨i,W,rfl⟩:=Adm (Nat.le_of_succ_le h2)
       have a6:=P.ba i (ms.mx (.head _))
       rw [show(i::W).length-1=W.length from rfl]
       rcases eS (g>1)with cg | cg
       all_goals
        first | rw [aI cg] | rw [aF cg]
        refine Aq (Qe O fun aj U=> ?_)
        refine Aq (Ck (J6 ms.ea) (Aq (O4 hc (U.kind M) (X:=[]) (S:=y.reverse) (Y:=Y.reverse) (by rw [ms.eb];simp) (by simp) (by omega) a6 (fun k M=>⟨P.bb k (ms.my (cW.mp M)),(P.ne i (ms.mx (.head _)) k (ms.my (cW.mp M))).symm⟩) (gC.mpr (aX.mp ms.s2).2.1) fun s t a0 a4 ht=> ?_)))
        dsimp only
        obtain⟨u,rfl⟩:∃u,t=u.reverse:=⟨t.reverse,by simp⟩
        obtain⟨v,rfl⟩:∃v,s=v.reverse:=⟨s.reverse,by simp⟩
        have ey:y=u++v:=by
         have:=bK reverse a0
         simpa using this
        subst ey
        rw [fQ,show(u++v).length-v.length=u.length by simp]
        have Z:MS (flT lt) p r (o++u) X (i::W) (Y++u) v:=ms.appB fun k M k2 a7=>by
         have l1:flT lt k i=true:=ht k (cW.mpr M)
         rcases aQ.mp a7 with rfl | e
         . exact l1
         . exact P.lo.trans _ _ _ (P.bb _ (ms.my (bD _ M))) a6 (P.ba _ (ms.mx a7)) l1 ((cQ.mp (aX.mp ms.so).2.1).1 k2 e)
        have hv:∀k∈v,flT lt i k=true:=fun k M=>a4 k (cW.mpr M)
        by_cases cu:u.length>0
        case' pos=>
         rw [aI cu]
         have em:im it o++((im it r.reverse).extract v.length (u++v).length).reverse=im it (o++u):=by rw [Z6 ms.eb,Lk]
         rw [em]
         rcases eS ((v.length==0)=true)with c | c1
         . rw [aI c]
           have:v=[]:=aW (by simpa using c)
           subst this
           exact Az ⟨U,.inl ⟨_,rfl,Nb Z (.inl ⟨rfl,rfl⟩) Z.zB⟩⟩
         rw [aF c1]
         have ag:1<=v.length:=fW fun z=>c1 (by simpa using z)
         have a8:i0+2<=(o++u).length:=by simp;omega
         clear em c1 hl h1 a4 ht a0 ms
         revert Z a8
         generalize o++u=o2
         generalize Y++u=Y2
         intro Z a8
        case' neg=>
         rw [aF cu]
         have aa:u=[]:=aW (by omega)
         subst aa
         rw [nil_append]at*
         rw [cP]at Z
         rw [cP]at Z
         have ag:1<=v.length:=h1
         have a8:=hl
         clear hl h1 a4 ht a0 ms
         revert Z a8
         generalize o=o2
         generalize Y=Y2
         intro Z a8
        all_goals
         refine Aq (Ck (J6 Z.ea) ?_)
         have m3:MS (flT lt) p r (o2++ [i]) (X++ [i]) W Y2 v:=MS.appA (u:=[i]) Z (by intro k M;rw [aS.mp M];exact hv)
         rw [Il]
         rcases eS ((W.length==1)=true)with c | c3
         . rw [aI c]
           obtain⟨t,v',rfl⟩:=Adm (show 1<=W.length from eJ (by simpa using c:W.length=1).symm)
           have ab:v'=[]:=aW (by simpa using c)
           subst ab
           exact Az ⟨U,.inl ⟨_,rfl,Vp P m3⟩⟩
         rw [aF c3]
         have ad:2<=W.length:=by
          have:W.length≠1:=fun z=>c3 (by simpa using z)
          simp only [bU]at h2
          omega
         obtain⟨j,v',rfl⟩:=Adm ag
         have jn:=P.bb j (m3.my (.head _))
         rw [show(j::v').length-1=v'.length from rfl]
         refine Aq (Ck (J6 m3.eb) (Aq (O4 hc (U.kind M) (X:=[]) (S:=W.reverse) (Y:=(X++ [i]).reverse) (by rw [m3.ea];simp) (by simp) (by omega) jn (fun k M=>⟨P.ba k (m3.mx (cW.mp M)),P.ne k (m3.mx (cW.mp M)) j (m3.my (.head _))⟩) (gC.mpr (aX.mp m3.so).2.1) fun s t a0 a4 ht=> ?_)))
         dsimp only
         obtain⟨u3,rfl⟩:∃u,t=u.reverse:=⟨t.reverse,by simp⟩
         obtain⟨v3,rfl⟩:∃v,s=v.reverse:=⟨s.reverse,by simp⟩
         have ey:W=u3++v3:=by
          have:=bK reverse a0
          simpa using this
         subst ey
         rw [fQ,show(u3++v3).length-v3.length=u3.length by simp]
         have m4:MS (flT lt) p r (o2++ [i]++u3) (X++ [i]++u3) v3 Y2 (j::v'):=m3.appA fun k M k2 a7=>by
          have l1:flT lt k j=true:=ht k (cW.mpr M)
          rcases aQ.mp a7 with rfl | e
          . exact l1
          . exact P.lo.trans _ _ _ (P.ba _ (m3.mx (bD _ M))) jn (P.bb _ (m3.my a7)) l1 ((cQ.mp (aX.mp m3.s2).2.1).1 k2 e)
         have ak:∀k∈v3,flT lt j k=true:=fun k M=>a4 k (cW.mpr M)
         by_cases c4:u3.length>0
         case' pos=>
          rw [aI c4]
          have em:im it (o2++ [i])++((im it p.reverse).extract v3.length (u3++v3).length).reverse=im it (o2++ [i]++u3):=by rw [Z6 m3.ea,Lk]
          rw [em]
          rcases eS ((v3.length==1)=true)with c | c5
          . rw [aI c]
            obtain⟨t,v',rfl⟩:=Adm (show 1<=v3.length from eJ (by simpa using c:v3.length=1).symm)
            have ab:v'=[]:=aW (by simpa using c)
            subst ab
            exact Az ⟨U,.inl ⟨_,rfl,Vp P m4⟩⟩
          rw [aF c5]
          rcases eS ((v3.length==0)=true)with c | c6
          . rw [aI c]
            have:v3=[]:=aW (by simpa using c)
            subst this
            exact Az ⟨U,.inl ⟨_,rfl,Nb m4 (.inr ⟨rfl,rfl⟩) m4.zA⟩⟩
          rw [aF c6]
          have ae:2<=v3.length:=by
           have a1:v3.length≠1:=fun z=>c5 (by simpa using z)
           have a2:v3.length≠0:=fun z=>c6 (by simpa using z)
           omega
          have a9:i0+2<=(o2++ [i]++u3).length:=by simp;omega
          clear em m3 c3 c5 c6 a4 ht a0 ad
          revert m4 a9
          generalize o2++ [i]++u3=o3
          generalize X++ [i]++u3=X3
          intro m4 a9
         case' neg=>
          rw [aF c4]
          have aa:u3=[]:=aW (by omega)
          subst aa
          rw [nil_append]at*
          rw [cP]at m4
          rw [cP]at m4
          have ae:2<=v3.length:=ad
          have a9:i0+2<=(o2++ [i]).length:=by simp;omega
          clear m3 c3 a4 ht a0 ad
          revert m4 a9
          generalize o2++ [i]=o3
          generalize X++ [i]=X3
          intro m4 a9
         all_goals
          refine Aq (Ck (J6 m4.eb) ?_)
          have m5:MS (flT lt) p r (o3++ [j]) X3 v3 (Y2++ [j]) v':=MS.appB (u:=[j]) m4 (by intro k M;rw [aS.mp M];exact ak)
          rw [Il]
          rcases eS ((v'.length==0)=true)with c | c7
          . rw [aI c]
            have:v'=[]:=aW (by simpa using c)
            subst this
            exact Az ⟨U,.inl ⟨_,rfl,Nb m5 (.inl ⟨rfl,rfl⟩) m5.zB⟩⟩
          rw [aF c7]
          have ah:1<=v'.length:=fW fun z=>c7 (by simpa using z)
          split
          . exact Az ⟨U,.inr ⟨rfl,_,_,_,_,_,rfl,rfl,rfl,m5,ae,ah,by simp;omega⟩⟩
          . exact Az ⟨U,rfl,_,_,_,_,_,rfl,rfl,rfl,m5,ae,ah,by simp;omega⟩
     . rintro⟨r0,na,nb,G,g,ac,bc⟩ a5 ⟨O,e⟩
       exact⟨O,.inr e⟩
     . rintro⟨r0,na,nb,G,g,ac,bc⟩ a5 ⟨O,⟨r',e,hf⟩ | ⟨e,hl⟩⟩
       . dsimp only at e ⊢
         subst e
         exact Az ⟨O,r',rfl,hf⟩
       . dsimp only at e hl ⊢
         subst e
         dsimp only
         refine Aq (Qe O fun aj U=> ?_)
         exact Az ⟨U,rfl,hl⟩
 . rintro z L ⟨O,e,o,X,x,Y,y,e1,e2,e3,ms,h2,h1,hl⟩
   have a1:=bK length ms.ea
   have a2:=bK length ms.eb
   have a3:=ms.ln
   rw [Eo,fQ]at hl
   simp only [aL]at a1 a2
   omega
 . rintro⟨r',z⟩ L ⟨O,G,e,hf⟩
   dsimp only at e ⊢
   subst e
   exact Az (q _ _ O hf)
end
theorem Uj (i:Nat):mergeAt' i=(do
 let s<-get
 let (some (sa,na,power),some (sb,nb,_)):=((pendingOf s)[i]?,(pendingOf s)[i+1]?) | unsupported "internal:list.sort.pending"
 set (setPending s (((pendingOf s).setIfInBounds i (sa,na+nb,power)).eraseIdxIfInBounds (i+1)))
 let some k<-Hs false (<-elem' (arrOf s) sb) (arrOf s) sa na 0 | return false
 let (sa,na):=(sa+k,na-k)
 if na==0 then return true
 let some nb<-Hs true (<-elem' (arrOf s) (sa+na-1)) (arrOf s) sb nb (nb-1) | return false
 if nb==0 then return true
 let x:=(arrOf s).extract sa sb
 let y:=(arrOf s).extract sb (sb+nb)
 let merged<-if na<=nb then Qm x y else Ql x y
 modify fun s=>setArr s (merged.toList.zipIdx.foldl (fun a (p,j)=>a.setIfInBounds (sa+j) p) (arrOf s))
 return (failedOf (<-get)).isNone):=rfl
variable {pd:Array (Nat × Nat × Nat)}
section
variable {prog:Program}{w:World}{A:Around}{E:Value->Shared->Prop}{κ:SortKind}{it:Array Keyed}{n:Nat}{lt:Nat->Nat->Bool}{I:Shared->Prop}
theorem Zy:∀(z w X R:List Keyed) (s k:Nat),w.length=z.length->s+k=X.length->List.foldl (fun a x=>a.setIfInBounds (s+x.2) x.1) (X++(w++R)).toArray (z.zipIdx k)=(X++(z++R)).toArray
 | [],[],_,_,_,_,_,_=>rfl
 | [],_::_,_,_,_,_,h,_=>by simp at h
 | _::_,[],_,_,_,_,h,_=>by simp at h
 | c::z,d::w,X,R,s,k,h,e=>by
   rw [zipIdx_cons,lA]
   have q:(X++(d::w++R)).toArray.setIfInBounds (s+k) c=((X++ [c])++(w++R)).toArray:=by
    rw [e]
    simp
   dsimp only
   rw [q,Zy z w (X++ [c]) R s (k+1) (by simpa using h) (by simp;omega)]
   simp
theorem Ka {u v:List Nat}:(u++v).Pairwise (LT lt)↔u.Pairwise (LT lt)/\v.Pairwise (LT lt)/\∀i∈u,∀j∈v,lt i j=true:=aX
theorem Af6 {v:List Nat} (h:v≠ []):∃q t,v=q++ [t]:=⟨v.dropLast,v.getLast h,(jG h).symm⟩
theorem Ai2 (X u R:List Nat) {s e:Nat} (q:s=X.length) (G:e=X.length+u.length):(im it (X++(u++R))).extract s e=im it u:=by
 subst q G
 exact Vr X u R
structure SI (κ:SortKind) (it:Array Keyed) (p:List Nat) (pd:Array (Nat × Nat × Nat)) (st:SortSt):Prop where
 kd:kindOf st=κ
 fa:failedOf st=none
 ar:arrOf st=im it p
 pe:pendingOf st=pd
theorem SI.sg {p:List Nat}{G:Array (Nat × Nat × Nat)}{st q:SortSt} (h:SI κ it p G st) (s:SgS st q):SI κ it p G q:=by
 obtain⟨g,rfl⟩:=s
 exact⟨h.kd,h.fa,h.ar,h.pe⟩
theorem Xb (hc:HC prog w A I κ it n lt) {X a b Y:List Nat}{i pa pb:Nat}{st:SortSt}{Q:Bool->SortSt->Prop} (hs:SI κ it (X++(a++(b++Y))) pd st)
 (h1:pd[i]? =some (X.length,a.length,pa)) (h2:pd[i+1]? =some (X.length+a.length,b.length,pb)) (ha:a≠ []) (hb:b≠ []) (sa:a.Pairwise (LT lt)) (sb:b.Pairwise (LT lt))
 (ba:∀i∈a,i<n) (bb:∀i∈b,i<n) (ne:∀i∈a,∀j∈b,i≠j)
 (q:∀z J,z.Perm (a++b)->z.Pairwise (LT lt)->SI κ it (X++(z++Y)) ((pd.setIfInBounds i (X.length,a.length+b.length,pa)).eraseIdxIfInBounds (i+1)) J->Q true J):CW prog w A E I (mergeAt' i) Q st:=by
 rw [Uj]
 dsimp only
 refine Aq (J5 ?_)
 rw [hs.pe,h1,h2]
 dsimp only
 obtain⟨j,y,eb⟩:=Adm (show 1<=b.length from eA.mpr hb)
 have jn:=bb j (by rw [eb];exact .head _)
 refine Aq (Aio ?_)
 have G:kindOf (setPending st ((pd.setIfInBounds i (X.length,a.length+b.length,pa)).eraseIdxIfInBounds (i+1)))=κ:=hs.kd
 have s0:SI κ it (X++(a++(b++Y))) ((pd.setIfInBounds i (X.length,a.length+b.length,pa)).eraseIdxIfInBounds (i+1)) (setPending st ((pd.setIfInBounds i (X.length,a.length+b.length,pa)).eraseIdxIfInBounds (i+1))):=⟨hs.kd,hs.fa,hs.ar,rfl⟩
 generalize (pd.setIfInBounds i (X.length,a.length+b.length,pa)).eraseIdxIfInBounds (i+1)=ab at*
 generalize af:setPending st ab=a3 at*
 rw [hs.ar]
 have eX:X.length+a.length=(X++a).length:=by simp
 refine Aq (Ck (x:=kas_item it j) (by rw [eX,eb];have:=Mh (it:=it) (X++a) (y++Y) j;simpa using this) ?_)
 refine Aq (O4 hc G (S:=a) (Y:=b++Y) rfl rfl (eA.mpr ha) jn (fun k G=>⟨ba k G,ne k G j (by rw [eb];exact .head _)⟩) sa fun u v M hu hv=> ?_)
 dsimp only
 have jb:∀k∈b,k=j\/lt j k=true:=fun k G=>by
  rw [eb]at G sb
  rcases aQ.mp G with e | e
  . exact .inl e
  . exact .inr ((cQ.mp sb).1 k e)
 have ub:∀k∈u,∀O∈b,lt k O=true:=fun k G O L=>by
  rcases jb O L with rfl | e
  . exact hu k G
  . exact hc.lo.trans _ _ _ (ba k (by rw [M];exact bD _ G)) jn (bb O L) (hu k G) e
 have a4:=sa
 rw [M]at a4
 obtain⟨su,sv,ac⟩:=Ka.mp a4
 by_cases v0:v=[]
 . rw [aI (by rw [M,v0];simp)]
   subst v0
   rw [cP]at M
   refine Az (q (a++b) _ (jS _) (Ka.mpr ⟨sa,sb,by rw [M];exact ub⟩) ?_)
   rw [cK]
   exact s0
 rw [aF (by rw [M];simp [v0])]
 obtain⟨v',t,ev⟩:=Af6 v0
 have ta:t∈a:=by rw [M,ev];simp
 have a1:∀k∈a,k=t\/lt k t=true:=fun k G=>by
  have e3:a=(u++v')++ [t]:=by rw [M,ev];simp
  rw [e3]at G sa
  rcases bG.mp G with e | e
  . exact .inr ((Ka.mp sa).2.2 k e t (.head _))
  . exact .inl (aS.mp e)
 refine Aq (Ck (x:=kas_item it t) ?_ ?_)
 . have e4:X++(a++(b++Y))=(X++(u++v'))++t::(b++Y):=by rw [M,ev];simp
   have e5:X.length+u.length+(a.length-u.length)-1=(X++(u++v')).length:=by
    rw [M,ev]
    simp only [aL,dJ]
    omega
   rw [e4,e5]
   exact Mh _ _ _
 have e6:X++(a++(b++Y))=(X++a)++(b++Y):=by simp
 rw [eX]
 refine Aq (O4 hc G (X:=X++a) (S:=b) (Y:=Y) e6 rfl (by have:=eA.mpr hb;omega) (ba t ta) (fun k G=>⟨bb k G,(ne t ta k G).symm⟩) sb fun b1 b2 U a5 a6=> ?_)
 dsimp only
 by_cases b0:b1=[]
 . rw [aI (by rw [b0];rfl)]
   subst b0
   refine Az (q (a++b) _ (jS _) (Ka.mpr ⟨sa,sb,fun k G O L=> ?_⟩) ?_)
   . have:=a6 O (by rw [U]at L;simpa using L)
     rcases a1 k G with rfl | e
     . exact this
     . exact hc.lo.trans _ _ _ (ba k G) (ba t ta) (bb O L) e this
   . rw [cK]
     exact s0
 rw [aF (by simp [b0])]
 have a7:=sb
 rw [U]at a7
 obtain⟨a8,ad,a9⟩:=Ka.mp a7
 have hd:∀j' y',b1=j'::y'->j'=j:=fun j' y' e=>by
  rw [e,eb]at U
  exact(kF U).1.symm
 have tl:∀X' i',v=X'++ [i']->i'=t:=fun X' i' e=>by
  rw [ev]at e
  have:=bK List.getLast? e
  simpa using this.symm
 have Z:∀k∈v,k∈a:=fun k G=>by rw [M];exact bI _ G
 have a0:∀k∈b1,k∈b:=fun k G=>by rw [U];exact bD _ G
 have x1:(im it (X++(a++(b++Y)))).extract (X.length+u.length) (X++a).length=im it v:=by
  rw [show X++(a++(b++Y))=(X++u)++(v++(b++Y))by rw [M];simp]
  exact Ai2 _ _ _ (by simp) (by rw [M];simp;omega)
 have x2:(im it (X++(a++(b++Y)))).extract (X++a).length ((X++a).length+b1.length)=im it b1:=by
  rw [show X++(a++(b++Y))=(X++a)++(b1++(b2++Y))by rw [U];simp]
  exact Vr _ _ _
 rw [x1,x2]
 have aa:∀(z:List Nat) (J:SortSt),SgS a3 J->z.Perm (v++b1)->z.Pairwise (LT lt)->CW prog w A E I (do
  modify fun s=>setArr s ((im it z).toList.zipIdx.foldl (fun a x=>a.setIfInBounds (X.length+u.length+x.snd) x.fst) (arrOf s))
  let s<-get
  pure (failedOf s).isNone) Q J:=fun z J W hp hz=>by
  refine Aq (Gx (Aq (J5 (Az ?_))))
  have s2:=s0.sg W
  have ae:failedOf (setArr J ((im it z).toList.zipIdx.foldl (fun a x=>a.setIfInBounds (X.length+u.length+x.snd) x.fst) (arrOf J)))=none:=s2.fa
  rw [ae]
  refine q (u++(z++b2)) _ ?_ ?_ ⟨s2.kd,s2.fa,?_,s2.pe⟩
  . rw [M,U,cK]
    refine eO _ ?_
    rw [<-cK]
    exact iJ _ hp
  . have zm:∀k∈z,k∈v\/k∈b1:=fun k G=>bG.mp (hp.mem_iff.mp G)
    refine Ka.mpr ⟨su,Ka.mpr ⟨hz,ad,fun k G O L=> ?_⟩,fun k G O L=> ?_⟩
    . rcases zm k G with e | e
      . have l:=a6 O L
        rcases a1 k (Z k e)with rfl | e2
        . exact l
        . exact hc.lo.trans _ _ _ (ba k (Z k e)) (ba t ta) (bb O (by rw [U];exact bI _ L)) e2 l
      . exact a9 k e O L
    . rcases bG.mp L with e | e
      . rcases zm O e with e | e
        . exact ac k G O e
        . exact ub k G O (a0 O e)
      . exact ub k G O (by rw [U];exact bI _ e)
  . show(im it z).toList.zipIdx.foldl (fun a x=>a.setIfInBounds (X.length+u.length+x.snd) x.fst) (arrOf J)=_
    rw [s2.ar,show X++(a++(b++Y))=(X++u)++((v++b1)++(b2++Y))by rw [M,U];simp,show X++(u++(z++b2)++Y)=(X++u)++(z++(b2++Y))by simp]
    have:=Zy (z.map (kas_item it)) ((v++b1).map (kas_item it)) ((X++u).map (kas_item it)) ((b2++Y).map (kas_item it)) (X.length+u.length) 0 (by rw [aB,aB];exact hp.length_eq.symm) (by simp)
    simpa [im]using this
 have jv:∀k∈v,lt j k=true:=hv
 split
 . refine Aq (Xd hc G ⟨hc.lo,sv,a8,fun k G=>ba k (Z k G),fun k G=>bb k (a0 k G),fun k G O L=>ne k (Z k G) O (a0 O L),fun k G j' y' e=>by rw [hd j' y' e];exact jv k G,fun k G X' i' e=>by rw [tl X' i' e];exact a5 k G⟩ v0 b0 fun r J W hf=> ?_)
   obtain⟨z,rfl,hp,hz⟩:=hf
   exact aa z J W hp hz
 . have LF:LO n (flT lt):=⟨fun i j hi hj hn=>hc.lo.tri j i hj hi (cS hn),fun i j k hi hj G h1 h2=>hc.lo.trans k j i G hj hi h2 h1⟩
   have:=Xc (E:=E) (Q:=fun a2 J=>∃z:List Nat,SgS a3 J/\a2=im it z/\z.Perm (v++b1)/\z.Pairwise (LT lt)) hc G (p:=b1.reverse) (r:=v.reverse) ⟨LF,gC.mpr a8,gC.mpr sv,fun k G=>bb k (a0 k (cW.mp G)),fun k G=>ba k (Z k (cW.mp G)),
    fun k G O L=>(ne O (Z O (cW.mp L)) k (a0 k (cW.mp G))).symm,fun k G j' y' e=>by
     have e2:=bK reverse e
     rw [jC,reverse_cons]at e2
     rw [tl _ _ e2]
     exact a5 k (cW.mp G),fun k G X' i' e=>by
     have e2:=bK reverse e
     rw [jC,List.reverse_append]at e2
     rw [hd _ _ e2]
     exact jv k (cW.mp G)⟩ (by simp [b0]) (by simp [v0]) fun a2 J W hf=>by
      obtain⟨z,e,hp,hz⟩:=hf
      refine⟨z.reverse,W,e,?_,gC.mpr hz⟩
      refine(kA z).trans (hp.trans ?_)
      exact(Perm.append (kA _) (kA _)).trans iO
   rw [jC,jC]at this
   refine Aq (Cz this fun a2 J hh=> ?_)
   obtain⟨z,W,rfl,hp,hz⟩:=hh
   exact aa z J W hp hz
end
section
variable {prog:Program}{w:World}{A:Around}{E:Value->Shared->Prop}{κ:SortKind}{it:Array Keyed}{n:Nat}{lt:Nat->Nat->Bool}{I:Shared->Prop}
theorem Ln (X Z:List Nat)  (h:i<Z.length):(im it (X++Z))[X.length+i]? =some (kas_item it (Z.getD i 0)):=by
 simp [im,h]
theorem Cr {Z:List Nat} (h:i<Z.length):Z.getD i 0∈Z:=by simp [h]
theorem Rx {Z:List Nat} (G:Z.Nodup)  (hi:i<Z.length) (q:j<Z.length) (h:i≠j):Z.getD i 0≠Z.getD j 0:=by
 have pw:=bV.mp G
 have J:Z.getD i 0=Z[i]:=by simp [hi]
 have L:Z.getD j 0=Z[j]:=by simp [q]
 rw [J,L]
 rcases hX h with l | l
 . exact pw i j hi q l
 . exact(pw j i q hi l).symm
theorem Ks (U:HC prog w A I κ it n lt) {X Z:List Nat}{W:Array (Nat × Nat × Nat)}{st:SortSt} (M:SI κ it (X++Z) W st) (O:∀i∈Z,i<n) (nd:Z.Nodup) {a b:Nat}{Q:Option Bool->SortSt->Prop} (hi:i=X.length+a) (hj:j=X.length+b)
 (G:a<Z.length) (J:b<Z.length) (L:a≠b) (q:Q (some (lt (Z.getD a 0) (Z.getD b 0))) st):CW prog w A E I (ltAt' i j) Q st:=by
 rw [ltAt'_eq]
 refine Aq (J5 ?_)
 dsimp only
 rw [M.ar]
 subst hi hj
 exact Aq (Ck (Ln X Z G) (Aq (Ck (Ln X Z J) (Zf U M.kd (O _ (Cr G)) (O _ (Cr J)) (Rx nd G J L) q))))
noncomputable def Asc (lt:Nat->Nat->Bool) (Z:List Nat) (m:Nat):Prop:=∀i j,i<j->j<m->lt (Z.getD i 0) (Z.getD j 0)=true
noncomputable def Dsc (lt:Nat->Nat->Bool) (Z:List Nat) (m:Nat):Prop:=∀i j,i<j->j<m->lt (Z.getD j 0) (Z.getD i 0)=true
theorem Asc.next (L:LO n lt) {Z:List Nat} (q:∀i∈Z,i<n) (h1:1<=m) (M:m<Z.length) (h:Asc lt Z m) (l:lt (Z.getD (m-1) 0) (Z.getD m 0)=true):Asc lt Z (m+1):=fun i j G O=>by
 by_cases e:j=m
 . subst e
   by_cases J:i=j-1
   . rw [J]
     exact l
   . exact L.trans _ _ _ (q _ (Cr (by omega))) (q _ (Cr (by omega))) (q _ (Cr (by omega))) (h i (j-1) (by omega) (by omega)) l
 . exact h i j G (by omega)
theorem Dsc.next (L:LO n lt) {Z:List Nat} (q:∀i∈Z,i<n) (h1:1<=m) (M:m<Z.length) (h:Dsc lt Z m) (l:lt (Z.getD m 0) (Z.getD (m-1) 0)=true):Dsc lt Z (m+1):=fun i j G O=>by
 by_cases e:j=m
 . subst e
   by_cases J:i=j-1
   . rw [J]
     exact l
   . exact L.trans _ _ _ (q _ (Cr (by omega))) (q _ (Cr (by omega))) (q _ (Cr (by omega))) l (h i (j-1) (by omega) (by omega))
 . exact h i j G (by omega)
theorem Asc.pw {Z:List Nat} (M:m<=Z.length) (h:Asc lt Z m):(Z.take m).Pairwise (LT lt):=by
 refine bV.mpr fun i j hi G q=> ?_
 rw [bT]at hi G
 have:=h i j q (by omega)
 have J:Z.getD i 0=Z[i]'(by omega):=by simp [show i<Z.length by omega]
 have L:Z.getD j 0=Z[j]'(by omega):=by simp [show j<Z.length by omega]
 rw [J,L]at this
 rw [iI,iI]
 exact this
theorem Asc.of {Z:List Nat} (L:m<=Z.length) (h:(Z.take m).Pairwise (LT lt)):Asc lt Z m:=fun i j q M=>by
 have:=bV.mp h i j (by rw [bT];omega) (by rw [bT];omega) q
 rw [iI,iI]at this
 have G:Z.getD i 0=Z[i]'(by omega):=by simp [show i<Z.length by omega]
 have J:Z.getD j 0=Z[j]'(by omega):=by simp [show j<Z.length by omega]
 rw [G,J]
 exact this
theorem Aao (X u v:List Nat):mirror (im it (X++(u++v))) X.length (X.length+u.length) ((X.length+u.length-X.length)/2)=im it (X++(u.reverse++v)):=by
 apply Array.ext_getElem?
 intro k
 rw [getElem?_mirror_all (by simp [im])]
 split
 . rename_i h
   have e:k=X.length+(k-X.length):=by omega
   generalize k-X.length=d at e
   subst e
   rw [show X.length+(X.length+u.length)-1-(X.length+d)=X.length+(u.length-1-d)by omega,Ln X (u++v) (by simp;omega),Ln X (u.reverse++v) (by simp;omega)]
   have G:d<u.length:=by omega
   have q:u.length-1-d<u.length:=by omega
   simp [dS,G,q]
 . rename_i h
   rcases lt_or_ge k X.length with l | l
   . simp [im,dS,l]
   . have:u.length<=k-X.length:=by omega
     have h2:¬k-X.length<u.length:=by omega
     simp [im,dS,Nat.not_lt.mpr l,h2]
theorem Ain {X u v:List Nat}{L:Array (Nat × Nat × Nat)}{st:SortSt} (J:SI κ it (X++(u++v)) L st) {Q:Unit->SortSt->Prop} (hi:i=X.length) (M:j=X.length+u.length) (q:∀G,SI κ it (X++(u.reverse++v)) L G->Q () G):CW prog w A E I (reverseSlice' i j) Q st:=by
 subst hi M
 rw [reverseSlice'_eq]
 refine Gx (q _ ⟨J.kd,J.fa,?_,J.pe⟩)
 show mirror (arrOf st) _ _ _=_
 rw [J.ar,Aao]
theorem T8 (U:HC prog w A I κ it n lt) {X Z:List Nat}{st:SortSt}{lo G:Nat}{Q:Option Nat->SortSt->Prop} (hs:SI κ it (X++Z) pd st) (W:∀i∈Z,i<n) (nd:Z.Nodup) (a6:lo=X.length) (hm:G=Z.length) (h0:1<=G)
 (q:∀m Z' L,Z'.Perm Z->1<=m->m<=G->Asc lt Z' m->SI κ it (X++Z') pd L->Q (some m) L):CW prog w A E I (countRun' lo G) Q st:=by
 rw [countRun'_eq]
 dsimp only
 refine Aq (Cz (Cv (J:=fun i z L=>L=st/\z=(none,1+i)/\Asc lt Z (1+i)) (Q:=fun z L=>L=st/\∃m,z=(none,m)/\1<=m/\m<=G/\Asc lt Z m/\(m<G->lt (Z.getD m 0) (Z.getD (m-1) 0)=true)) ?_ ?_ ⟨rfl,rfl,fun i j a2 hj=>by omega⟩) ?_)
 . rintro i z L hi ⟨rfl,rfl,M⟩
   dsimp only
   refine Aq (Ks U hs W nd (a:=1+i) (b:=i) (by omega) (by omega) (by omega) (by omega) (by omega) ?_)
   dsimp only
   split
   . rename_i l
     exact Az ⟨rfl,1+i,rfl,by omega,by omega,M,fun _=>by rw [show 1+i-1=i by omega];exact l⟩
   . rename_i l
     refine Az ⟨rfl,by rw [fB],?_⟩
     rw [<-fB]
     refine Asc.next U.lo W (by omega) (by omega) M ?_
     rw [show 1+i-1=i by omega]
     exact U.lo.not (W _ (Cr (by omega))) (W _ (Cr (by omega))) (Rx nd (by omega) (by omega) (by omega)) (by simpa using l)
 . rintro z L ⟨rfl,rfl,M⟩
   exact⟨rfl,1+(G-1),rfl,by omega,by omega,M,fun h=>by omega⟩
 . rintro z L ⟨rfl,m,rfl,m1,m2,M,hl⟩
   dsimp only
   by_cases e:m=G
   . rw [aI (by simp [e])]
     exact Az (q m Z L (jS _) m1 m2 M hs)
   rw [aF (by simp [e])]
   have hl:=hl (by omega)
   by_cases e1:m>1
   . rw [aI e1]
     refine Aq (Ks U hs W nd (a:=0) (b:=m-1) (by omega) (by omega) (by omega) (by omega) (by omega) ?_)
     dsimp only
     rw [aI (M 0 (m-1) (by omega) (by omega))]
     exact Az (q m Z L (jS _) m1 m2 M hs)
   rw [aF e1]
   have em:m=1:=by omega
   subst em
   refine Aq (Ku ?_)
   refine Aq (Cz (Cv (J:=fun i z O=>O=L/\z=(none,2+i,0)/\Dsc lt Z (2+i)) (Q:=fun z O=>O=L/\∃m,z=(none,m,0)/\2<=m/\m<=G/\Dsc lt Z m) ?_ ?_ ⟨rfl,rfl,fun i j a2 hj=> ?_⟩) ?_)
   . rintro i z O hi ⟨rfl,rfl,hd⟩
     dsimp only
     refine Aq (Ks U hs W nd (a:=2+i) (b:=1+i) (by omega) (by omega) (by omega) (by omega) (by omega) ?_)
     dsimp only
     split
     . rename_i l
       rw [aF (by omega)]
       refine Az ⟨rfl,by rw [fB],?_⟩
       rw [<-fB]
       refine Dsc.next U.lo W (by omega) (by omega) hd ?_
       rw [show 2+i-1=1+i by omega]
       exact l
     . rename_i l
       refine Aq (Ks U hs W nd (a:=1+i) (b:=2+i) (by omega) (by omega) (by omega) (by omega) (by omega) ?_)
       dsimp only
       rw [aI (U.lo.not (W _ (Cr (by omega))) (W _ (Cr (by omega))) (Rx nd (by omega) (by omega) (by omega)) (by simpa using l))]
       exact Az ⟨rfl,2+i,rfl,by omega,by omega,hd⟩
   . rintro z O ⟨rfl,rfl,hd⟩
     exact⟨rfl,2+(G-(1+1)),rfl,by omega,by omega,hd⟩
   . have e1:i=0:=by omega
     have e2:j=1:=by omega
     subst e1 e2
     exact hl
   . rintro z O ⟨rfl,k,rfl,k1,k2,hd⟩
     dsimp only
     rw [aF (by omega)]
     have a7:SI κ it (X++(Z.take k++Z.drop k)) pd O:=by rw [dH];exact hs
     have lk:(Z.take k).length=k:=by rw [bT];omega
     refine Aq (Ain a7 a6 (by omega) fun a3 a4=> ?_)
     have pm:((Z.take k).reverse++Z.drop k).Perm Z:=by
      have:=iJ (Z.drop k) (kA (Z.take k))
      rwa [dH]at this
     have a8:Asc lt ((Z.take k).reverse++Z.drop k) k:=fun i j a2 hj=>by
      have g:∀i,i<k->((Z.take k).reverse++Z.drop k).getD i 0=Z.getD (k-1-i) 0:=fun i hi=>by
       have h1:i<(Z.take k).reverse.length:=by simp;omega
       have h2:k-1-i<Z.length:=by omega
       have h3:k-1-i<k:=by omega
       have h4:min k Z.length=k:=by omega
       simp [aP,dS,h1,List.getElem?_reverse,h2,h3,h4,hi,List.getElem?_take]
      rw [g i (by omega),g j hj]
      exact hd _ _ (by omega) (by omega)
     have ln:=pm.length_eq
     have a0:∀i∈(Z.take k).reverse++Z.drop k,i<n:=fun i hi=>W i (pm.mem_iff.mp hi)
     have a5:=pm.nodup_iff.mpr nd
     generalize (Z.take k).reverse++Z.drop k=Z' at*
     refine Aq (Cz (Cv (J:=fun i z L=>L=a3/\z=(none,k+i)/\Asc lt Z' (k+i)) (Q:=fun z L=>L=a3/\∃m,z=(none,m)/\1<=m/\m<=G/\Asc lt Z' m) ?_ ?_ ⟨rfl,rfl,a8⟩) ?_)
     . rintro i z a1 hi ⟨rfl,rfl,M⟩
       dsimp only
       refine Aq (Ks U a4 a0 a5 (a:=k+i) (b:=k+i-1) (by omega) (by omega) (by omega) (by omega) (by omega) ?_)
       dsimp only
       split
       . rename_i l
         exact Az ⟨rfl,k+i,rfl,by omega,by omega,M⟩
       . rename_i l
         refine Az ⟨rfl,by rw [fB],?_⟩
         rw [<-fB]
         refine Asc.next U.lo a0 (by omega) (by omega) M ?_
         exact U.lo.not (a0 _ (Cr (by omega))) (a0 _ (Cr (by omega))) (Rx a5 (by omega) (by omega) (by omega)) (by simpa using l)
     . rintro z a1 ⟨rfl,rfl,M⟩
       exact⟨rfl,k+(G-k),rfl,by omega,by omega,M⟩
     . rintro z a1 ⟨rfl,m,rfl,m1,m2,M⟩
       dsimp only
       exact Az (q m Z' a1 pm m1 m2 M a4)
theorem Yy (X u v R:List Nat) (c:Nat):bubble (im it (X++(u++(v++c::R)))) (X.length+(u.length+v.length)) (X.length+(u.length+v.length)-(X.length+u.length))=im it (X++(u++(c::v++R))):=by
 apply Array.ext_getElem?
 intro k
 rw [getElem?_bubble (by simp [im]) _ (by omega),show X.length+(u.length+v.length)-(X.length+(u.length+v.length)-(X.length+u.length))=X.length+u.length by omega]
 have q:im it (X++(u++(v++c::R)))=im it ((X++u)++(v++c::R)):=by rw [cK]
 have G:im it (X++(u++(c::v++R)))=im it ((X++u)++(c::v++R)):=by rw [cK]
 have J:X.length+u.length=(X++u).length:=by simp
 rw [q,G,<-fB,J]
 generalize X++u=Y
 split
 . rename_i h
   subst h
   have h1:=Ln (it:=it) Y (v++c::R) (i:=v.length) (by simp)
   have h2:=Ln (it:=it) Y (c::v++R) (i:=0) (by simp)
   rw [Nat.add_zero]at h2
   rw [h1,h2]
   simp
 . rename_i h
   split
   . rename_i h2
     obtain⟨d,rfl⟩:∃d,k=Y.length+(d+1):=⟨k-Y.length-1,by omega⟩
     rw [show Y.length+(d+1)-1=Y.length+d by omega,Ln Y (v++c::R) (by simp;omega),Ln Y (c::v++R) (by simp;omega)]
     have L:d<v.length:=by omega
     simp [dS,L]
   . rename_i h2
     rcases lt_or_ge k Y.length with l | l
     . simp [im,dS,l]
     . obtain⟨d,rfl⟩:∃d,k=Y.length+(v.length+1+d):=⟨k-Y.length-v.length-1,by omega⟩
       have M:¬v.length+1+d<v.length:=by omega
       have O:v.length+1+d-v.length=d+1:=by omega
       have U:v.length+1+d=(v.length+d)+1:=by omega
       simp [im,dS,M,O]
       rw [U]
       simp [dS]
       rw [aF (by omega),aF (by omega),aF (by omega)]
theorem Qd (hc:HC prog w A I κ it n lt) {X:List Nat}{pd:Array (Nat × Nat × Nat)}{lo ok:Nat}{Q:Bool->SortSt->Prop} (a7:lo=X.length) (h1:1<=ok) {Z0:List Nat}{st:SortSt} (hm:m<=Z0.length) (a8:ok<=m)
 (O:SI κ it (X++Z0) pd st) (hn:∀i∈Z0,i<n) (nd:Z0.Nodup) (U:Asc lt Z0 ok)
 (q:∀Z G,Z.Perm Z0->Asc lt Z m->SI κ it (X++Z) pd G->Q true G):CW prog w A E I (binarySort' lo m ok) Q st:=by
 rw [binarySort'_eq]
 dsimp only
 have e1:max ok 1=ok:=by omega
 rw [e1]
 refine Aq (Cz (Cv (J:=fun i z G=>z=(none,())/\∃Z,Z.Perm Z0/\Asc lt Z (ok+i)/\SI κ it (X++Z) pd G) (Q:=fun z G=>z=(none,())/\∃Z,Z.Perm Z0/\Asc lt Z m/\SI κ it (X++Z) pd G) ?_ ?_ ⟨rfl,Z0,jS _,U,O⟩) ?_)
 . rintro i z G hi ⟨rfl,Z,pm,U,O⟩
   have L:∀i∈Z,i<n:=fun i hi=>hn i (pm.mem_iff.mp hi)
   have a0:=pm.nodup_iff.mpr nd
   have ln:=pm.length_eq
   generalize hk:ok+i=k at*
   have kZ:k<Z.length:=by omega
   refine Aq (Cz (Cv (J:=fun i z M=>M=G/\∃l r,z=(none,l,r)/\l<=r/\r<=k/\r-l<=k-i/\(∀i,i<l->lt (Z.getD i 0) (Z.getD k 0)=true)/\(∀i,r<=i->i<k->lt (Z.getD k 0) (Z.getD i 0)=true))
    (Q:=fun z M=>M=G/\∃l r,z=(none,l,r)/\l<=k/\(∀i,i<l->lt (Z.getD i 0) (Z.getD k 0)=true)/\(∀i,l<=i->i<k->lt (Z.getD k 0) (Z.getD i 0)=true)) ?_ ?_ ⟨rfl,0,k,rfl,by omega,by omega,by omega,fun i hi=>by omega,fun i h1 h2=>by omega⟩) ?_)
   . rintro i z M a9 ⟨rfl,l,r,rfl,a1,a2,a3,a4,a5⟩
     dsimp only
     by_cases e:l>=r
     . rw [aI e]
       have:l=r:=by omega
       subst this
       exact Az ⟨rfl,l,l,rfl,a2,a4,a5⟩
     rw [aF e]
     generalize aa:(l+r)/2=W
     have b1:l<=W:=by omega
     have b2:W<r:=by omega
     refine Aq (Ks hc O L a0 (a:=k) (b:=W) (by omega) (by omega) kZ (by omega) (by omega) ?_)
     dsimp only
     have T:=hc.lo.trans
     split
     . rename_i g
       refine Az ⟨rfl,l,W,rfl,b1,by omega,by omega,a4,fun i h1 h2=> ?_⟩
       by_cases e2:i=W
       . rw [e2]
         exact g
       . exact T _ _ _ (L _ (Cr kZ)) (L _ (Cr (by omega))) (L _ (Cr (by omega))) g (U W i (by omega) h2)
     . rename_i g
       have g':=hc.lo.not (L _ (Cr kZ)) (L _ (Cr (by omega:W<Z.length))) (Rx a0 kZ (by omega) (by omega)) (by simpa using g)
       refine Az ⟨rfl,W+1,r,rfl,by omega,a2,by omega,fun i hi=> ?_,a5⟩
       by_cases e2:i=W
       . rw [e2]
         exact g'
       . exact T _ _ _ (L _ (Cr (by omega))) (L _ (Cr (by omega))) (L _ (Cr kZ)) (U i W (by omega) (by omega)) g'
   . rintro z M ⟨rfl,l,r,rfl,a1,a2,a3,a4,a5⟩
     have:l=r:=by omega
     subst this
     exact⟨rfl,l,l,rfl,a2,a4,a5⟩
   . rintro z M ⟨rfl,l,r,rfl,lk,a4,a5⟩
     dsimp only
     have eZ:Z=Z.take l++((Z.take k).drop l++Z.getD k 0::Z.drop (k+1)):=by
      have e2:Z.getD k 0::Z.drop (k+1)=Z.drop k:=by
       rw [gU kZ]
       simp [kZ]
      have e3:Z.take l=(Z.take k).take l:=by rw [List.take_take,jF lk]
      rw [e2,<-cK,e3,dH,dH]
     have lu:(Z.take l).length=l:=by rw [bT];omega
     have lv:((Z.take k).drop l).length=k-l:=by rw [iT,bT];omega
     have st:=(Asc.pw (by omega) U)
     have hu:∀i∈Z.take l,lt i (Z.getD k 0)=true:=fun i hi=>by
      obtain⟨j,hj,rfl⟩:=List.mem_take_iff_getElem.mp hi
      have a6:j<l/\j<Z.length:=by omega
      have:=a4 j a6.1
      have e2:Z.getD j 0=Z[j]:=by simp [a6.2]
      rwa [e2]at this
     have hv:∀i∈(Z.take k).drop l,lt (Z.getD k 0) i=true:=fun i hi=>by
      obtain⟨j,hj,rfl⟩:=List.mem_drop_iff_getElem.mp hi
      rw [bT]at hj
      have:=a5 (l+j) (by omega) (by omega)
      have e2:Z.getD (l+j) 0=Z[l+j]'(by omega):=by simp [show l+j<Z.length by omega]
      rw [e2]at this
      rw [iI]
      exact this
     have ek:Z.take k=Z.take l++(Z.take k).drop l:=by
      have e3:Z.take l=(Z.take k).take l:=by rw [List.take_take,jF lk]
      rw [e3,dH]
     rw [ek]at st
     obtain⟨s1,s2,s3⟩:=Ka.mp st
     generalize ab:Z.getD k 0=c at*
     generalize Z.take l=u at*
     generalize (Z.take k).drop l=v at*
     generalize Z.drop (k+1)=R at*
     refine Aq (m:=moveDown' (lo+k) (lo+l)) ?_
     have ml:moveDown' (lo+k) (lo+l)=modify fun s=>setArr s (bubble (arrOf s) (lo+k) ((lo+k)-(lo+l))):=moveDown'_eq _ _
     rw [ml]
     refine Gx (Az ⟨rfl,u++(c::v++R),?_,?_,?_⟩)
     . refine Perm.trans ?_ pm
       rw [eZ]
       refine eO _ ?_
       rw [cons_append]
       exact List.perm_middle.symm
     . refine Asc.of (by simp;omega) ?_
       have e5:(u++(c::v++R)).take (ok+(i+1))=u++c::v:=by
        rw [show ok+(i+1)=(u++c::v).length by simp;omega,show u++(c::v++R)=(u++c::v)++R by simp,List.take_left]
       rw [e5]
       refine Ka.mpr ⟨s1,cQ.mpr ⟨hv,s2⟩,fun i hi j hj=> ?_⟩
       rcases aQ.mp hj with rfl | e
       . exact hu i hi
       . exact s3 i hi j e
     . refine⟨O.kd,O.fa,?_,O.pe⟩
       show bubble (arrOf M) _ _=_
       rw [O.ar,eZ,a7]
       have e6:k=u.length+v.length:=by omega
       have:=Yy (it:=it) X u v R c
       rw [<-e6,lu]at this
       exact this
 . rintro z G ⟨rfl,Z,pm,U,O⟩
   exact⟨rfl,Z,pm,by rw [show ok+(m-ok)=m by omega]at U;exact U,O⟩
 . rintro z G ⟨rfl,Z,pm,U,O⟩
   dsimp only
   exact Az (q Z G pm U O)
end
section
variable {prog:Program}{w:World}{A:Around}{E:Value->Shared->Prop}{κ:SortKind}{it:Array Keyed}{n:Nat}{lt:Nat->Nat->Bool}{I:Shared->Prop}
noncomputable def PR (lt:Nat->Nat->Bool):Nat->List (List Nat)->List (Nat × Nat × Nat)->Prop
 | _,[],[]=>True
 | s,r::rs,x::q=>(x.1=s/\x.2.1=r.length/\r≠ []/\r.Pairwise (LT lt))/\PR lt (s+r.length) rs q
 | _,[],_::_=>False
 | _,_::_,[]=>False
theorem PR.len:∀ {G:List (List Nat)}{q:List (Nat × Nat × Nat)}{s:Nat},PR lt s G q->G.length=q.length
 | [],[],_,_=>rfl
 | _::_,_::_,_,h=>by rw [bU,bU,PR.len h.2]
 | [],_::_,_,h=>h.elim
 | _::_,[],_,h=>h.elim
theorem PR.few:∀ {G:List (List Nat)}{q:List (Nat × Nat × Nat)}{s:Nat},PR lt s G q->G.length<=G.flatten.length
 | [],[],_,_=>aH _
 | r::G,_::_,_,h=>by
   have:=PR.few h.2
   have:=eA.mpr h.1.2.2.1
   simp only [bU,List.flatten_cons,aL]
   omega
 | [],_::_,_,h=>h.elim
 | _::_,[],_,h=>h.elim
theorem PR.app:∀ {J G:List (List Nat)}{q L:List (Nat × Nat × Nat)}{s:Nat},PR lt s J q->PR lt (s+J.flatten.length) G L->PR lt s (J++G) (q++L)
 | [],_,[],_,_,_,h=>h
 | r::J,G,x::q,L,s,h,h2=>⟨h.1,PR.app h.2 (by rw [List.flatten_cons,aL,<-fB]at h2;exact h2)⟩
 | [],_,_::_,_,_,h,_=>h.elim
 | _::_,_,[],_,_,h,_=>h.elim
theorem PR.same:∀ {G:List (List Nat)}{q J:List (Nat × Nat × Nat)}{s:Nat},PR lt s G q->J.map (fun x=>(x.1,x.2.1))=q.map (fun x=>(x.1,x.2.1))->PR lt s G J
 | [],[],[],_,_,_=>trivial
 | [],[],_::_,_,_,e=>by simp at e
 | _::_,_::_,[],_,_,e=>by simp at e
 | r::G,x::q,x'::J,s,h,e=>by
   simp only [aU,List.cons.injEq,iX]at e
   exact⟨⟨by rw [e.1.1];exact h.1.1,by rw [e.1.2];exact h.1.2.1,h.1.2.2⟩,PR.same h.2 e.2⟩
 | [],_::_,_,_,h,_=>h.elim
 | _::_,[],_,_,h,_=>h.elim
theorem PR.split:∀ {i:Nat}{W:List (List Nat)}{q:List (Nat × Nat × Nat)}{s:Nat},PR lt s W q->i+1<q.length->∃J a b G M Z pb L,W=J++a::b::G/\q=M++(s+J.flatten.length,a.length,Z)::(s+J.flatten.length+a.length,b.length,pb)::L/\M.length=i/\PR lt s J M/\
 a≠ []/\a.Pairwise (LT lt)/\b≠ []/\b.Pairwise (LT lt)/\PR lt (s+J.flatten.length+a.length+b.length) G L
 | 0,a::b::G,(s1,l1,p1)::(s2,l2,p2)::L,s,h,_=>by
   obtain⟨⟨U,O,e3,e4⟩,⟨e5,e6,e7,e8⟩,h2⟩:=h
   dsimp only at U O e5 e6
   subst U O e5 e6
   exact⟨[],a,b,G,[],p1,p2,L,rfl,rfl,rfl,trivial,e3,e4,e7,e8,h2⟩
 | i+1,r::W,x::q,s,h,hi=>by
   obtain⟨J,a,b,G,M,Z,pb,L,U,O,e3,h1,a1,a2,b1,b2,h2⟩:=PR.split (i:=i) h.2 (by simpa using hi)
   have e:s+r.length+J.flatten.length=s+(r::J).flatten.length:=by simp [fB]
   rw [e]at O h2
   exact⟨r::J,a,b,G,x::M,Z,pb,L,by rw [U];rfl,by rw [O];rfl,by rw [bU,e3],⟨h.1,h1⟩,a1,a2,b1,b2,h2⟩
 | 0,[],[],_,_,hi=>by simp at hi
 | 0,[],_::_,_,h,_=>h.elim
 | 0,_::_,[],_,h,_=>h.elim
 | 0,[_],_::_::_,_,h,_=>h.2.elim
 | 0,_::_::_,[_],_,h,_=>h.2.elim
 | 0,[_],[_],_,_,hi=>by simp at hi
 | _+1,[],[],_,_,hi=>by simp at hi
 | _+1,[],_::_,_,h,_=>h.elim
 | _+1,_::_,[],_,h,_=>h.elim
structure RS (κ:SortKind) (it:Array Keyed) (n:Nat) (lt:Nat->Nat->Bool) (rs:List (List Nat)) (Z:List Nat) (pd:Array (Nat × Nat × Nat)) (st:SortSt):Prop where
 si:SI κ it (rs.flatten++Z) pd st
 pr:PR lt 0 rs pd.toList
 pm:(rs.flatten++Z).Perm (List.range n)
theorem Agp (q G:List (Nat × Nat × Nat)) (x y J:Nat × Nat × Nat):((q++x::y::G).toArray.setIfInBounds q.length J).eraseIdxIfInBounds (q.length+1)=(q++J::G).toArray:=by
 apply gR.mp
 simp [Array.eraseIdxIfInBounds,List.eraseIdx_append_of_length_le]
theorem M9 (hc:HC prog w A I κ it n lt) {rs:List (List Nat)}{Z:List Nat}{st:SortSt}{Q:Bool->SortSt->Prop} (h:RS κ it n lt rs Z pd st) (hi:i+1<pd.size)
 (q:∀W a0 M,RS κ it n lt W Z a0 M->a0.size+1=pd.size->W.flatten.length=rs.flatten.length->Q true M):CW prog w A E I (mergeAt' i) Q st:=by
 obtain⟨J,a,b,G,qp,pa,pb,q2,e1,e2,e3,h1,a1,a2,b1,b2,h2⟩:=h.pr.split (i:=i) (by rw [bJ];exact hi)
 have L:pd=(qp++(0+J.flatten.length,a.length,pa)::(0+J.flatten.length+a.length,b.length,pb)::q2).toArray:=by
  apply gR.mp
  rw [e2]
 rw [gO]at L h2
 have ef:rs.flatten++Z=J.flatten++(a++(b++(G.flatten++Z))):=by rw [e1];simp
 have hs:=h.si
 have pm:=h.pm
 rw [ef]at hs pm
 have nd:=pm.nodup_iff.mpr nodup_range
 have a3:∀i∈J.flatten++(a++(b++(G.flatten++Z))),i<n:=fun i hi=>eD.mp (pm.mem_iff.mp hi)
 refine Xb hc hs (pa:=pa) (pb:=pb) ?_ ?_ a1 b1 a2 b2 (fun i hi=>a3 i (by simp [hi])) (fun i hi=>a3 i (by simp [hi])) ?_ fun z M hp hz O=> ?_
 . rw [L,<-e3]
   simp
 . rw [L,<-e3]
   simp
 . have n1:=(nodup_append.mp nd).2.1
   have n2:=(nodup_append.mp n1).2.2
   exact fun i hi j hj=>n2 i hi j (bD _ hj)
 . have U:=hp.length_eq
   rw [aL]at U
   rw [L,<-e3,Agp]at O
   have ez:J.flatten++(z++(G.flatten++Z))=(J++z::G).flatten++Z:=by simp
   rw [ez]at O
   refine q (J++z::G) _ M ⟨O,?_,?_⟩ ?_ ?_
   . rw [List.toList_toArray]
     refine h1.app ⟨⟨by simp,by simp [U],fun e=> ?_,hz⟩,?_⟩
     . rw [e]at U
       have:=eA.mpr a1
       simp at U
       omega
     . rw [U,<-fB,gO]
       exact h2
   . rw [<-ez]
     refine Perm.trans ?_ pm
     refine eO _ ?_
     have:=iJ (G.flatten++Z) hp
     rwa [cK a b]at this
   . rw [L]
     simp
     omega
   . rw [e1]
     simp [U]
     omega
theorem PR.push {G:List (List Nat)}{q:List (Nat × Nat × Nat)}{r:List Nat}{p:Nat} (h:PR lt 0 G q) (J:r≠ []) (L:r.Pairwise (LT lt)):PR lt 0 (G++ [r]) (q++ [(G.flatten.length,r.length,p)]):=
 h.app ⟨⟨by simp,rfl,J,L⟩,trivial⟩
theorem RS.push {q:List (List Nat)}{Z:List Nat}{L:Array (Nat × Nat × Nat)}{st:SortSt}{m:Nat} (h:RS κ it n lt q Z L st) (h1:1<=m) (M:m<=Z.length) (O:Asc lt Z m) {lo:Nat} (G:lo=q.flatten.length):
 RS κ it n lt (q++ [Z.take m]) (Z.drop m) (L.push (lo,m,0)) (setPending st ((pendingOf st).push (lo,m,0))):=by
 have e:(q++ [Z.take m]).flatten++Z.drop m=q.flatten++Z:=by simp
 have J:(Z.take m).length=m:=by rw [bT];omega
 refine⟨⟨h.si.kd,h.si.fa,by rw [e];exact h.si.ar,?_⟩,?_,by rw [e];exact h.pm⟩
 . show(pendingOf st).push _=_
   rw [h.si.pe]
 . rw [Array.toList_push]
   have:=h.pr.push (r:=Z.take m) (p:=0) (fun z=>by rw [z]at J;simp at J;omega) (O.pw M)
   rw [J,<-G]at this
   exact this
theorem RS.power {G:List (List Nat)}{Z:List Nat}{J:Array (Nat × Nat × Nat)}{st:SortSt} (h:RS κ it n lt G Z J st) (k pw:Nat):
 ∃q,RS κ it n lt G Z q (setPending st ((pendingOf st).modify k fun x=>(x.1,x.2.1,pw))):=by
 refine⟨J.modify k fun x=>(x.1,x.2.1,pw),⟨h.si.kd,h.si.fa,h.si.ar,?_⟩,?_,h.pm⟩
 . exact bK (fun p:Array (Nat × Nat × Nat)=>p.modify k fun x=>(x.1,x.2.1,pw)) h.si.pe
 . refine h.pr.same ?_
   rw [Array.toList_modify]
   refine kP (by simp) fun i a b=> ?_
   simp only [iU,List.getElem_modify]
   split<;>rfl
theorem RS.z {G:List (List Nat)}{Z J:List Nat}{L:Array (Nat × Nat × Nat)}{st q:SortSt} (h:RS κ it n lt G Z L st) (hp:J.Perm Z) (M:SI κ it (G.flatten++J) L q):RS κ it n lt G J L q:=
 ⟨M,h.pr,(eO _ hp).trans h.pm⟩
theorem T9 (hc:HC prog w A I κ it n lt) {st:SortSt}{Q:Unit->SortSt->Prop} (hs:SI κ it (List.range n) #[] st) (h2:1<=n)
 (q:∀p O M,p.Perm (List.range n)->p.Pairwise (LT lt)->SI κ it p O M->Q () M):CW prog w A E I sortRuns' Q st:=by
 rw [sortRuns'_eq]
 dsimp only
 refine Aq (J5 ?_)
 have sz:(arrOf st).size=n:=by rw [hs.ar,Eo,cX]
 rw [sz]
 generalize minRun' n n 0=mr
 have tot:∀ {U:List (List Nat)}{Z:List Nat}{O:Array (Nat × Nat × Nat)}{st:SortSt},RS κ it n lt U Z O st->U.flatten.length+Z.length=n:=fun h=>by
  have:=h.pm.length_eq
  rwa [aL,cX]at this
 refine Aq (Cz (Cv (J:=fun i z M=>∃U Z O lo,z=(none,lo)/\RS κ it n lt U Z O M/\lo=U.flatten.length/\i<=lo) (Q:=fun z M=>∃U O lo,z=(none,lo)/\RS κ it n lt U [] O M) ?_ ?_ ⟨[],List.range n,#[],0,rfl,⟨by simpa using hs,trivial,by simp⟩,rfl,aH _⟩) ?_)
 . rintro i z a5 hi ⟨U,Z,O,lo,rfl,h,a0,ae⟩
   have tt:=tot h
   dsimp only
   by_cases e:lo>=n
   . rw [aI e]
     have hZ:Z=[]:=aW (by omega)
     subst hZ
     exact Az ⟨U,O,lo,rfl,h⟩
   rw [aF e]
   have hn:∀i∈Z,i<n:=fun i hi=>eD.mp (h.pm.mem_iff.mp (bI _ hi))
   have nd:Z.Nodup:=(nodup_append.mp (h.pm.nodup_iff.mpr nodup_range)).2.1
   refine Aq (T8 hc h.si hn nd a0 (by omega) (by omega) fun m Z' a1 hp m1 m2 ha a6=> ?_)
   dsimp only
   have h2:=h.z hp a6
   have lz:=hp.length_eq
   have a9:∀i∈Z',i<n:=fun i hi=>hn i (hp.mem_iff.mp hi)
   have aa:=hp.nodup_iff.mpr nd
   clear a6
   by_cases c:m<mr
   case' pos=>
    rw [aI c]
    refine Aq (Ku ?_)
    generalize af:min (n-lo) mr=m3
    refine Aq (Qd hc a0 m1 (by omega) (by omega) h2.si a9 aa ha fun Z2 ab a7 a3 a8=> ?_)
    rw [aF (by simp)]
    have h3:=h2.z a7 a8
    have ac:Z2.length=Z.length:=by rw [a7.length_eq,lz]
    have m4:1<=m3/\m3<=n-lo:=by omega
    clear a8 ha h2
   case' neg=>
    rw [aF c]
    obtain⟨m3,rfl⟩:∃m3,m3=m:=⟨m,rfl⟩
    obtain⟨Z2,rfl⟩:∃Z2,Z2=Z':=⟨Z',rfl⟩
    obtain⟨ab,rfl⟩:∃s,s=a1:=⟨a1,rfl⟩
    have a3:=ha
    have h3:=h2
    have ac:=lz
    have m4:1<=m3/\m3<=n-lo:=⟨m1,m2⟩
    clear ha h2
   all_goals
    refine Aq (J5 ?_)
    rw [h3.si.pe]
    cases hb:O.back? with
    | none=>
      dsimp only
      refine Aq (Gx (Az ?_))
      refine⟨_,_,_,_,rfl,h3.push m4.1 (by omega) a3 a0,?_,by omega⟩
      simp [a0]
      omega
    | some x=>
      obtain⟨s1,n1,p1⟩:=x
      dsimp only
      generalize power' n _ _ n=pw
      refine Aq (Cz (Cv (J:=fun _ z M=>z=(none,())/\∃L G,RS κ it n lt L Z2 G M/\L.flatten.length=U.flatten.length) (Q:=fun z M=>z=(none,())/\∃L G,RS κ it n lt L Z2 G M/\L.flatten.length=U.flatten.length) ?_ ?_ ⟨rfl,U,O,h3,rfl⟩) ?_)
      . rintro i z a4 hi ⟨rfl,L,G,W,hl⟩
        refine Aq (J5 ?_)
        rw [W.si.pe]
        by_cases c2:G.size>1
        . rw [aI c2]
          have e3:G[G.size-2]? =some (G[G.size-2]'(by omega)):=eN _
          rw [e3]
          obtain⟨y1,y2,y3⟩:=G[G.size-2]
          dsimp only
          split
          . exact Az ⟨rfl,L,G,W,hl⟩
          . refine Aq (M9 hc W (by omega) fun a2 pd2 ad h5 _ ag=> ?_)
            rw [aF (by simp)]
            exact Az ⟨rfl,a2,pd2,h5,by omega⟩
        . rw [aF c2]
          exact Az ⟨rfl,L,G,W,hl⟩
      . rintro z a4 ⟨rfl,W⟩
        exact⟨rfl,W⟩
      . rintro z a4 ⟨rfl,L,G,W,hl⟩
        dsimp only
        refine Aq (Gx (Aq (Gx (Az ?_))))
        obtain⟨pd2,h5⟩:=W.power ((pendingOf a4).size-1) pw
        refine⟨_,_,_,_,rfl,h5.push m4.1 (by omega) a3 (by omega),?_,by omega⟩
        simp [a0,hl]
        omega
 . rintro z a5 ⟨U,Z,O,lo,rfl,h,a0,hi⟩
   have tt:=tot h
   have hZ:Z=[]:=aW (by omega)
   subst hZ
   exact⟨U,O,lo,rfl,h⟩
 . rintro z a5 ⟨U,O,lo,rfl,h⟩
   dsimp only
   have tt:=tot h
   have lf:=h.pr.few
   have ll:U.length=O.size:=h.pr.len.trans bJ
   rw [dX]at tt
   refine Aq (Cz (Cv (J:=fun i z M=>z=(none,())/\∃U O,RS κ it n lt U [] O M/\(O.size<=1\/O.size+i<=n)) (Q:=fun z M=>z=(none,())/\∃U O,RS κ it n lt U [] O M/\O.size<=1) ?_ ?_ ⟨rfl,U,O,h,.inr (by omega)⟩) ?_)
   . rintro i z a1 hi ⟨rfl,L,G,W,hl⟩
     refine Aq (J5 ?_)
     rw [W.si.pe]
     by_cases c:G.size<=1
     . rw [aI c]
       exact Az ⟨rfl,L,G,W,c⟩
     rw [aF c]
     refine Aq (M9 hc W ?_ fun a2 pd2 ad h5 hz _=> ?_)
     . have:∀c:Bool,(if c=true then G.size-2-1 else G.size-2)+1<G.size:=fun c=>by cases c<;>simp<;>omega
       exact this _
     . rw [aF (by simp)]
       exact Az ⟨rfl,a2,pd2,h5,.inr (by omega)⟩
   . rintro z a1 ⟨rfl,L,G,W,hl⟩
     exact⟨rfl,L,G,W,by omega⟩
   . rintro z a1 ⟨rfl,L,G,W,hl⟩
     have l2:=W.pr.len
     rw [bJ]at l2
     have pw:L.flatten.Pairwise (LT lt):=by
      have hp:=W.pr
      revert hp
      generalize G.toList=q
      intro hp
      cases L with
      | nil=>exact .nil
      | cons r a2=>
        cases a2 with
        | nil=>
          cases q with
          | nil=>exact hp.elim
          | cons x q2=>simpa using hp.1.2.2.2
        | cons _ _=>simp at l2;omega
     have s5:=W.si
     have p5:=W.pm
     rw [cP]at s5 p5
     exact Az (q _ _ _ p5 pw s5)
end
variable {vs:List Value}
theorem Ahq {prog:Program}{w:World}{A:Around}{E:Value->Shared->Prop}{κ:SortKind}{lt:Nat->Nat->Bool}{I:Shared->Prop}{s:Shared} (h2:1<=vs.length) (L:LO vs.length lt)
 (Z:∀i j (C:Bool->Shared->Prop) s,I s->i<vs.length->j<vs.length->i≠j->(∀s',I s'->C (lt i j) s')->kas_ask prog w A κ vs i j C s) (hI:I s):
 wpAny (model prog w) A ((sortRuns').run (SortSt.mk' κ (vs.toArray.zip vs.toArray) #[] 7 none)) (fun r s'=>∃p:Array Nat,p.size=vs.length/\arrOf r.2=p.map (kas_item (vs.toArray.zip vs.toArray))/\failedOf r.2=none/\(PM vs.length p/\StT lt p vs.length)/\I s') E s:=by
 have J:HC prog w A I κ (vs.toArray.zip vs.toArray) vs.length lt:=⟨L,fun i j hi W hn C s M q=>by
  rw [<-kat_ask_eq (ks:=vs) (vs:=vs) rfl]
  exact Z i j C s M hi W hn q⟩
 have z0:(vs.toArray.zip vs.toArray).size=vs.length:=by simp
 have e0:vs.toArray.zip vs.toArray=im (vs.toArray.zip vs.toArray) (List.range vs.length):=by
  have h1:=kas_range (vs.toArray.zip vs.toArray)
  rw [z0]at h1
  have h2:im (vs.toArray.zip vs.toArray) (List.range vs.length)=(toArray (List.range vs.length)).map (kas_item (vs.toArray.zip vs.toArray)):=by rw [im,List.map_toArray]
  rw [h2,h1]
 have:=T9 (E:=E) (Q:=fun _ G=>∃p:Array Nat,p.size=vs.length/\arrOf G=p.map (kas_item (vs.toArray.zip vs.toArray))/\failedOf G=none/\(PM vs.length p/\StT lt p vs.length)) J (st:=SortSt.mk' κ (vs.toArray.zip vs.toArray) #[] 7 none) ⟨rfl,rfl,e0,rfl⟩ h2 fun p pd G hp M hi=>by
  have O:PM vs.length p.toArray:=PM.of (by simpa using hp)
  refine⟨p.toArray,O.sz,?_,hi.fa,O,fun i j U W=> ?_⟩
  . rw [hi.ar]
    simp [im]
  . have sz:=O.sz
    rw [aR]at sz
    have:=bV.mp M i j (by omega) (by omega) U
    have e1:aT p.toArray i=p[i]'(by omega):=by simp [aT,show i<p.length by omega]
    have e2:aT p.toArray j=p[j]'(by omega):=by simp [aT,show j<p.length by omega]
    rw [e1,e2]
    exact this
 refine cT (this s hI) (fun r s' h=> ?_) fun _ _ e=>e
 obtain⟨hi,p,a1,a2,a3,a4⟩:=h
 exact⟨p,a1,a2,a3,a4,hi⟩
theorem Hv {prog:Program}{w:World}{A:Around}{E:Value->Shared->Prop}{s:Shared}{a:Addr}{vs:List Value}{n:Nat}{P:PySem.Fin->Shared->Prop}{κ:SortKind}{lt:Nat->Nat->Bool}
 (W:s.heap.get? a=some (seqObj "list" vs.toArray n)) (a2:vs.length<16000000) (L:LO vs.length lt)
 (hk:2<=vs.length->∀h':Heap,(∀b o,b≠a->s.heap.get? b=some o->h'.get? b=some o)->wpAny (model prog w) A (keyKind' vs.toArray) (fun M s'=>M=κ/\s'={ s with heap:=h'}) (fun _ _=>False) { s with heap:=h'})
 (hc:∀(h':Heap) (i j:Nat) (C:Bool->Shared->Prop),(∀b o,b≠a->s.heap.get? b=some o->h'.get? b=some o)->i<vs.length->j<vs.length->i≠j->C (lt i j) { s with heap:=h'}->kas_ask prog w A κ vs i j C { s with heap:=h'})
 (h:∀p:Array Nat,PM vs.length p->StT lt p vs.length->P (.done (.ret .none)) { s with heap:=sortedHeap s.heap a vs (toArray (p.toList.map fun i=>vs.getD i Value.none))}):
 wpAny (model prog w) A (Builtin.«list.sort» ⟨[.ref a],[]⟩) P E s:=by
 have ha:a<s.heap.objs.size:=aM W
 obtain⟨Z,O⟩:∃Z,(s.heap.update a (Obj.mapSeq fun _=>(#[]:Array Value))).get? a=some (seqObj "list" #[] Z):=⟨_,get?_update_seq W fun _=> #[]⟩
 rw [list_sort_plain]
 refine aA (listItems_at W rfl ?_)
 refine aA (listUpdate_at W rfl ?_ (by rw [aR,eG];omega) (bO _))
 refine aA (seqEpoch_at O rfl ?_)
 refine aA (wpAny_newTuple ?_ (by show vs.length<=_;rw [eG];omega))
 refine aA (wpAny_newList ?_ (bO _))
 refine dP ?_
 show wpAny (model prog w) A _ P E { s with heap:=((s.heap.update a (Obj.mapSeq fun _=>(#[]:Array Value))).push (seqObj "tuple" vs.toArray 0)).push (seqObj "list" #[] 0)}
 dsimp only
 have J:(((s.heap.update a (Obj.mapSeq fun _=>(#[]:Array Value))).push (seqObj "tuple" vs.toArray 0)).push (seqObj "list" #[] 0)).get? a=some (seqObj "list" #[] Z):=by
  rw [fC _ _ _ (by rw [size_push',jO];exact aV (bP ha)),fC _ _ _ (by rw [jO];exact aV ha)]
  exact O
 have kp:∀b o,b≠a->s.heap.get? b=some o->(((s.heap.update a (Obj.mapSeq fun _=>(#[]:Array Value))).push (seqObj "tuple" vs.toArray 0)).push (seqObj "list" #[] 0)).get? b=some o:=fun b o hb e=>by
  have U:b<s.heap.objs.size:=aM e
  rw [fC _ _ _ (by rw [size_push',jO];exact aV (bP U)),fC _ _ _ (by rw [jO];exact aV U),Heap.get?_update_ne _ _ _ _ hb]
  exact e
 by_cases h2:vs.toArray.size<2
 . rw [aI h2,aI h2]
   refine aA (aE ?_)
   rw [StateT.run_pure]
   refine aA (aE ?_)
   dsimp only
   have hl:vs.length<2:=by rw [aR]at h2;exact h2
   have G:(arrOf (SortSt.mk' general' (vs.toArray.zip vs.toArray) #[] 7 none)).map (·.2)=toArray ((toArray (List.range vs.length)).toList.map fun i=>vs.getD i Value.none):=by
    show(vs.toArray.zip vs.toArray).map (·.2)=_
    exact Ah1 hl
   rw [G]
   refine aA (seqEpoch_at J rfl ?_)
   refine aA (listUpdate_at J rfl ?_ (bO _) (by rw [aR,aB,eG];simp;omega))
   simp only [bne_self_eq_false,fF,fY]
   exact aE (h _ (PM.start _) fun i j a3 hj=>by omega)
 . rw [aF h2,aF h2]
   have hl:2<=vs.length:=by rw [aR]at h2;omega
   refine aA (cT (hk hl _ kp) (fun M s0 hh=> ?_) fun _ _ x=>x.elim)
   obtain⟨rfl,rfl⟩:=hh
   refine aA (cT (Ahq (I:=fun s'=>s'={ s with heap:=((s.heap.update a (Obj.mapSeq fun _=>(#[]:Array Value))).push (seqObj "tuple" vs.toArray 0)).push (seqObj "list" #[] 0)}) (by omega) L (fun i j C s' e hi hj hn q=>by subst e;exact hc _ i j C kp hi hj hn (q _ rfl)) rfl) ?_ fun _ _ e=>e)
   rintro⟨⟨⟩,a4⟩ s' ⟨p,hp,a0,hf,hP,rfl⟩
   dsimp only
   have G:=kat_snds rfl a0
   have a1:(toArray (p.toList.map fun i=>vs.getD i Value.none)).size=vs.length:=by rw [aR,aB,bJ,hp]
   rw [G]
   refine aA (seqEpoch_at J rfl ?_)
   refine aA (listUpdate_at J rfl ?_ (bO _) (aO (eJ a1) (by rw [eG];omega)))
   rw [hf]
   simp only [bne_self_eq_false,fF,fY]
   exact aE (h p hP.1 hP.2)
theorem T3 (hu:X.A.units+64<cLine):Gv X (.builtin "sorted") (fun xs H Q=>∃(d:Addr) (ts:List Prt),xs=[.ref d]/\SqL X.K H d (ts.map fun t=>V.ref t.1)/\(∀t∈ts,Ah7 X.K H t)/\(ts.map Prt.ks).Nodup/\ts.length<16000000/\
 ∀(l:Addr) (us:List Prt),H l=none->us.Perm ts->us.Pairwise (fun x y=>HT.lexLt x.ks y.ks=true)->Q (.ref l) (upd H l (.lst (us.map fun t=>V.ref t.1)))):=by
 intro pins s σ H xs us Q I r h
 obtain⟨d,ts,rfl,hd,hp,nd,ac,q⟩:=h
 obtain⟨u,rfl,ru⟩:=vals1 r
 cases ru
 obtain⟨G,rv,⟨oL,nL,eL,cL,dL,sL⟩,hz⟩:=I.list hd
 have ev:G=ts.map fun t=>Value.ref t.1:=by
  have:=U6 (as:=ts.map fun t=>t.1) (us:=G) (by simpa [aK,gJ]using rv)
  simpa [aK,gJ]using this
 have hl:G.length=ts.length:=by rw [ev,aB]
 have a4:s.heap.IsList d G.toArray:=⟨oL,eL,cL,nL,sL⟩
 have a8:∀t∈ts,Acp X.prog X.w s.heap t/\t.1<s.heap.objs.size/\t.2.1<s.heap.objs.size:=fun t ht=>(hp t ht).at I
 have M:∀i (hi:i<G.length),G.getD i Value.none= .ref (ts[i]'(by omega)).1:=fun i hi=>by
  subst ev
  simp only [aB]at hi
  simp [hi]
 refine call_function_entry kind_sorted plain_sorted entry_sorted (args_sorted1 _) ?_
 unfold Builtin.«sorted»
 refine aA (m:=checkCount "sorted" 1 1 _) (aE ?_)
 refine aA (collect_list a4 ?_ (by rw [eG];omega))
 refine aA (wpAny_newList ?_ (by rw [eG];omega))
 have W:((s.heap.push (seqObj "list" #[] 0)).update s.heap.objs.size (Obj.mapSeq (· ++G.toArray))).objs.size=s.heap.objs.size+1:=by
  rw [jO,size_push']
 have O:(((s.heap.push (seqObj "list" #[] 0)).update s.heap.objs.size (Obj.mapSeq (· ++G.toArray))).push (seqObj "list" G.toArray 0)).get? (s.heap.objs.size+1)=some (seqObj "list" G.toArray 0):=by
  rw [<-W];exact aN _ rfl
 have keep:∀b o,s.heap.get? b=some o->(((s.heap.push (seqObj "list" #[] 0)).update s.heap.objs.size (Obj.mapSeq (· ++G.toArray))).push (seqObj "list" G.toArray 0)).get? b=some o:=fun b o q=>by
  have Z:b<s.heap.objs.size:=aM q
  rw [fC _ _ _ (by rw [W];exact aV (bP Z)),Heap.get?_update_ne _ _ _ _ (aV Z),fC _ _ _ (aV Z)]
  exact q
 show wpAny _ _ _ _ _ { s with heap:=((s.heap.push (seqObj "list" #[] 0)).update s.heap.objs.size (Obj.mapSeq (· ++G.toArray))).push (seqObj "list" G.toArray 0)}
 rw [W]
 generalize ((s.heap.push (seqObj "list" #[] 0)).update s.heap.objs.size (Obj.mapSeq (· ++G.toArray))).push (seqObj "list" G.toArray 0)=g at O keep ⊢
 have J:∀h':Heap,(∀b o,b≠s.heap.objs.size+1->g.get? b=some o->h'.get? b=some o)->∀t∈ts,Acp X.prog X.w h' t:=fun h' k t ht=>by
  obtain⟨x,l1,l2⟩:=a8 t ht
  exact(x.keeps (a:=s.heap.objs.size+1) (fun b o _ e=>keep b o e) (aV (bP l1)) (aV (bP l2))).keeps k (aV (bP l1)) (aV (bP l2))
 have L:LO G.length (fun i j=>HT.lexLt ((ts.map Prt.ks).getD i []) ((ts.map Prt.ks).getD j [])):=by
  refine⟨fun i j hi U hn=>Qk _ _ fun e=> ?_,fun i j k _ _ _=>lex_trans _ _ _⟩
  have pw:=bV.mp nd
  have a0:i<(ts.map Prt.ks).length:=by rw [aB];omega
  have a1:j<(ts.map Prt.ks).length:=by rw [aB];omega
  have e3:(ts.map Prt.ks)[i]=(ts.map Prt.ks)[j]:=by
   rw [aP,aP,aG a0,aG a1]at e
   exact e
  rcases hX hn with l | l
  . exact pw i j a0 a1 l e3
  . exact pw j i a1 a0 l e3.symm
 refine aA (dP (cN slot_list_sort ⟨_,O,rfl⟩ entry_list_sort (Hv (κ:=tuples' false) (n:=0) O (by omega) L (fun h2 h' k=> ?_) (fun h' i j C k hi U hn hC=> ?_) fun p hP hS=>⟨_,rfl,?_⟩) (args_list_sort _)))
 . rw [ev]
   refine kat_kind (T:= .type "tuple") (fs:=ts.map fun t=>Value.ref t.2.1) (Wf ts (J h' k)) (by rw [aB];omega) (fun v hv=> ?_) (by simp) ⟨by simp,rfl⟩
   obtain⟨t,ht,rfl⟩:=aD.mp hv
   obtain⟨ab,⟨o,e,c,_⟩,_⟩:=(J h' k t ht).tu
   rw [<-c]
   exact(Looks.ld e).andThen .now
 . unfold kas_ask
   rw [M i hi,M j U]
   have e:∀i (hi:i<G.length),(ts.map Prt.ks).getD i []=(ts[i]'(by omega)).ks:=fun i hi=>by
    rw [hl]at hi
    simp [hi]
   rw [e i hi,e j U]at hC
   refine Am7 ?_ (J h' k _ (cE _)) (J h' k _ (cE _)) (fun z=> ?_) hC
   . show X.A.units+2<cLine
     omega
   . have z2:=L.tri i j hi U hn
     rw [e i hi,e j U,z]at z2
     simp at z2
 . refine aE ⟨_,rfl,?_⟩
   have eo:(p.toList.map fun i=>G.getD i Value.none)=(p.toList.map fun i=>ts.getD i (0,0,[],V.non)).map fun t=>Value.ref t.1:=by
    rw [aK]
    refine bR fun i hi=> ?_
    have a2:i<G.length:=eD.mp (hP.pm.mem_iff.mp hi)
    rw [M i a2]
    show _=Value.ref (ts.getD i _).1
    rw [hl]at a2
    simp [a2]
   have a5:(p.toList.map fun i=>ts.getD i (0,0,[],V.non)).Perm ts:=by
    have h1:=hP.pm.map fun i=>ts.getD i ((0,0,[],V.non):Prt)
    have h2:(List.range G.length).map (fun i=>ts.getD i ((0,0,[],V.non):Prt))=ts:=by
     rw [hl]
     refine kP (by simp) fun i a b=> ?_
     simp only [aB,cX]at a
     simp [a]
    rw [h2]at h1
    exact h1
   have a9:(p.toList.map fun i=>ts.getD i ((0,0,[],V.non):Prt)).Pairwise (fun x y=>HT.lexLt x.ks y.ks=true):=by
    refine bV.mpr fun i j hi U aa=> ?_
    have a6:(p.toList.map fun i=>ts.getD i ((0,0,[],V.non):Prt)).length=G.length:=by rw [aB,bJ,hP.sz]
    have g:∀i (hi:i<(p.toList.map fun i=>ts.getD i ((0,0,[],V.non):Prt)).length),((p.toList.map fun i=>ts.getD i ((0,0,[],V.non):Prt))[i]).ks=(ts.map Prt.ks).getD (aT p i) []:=fun i hi=>by
     have a3:i<p.size:=by rw [hP.sz,<-a6];exact hi
     have ea:p.toList[i]'(by rw [bJ];exact a3)=aT p i:=by simp [aT,a3]
     have hb:aT p i<ts.length:=by rw [<-hl];exact hP.lt i (by rw [<-hP.sz];exact a3)
     rw [iU,ea]
     simp [hb]
    rw [g i hi,g j U]
    exact hS i j aa (by rw [<-a6];exact U)
   obtain⟨e,he⟩:=sortedHeap_at (out:=toArray (p.toList.map fun i=>G.getD i Value.none)) O
   have kp:∀b o,s.heap.get? b=some o->(sortedHeap g (s.heap.objs.size+1) G (toArray (p.toList.map fun i=>G.getD i Value.none))).get? b=some o:=fun b o e1=>by
    have lt:b<s.heap.objs.size:=aM e1
    rw [sortedHeap_old (aV (bP lt)) (aM (keep b o e1))]
    exact keep b o e1
   have a7:(p.toList.map fun i=>ts.getD i ((0,0,[],V.non):Prt)).length<=sizeLine:=by rw [a5.length_eq,eG];omega
   refine⟨.ref (s.heap.objs.size+1),_,I.laid (a:=s.heap.objs.size+1) (t':=s.toks) (o:= .lst ((p.toList.map fun i=>ts.getD i ((0,0,[],V.non):Prt)).map fun t=>V.ref t.1)) kp (fV _) ⟨by rw [aB];exact a7,p.toList.map fun i=>G.getD i Value.none,e,?_,he⟩,rfl,q _ _ (I.hok.fresh (fV _)) a5 a9⟩
   rw [eo]
   have:=Nt ((p.toList.map fun i=>ts.getD i ((0,0,[],V.non):Prt)).map fun t=>t.1)
   simpa [aK,gJ]using this
theorem T4 (hc:X.calm=true):Gv X (.builtin "sorted") (fun xs H Q=>∃(d:Addr) (kvs:List (List Key × V)) (n:Nat),xs=[.ref d]/\H d=some (.dT kvs)/\(∀e∈kvs,∃ks:List Int,e.1=ks.map Sum.inl/\ks.length=n)/\0<n/\(kvs.map (·.1)).Nodup/\kvs.length<16000000/\
 ∀(l:Addr) (us:List Tpt),H l=none->(us.map fun t=>(t.2.map Sum.inl:List Key)).Perm (kvs.map (·.1))->(∀t∈us,H t.1=some (.tup (t.2.map V.int)))->us.Pairwise (fun x y=>HT.lexLt x.2 y.2=true)->Q (.ref l) (upd H l (.lst (us.map fun t=>V.ref t.1)))):=by
 intro pins s σ H xs us Q I r h
 obtain⟨d,kvs,n,rfl,hd,ab,ah,nd,ai,q⟩:=h
 obtain⟨u,rfl,ru⟩:=vals1 r
 cases ru
 obtain⟨z,lo,ys,a7,od,es,ep,h1,h2,h3,h4,h5⟩:=(show Dk X.prog X.w H s.heap d (.dT kvs)from I.hok d _ hd)
 have lk:kvs.length=ys.length:=jP a7
 have le:es.size=ys.length:=by
  have:=bK length h4
  rw [bJ,aB]at this
  exact this
 obtain⟨ts,e1,e2,Z⟩:=Aht a7 ab
 have lt:ts.length=kvs.length:=by
  have:=bK length e1
  simpa using this
 have hz:es.size<=sizeLine:=by rw [le,<-lk,eG];omega
 have ac:∀t∈ts,Aeb s.heap t/\t.1<s.heap.objs.size:=fun t ht=>by
  obtain⟨_,G,r,p⟩:=(show Dk X.prog X.w H s.heap t.1 (.tup (t.2.map V.int))from I.hok _ _ (Z t ht).1)
  exact⟨⟨G,p,intsAre_of r⟩,p.lt⟩
 refine call_function_entry kind_sorted plain_sorted entry_sorted (args_sorted1 _) ?_
 unfold Builtin.«sorted»
 refine aA (m:=checkCount "sorted" 1 1 _) (aE ?_)
 refine aA (kdu_collect (Afv lo h2 h3) (I.ok.hd hc) h1 hz fun h' tk M J a0=> ?_)
 have ha:M.toList=ts.map fun t=>Value.ref t.1:=by
  refine List.ext_getElem? fun j=> ?_
  have la:M.toList.length=ts.length:=by
   rw [bJ,lt,lk,<-le]
   exact a0.1
  by_cases W:j<ts.length
  . obtain⟨v,hv⟩:∃v,M.toList[j]? =some v:=⟨_,aG (by omega)⟩
    obtain⟨en,he,rfl⟩:=a0.2 j v (by rw [<-eC];exact hv)
    rw [hv,aZ,aG W]
    rw [<-eC,h4,aZ,aG (by omega)]at he
    have e5:(ts.map fun t=>t.1)[j]? =(ys.map fun y=>y.2.1)[j]? :=by rw [e2]
    rw [aZ,aZ,aG W,aG (by omega)]at e5
    have e6:=bE he
    have e7:ts[j].1=ys[j].2.1:=bE e5
    rw [<-e6]
    show some (Value.ref ys[j].2.1)=some (Value.ref ts[j].1)
    rw [e7]
  . rw [gD (by omega),gD (by rw [aB];omega)]
 have hl:M.toList.length=ts.length:=by rw [ha,aB]
 refine aA (wpAny_newList ?_ (by rw [hl,lt,eG];omega))
 generalize ag:M.toList=G at ha hl
 have a1:(h'.push (seqObj "list" G.toArray 0)).get? h'.objs.size=some (seqObj "list" G.toArray 0):=aN _ rfl
 have O:∀i (hi:i<G.length),G.getD i Value.none= .ref (ts[i]'(by omega)).1:=fun i hi=>by
  subst ha
  simp only [aB]at hi
  simp [hi]
 have keep:∀b o,s.heap.get? b=some o->(h'.push (seqObj "list" G.toArray 0)).get? b=some o:=fun b o e=>aC _ (J b o e)
 have a8:∀b o,s.heap.get? b=some o->b≠h'.objs.size:=fun b o e=>aV (aM (J b o e))
 have U:∀g:Heap,(∀b o,b≠h'.objs.size->(h'.push (seqObj "list" G.toArray 0)).get? b=some o->g.get? b=some o)->∀t∈ts,Aeb g t:=fun g k t ht=>by
  have x:=(ac t ht).1
  obtain⟨_,⟨ot,et,_⟩,_⟩:=id x
  exact(x.keeps (a:=h'.objs.size) (fun b o _ e=>keep b o e) (a8 _ _ et)).keeps k (a8 _ _ et)
 have kk:∀i (hi:i<G.length),(ts.map fun t=>t.2).getD i []=(ts[i]'(by omega)).2:=fun i hi=>by
  rw [hl]at hi
  simp [hi]
 have ad:(ts.map fun t=>t.2).Nodup:=by
  rw [<-e1]at nd
  refine bC.mpr ((bC.mp nd).imp fun h z=>h ?_)
  rw [z]
 have L:LO G.length (fun i j=>HT.lexLt ((ts.map fun t=>t.2).getD i []) ((ts.map fun t=>t.2).getD j [])):=by
  refine⟨fun i j hi W hn=>Qk _ _ fun e=> ?_,fun i j k _ _ _=>lex_trans _ _ _⟩
  have pw:=bV.mp ad
  have a2:i<(ts.map fun t=>t.2).length:=by rw [aB];omega
  have a3:j<(ts.map fun t=>t.2).length:=by rw [aB];omega
  have Z:(ts.map fun t=>t.2)[i]=(ts.map fun t=>t.2)[j]:=by
   rw [aP,aP,aG a2,aG a3]at e
   exact e
  rcases hX hn with l | l
  . exact pw i j a2 a3 l Z
  . exact pw j i a3 a2 l Z.symm
 refine aA (dP (cN slot_list_sort ⟨_,a1,rfl⟩ entry_list_sort (Hv (κ:=tuples' true) (n:=0) a1 (by omega) L (fun h2 g k=> ?_) (fun g i j C k hi W hn hC=> ?_) fun p hP hS=>⟨_,rfl,?_⟩) (args_list_sort _)))
 . obtain⟨fs,k1,k2,k3⟩:=Ab1 ts fun t ht=>⟨U g k t ht,fun z=>by
    have:=(Z t ht).2
    rw [z]at this
    simp at this
    omega⟩
   rw [ha]
   refine kat_kind (T:= .type "int") k1 (by omega) (fun v hv=> ?_) (by simp) ⟨by simp,rfl⟩
   obtain⟨i,u,rfl⟩:=k3 v hv
   exact Looks.of_pure rfl
 . unfold kas_ask
   rw [O i hi,O j W]
   rw [kk i hi,kk j W]at hC
   exact Anr (U g k _ (cE _)) (U g k _ (cE _)) (by rw [(Z _ (cE _)).2,(Z _ (cE _)).2]) hC
 . refine aE ⟨_,rfl,?_⟩
   have eo:(p.toList.map fun i=>G.getD i Value.none)=(p.toList.map fun i=>ts.getD i ((0,[]):Tpt)).map fun t=>Value.ref t.1:=by
    rw [aK]
    refine bR fun i hi=> ?_
    have a4:i<G.length:=eD.mp (hP.pm.mem_iff.mp hi)
    rw [O i a4]
    show _=Value.ref (ts.getD i _).1
    rw [hl]at a4
    simp [a4]
   have a5:(p.toList.map fun i=>ts.getD i ((0,[]):Tpt)).Perm ts:=by
    have h1:=hP.pm.map fun i=>ts.getD i ((0,[]):Tpt)
    have h2:(List.range G.length).map (fun i=>ts.getD i ((0,[]):Tpt))=ts:=by
     rw [hl]
     refine kP (by simp) fun i a b=> ?_
     simp only [aB,cX]at a
     simp [a]
    rw [h2]at h1
    exact h1
   have ae:(p.toList.map fun i=>ts.getD i ((0,[]):Tpt)).Pairwise (fun x y=>HT.lexLt x.2 y.2=true):=by
    refine bV.mpr fun i j hi W af=> ?_
    have a9:(p.toList.map fun i=>ts.getD i ((0,[]):Tpt)).length=G.length:=by rw [aB,bJ,hP.sz]
    have g:∀i (hi:i<(p.toList.map fun i=>ts.getD i ((0,[]):Tpt)).length),((p.toList.map fun i=>ts.getD i ((0,[]):Tpt))[i]).2=(ts.map fun t=>t.2).getD (aT p i) []:=fun i hi=>by
     have a6:i<p.size:=by rw [hP.sz,<-a9];exact hi
     have ea:p.toList[i]'(by rw [bJ];exact a6)=aT p i:=by simp [aT,a6]
     have hb:aT p i<ts.length:=by rw [<-hl];exact hP.lt i (by rw [<-hP.sz];exact a6)
     rw [iU,ea]
     simp [hb]
    rw [g i hi,g j W]
    exact hS i j af (by rw [<-a9];exact W)
   obtain⟨e,he⟩:=sortedHeap_at (out:=toArray (p.toList.map fun i=>G.getD i Value.none)) a1
   have I1:Inv X pins σ H { s with heap:=h',toks:=tk}:=I.kept J
   have kp:∀b o,h'.get? b=some o->(sortedHeap (h'.push (seqObj "list" G.toArray 0)) h'.objs.size G (toArray (p.toList.map fun i=>G.getD i Value.none))).get? b=some o:=fun b o e1=>by
    have lt:b<h'.objs.size:=aM e1
    rw [sortedHeap_old (aV lt) (by rw [size_push'];exact bP lt),fC _ _ _ (aV lt)]
    exact e1
   have aa:(p.toList.map fun i=>ts.getD i ((0,[]):Tpt)).length<=sizeLine:=by rw [a5.length_eq,lt,eG];omega
   refine⟨.ref h'.objs.size,_,I1.laid (a:=h'.objs.size) (t':=tk) (o:= .lst ((p.toList.map fun i=>ts.getD i ((0,[]):Tpt)).map fun t=>V.ref t.1)) kp (aH _) ⟨by rw [aB];exact aa,p.toList.map fun i=>G.getD i Value.none,e,?_,he⟩,rfl,q _ _ (I1.hok.fresh (aH _)) ?_ (fun t ht=>(Z t (a5.mem_iff.mp ht)).1) ae⟩
   . rw [eo]
     have:=Nt ((p.toList.map fun i=>ts.getD i ((0,[]):Tpt)).map fun t=>t.1)
     simpa [aK,gJ]using this
   . rw [<-e1]
     exact a5.map _
theorem ints_getD:∀ {vs:List Value}{ns:List Int}{i:Nat},IntsAre vs ns->i<vs.length->∃u,vs.getD i Value.none= .int (ns.getD i 0) u
 | _,_,_,.nil,h=>by simp at h
 | _,_,0,.cons _ u _,_=>⟨u,rfl⟩
 | _,_,i+1,.cons _ _ r,h=>by
   obtain⟨u,e⟩:=ints_getD (i:=i) r (by simpa using h)
   exact⟨u,by simpa using e⟩
variable {ns:List Int}
theorem Z7 (h:IntsAre vs ns) {l:List Nat} (q:l.Perm (List.range vs.length)):IntsAre (l.map fun i=>vs.getD i Value.none) (l.map fun i=>ns.getD i 0):=by
 have G:∀i∈l,i<vs.length:=fun i hi=>eD.mp (q.mem_iff.mp hi)
 clear q
 induction l with
 | nil=>exact .nil
 | cons i r J=>
   obtain⟨u,e⟩:=ints_getD h (G i (.head _))
   rw [aU,aU,e]
   exact .cons _ u (J fun j L=>G j (.tail _ L))
theorem Tz (hc:X.calm=true):Gv X (.builtin "sorted") (fun xs H Q=>∃(d:Addr) (kvs:List (Key × V)) (ns:List Int),xs=[.ref d]/\H d=some (.dK kvs)/\kvs.map (·.1)=ns.map Sum.inl/\ns.Nodup/\ns.length<16000000/\∀(l:Addr) (ms:List Int),H l=none->ms.Perm ns->ms.Pairwise (· < ·)->Q (.ref l) (upd H l (.lst (ms.map V.int)))):=by
 intro pins s σ H xs us Q I r h
 obtain⟨d,kvs,ns,rfl,hd,hk,nd,ae,q⟩:=h
 obtain⟨u,rfl,ru⟩:=vals1 r
 cases ru
 obtain⟨hz,lo,M,a8,dd⟩:kvs.length<=sizeLine/\(d==sysModules)=false/\∃M,KV kvs M/\s.heap.DictOf (Bs X.prog X.w) d M:=I.hok d _ hd
 obtain⟨ep,U⟩:=dd.dictAt
 have ek:M.map (·.1)=ns.map Sum.inl:=by rw [<-a8.keysL,hk]
 have hn:M.length=ns.length:=by
  have:=bK length ek
  simpa using this
 have hs:M.length<=sizeLine:=by rw [hn];rw [eG];omega
 refine call_function_entry kind_sorted plain_sorted entry_sorted (args_sorted1 _) ?_
 unfold Builtin.«sorted»
 refine aA (m:=checkCount "sorted" 1 1 _) (aE ?_)
 refine aA (PySem.W.kdu_collect (PySem.W.kdl_dict (knd:=Bs X.prog X.w) (kvs:=M) (ep:=ep) lo) (I.ok.hd hc) U hs fun h' tk G a4 a0=> ?_)
 have hl:G.toList.length=ns.length:=by rw [bJ,<-hn];exact a0.1
 have hI:IntsAre G.toList ns:=Vu hl fun j v e=>by
  obtain⟨k,x,hx,hv⟩:=a0.2 j v (by rw [<-eC];exact e)
  have J:(M.map (·.1))[j]? =some k:=by rw [aZ,hx];rfl
  rw [ek,aZ]at J
  obtain⟨i,hi,rfl⟩:=iF.mp J
  obtain⟨t,rfl⟩:=kX (k:=i) (v:=v) hv
  exact⟨i,t,hi,rfl⟩
 refine aA (wpAny_newList ?_ (by rw [hl,<-hn];exact hs))
 have a5:(h'.push (seqObj "list" G.toList.toArray 0)).get? h'.objs.size=some (seqObj "list" G.toList.toArray 0):=aN _ rfl
 have U:∀i (hi:i<G.toList.length),∃u,G.toList.getD i Value.none= .int (ns.getD i 0) u:=fun i hi=>by
  obtain⟨u,hu⟩:=ints_getD hI hi
  exact⟨u,hu⟩
 have L:LO G.toList.length (fun i j=>decide (ns.getD i 0<ns.getD j 0)):=by
  refine⟨fun i j hi O hn=> ?_,fun i j k _ _ _ h1 h2=> ?_⟩
  . have pw:=bV.mp nd
    rw [hl]at hi O
    have J:ns.getD i 0=ns[i]:=by simp [hi]
    have e2:ns.getD j 0=ns[j]:=by simp [O]
    have ne:ns[i]≠ns[j]:=by
     rcases hX hn with l | l
     . exact pw i j hi O l
     . exact(pw j i O hi l).symm
    rw [J,e2]
    by_cases c:ns[i]<ns[j]
    . rw [cD c,bZ (by omega)]
      rfl
    . rw [bZ c,cD (by omega)]
      rfl
  . have:=cH h1
    have:=cH h2
    exact cD (by omega)
 refine aA (dP (cN slot_list_sort ⟨_,a5,rfl⟩ entry_list_sort (Hv (κ:=oneType') (n:=0) a5 (by omega) L (fun h2 a9 k=> ?_) (fun a9 i j C k hi O hn hC=> ?_) fun p hP hS=>⟨_,rfl,?_⟩) (args_list_sort _)))
 . have h3:2<=G.toList.length:=h2
   generalize G.toList=M at hI h3
   match M,hI,h3 with
   | v1::v2::r,hI,_=>
     rw [keyKind_ints hI]
     exact aE ⟨rfl,rfl⟩
 . unfold kas_ask
   obtain⟨u1,J⟩:=U i hi
   obtain⟨u2,e2⟩:=U j O
   rw [J,e2,keyLt'_oneType]
   exact oneLt_int hC
 have a1:IntsAre (toArray (p.toList.map fun i=>G.toList.getD i Value.none)).toList (p.toList.map fun i=>ns.getD i 0):=by
  rw [List.toList_toArray]
  exact Z7 hI hP.pm
 have a2:(p.toList.map fun i=>ns.getD i 0).Perm ns:=by
  have h1:=hP.pm.map fun i=>ns.getD i (0:Int)
  have h2:(List.range G.toList.length).map (fun i=>ns.getD i (0:Int))=ns:=by
   rw [hl]
   refine kP (by simp) fun i a b=> ?_
   simp only [aB,cX]at a
   simp [a]
  rw [h2]at h1
  exact h1
 have a3:(p.toList.map fun i=>ns.getD i (0:Int)).Pairwise (· < ·):=by
  refine bV.mpr fun i j hi O aa=> ?_
  rw [aB,bJ,hP.sz]at hi O
  have:=cH (hS i j aa O)
  have ab:i<p.size:=by rw [hP.sz];exact hi
  have ac:j<p.size:=by rw [hP.sz];exact O
  rw [iU,iU]
  have J:aT p i=p[i]:=by simp [aT,ab]
  have e2:aT p j=p[j]:=by simp [aT,ac]
  rw [J,e2]at this
  exact this
 refine aE ⟨_,rfl,?_⟩
 generalize af:(p.toList.map fun i=>ns.getD i (0:Int))=a6 at a1 a2 a3
 generalize ad:toArray (p.toList.map fun i=>G.toList.getD i Value.none)=Z at a1
 obtain⟨e,he⟩:=sortedHeap_at (out:=Z) a5
 have a7:a6.length=ns.length:=a2.length_eq
 have I1:Inv X pins σ H { s with heap:=h',toks:=tk}:=I.kept a4
 have kp:∀b o,h'.get? b=some o->(sortedHeap (h'.push (seqObj "list" G.toList.toArray 0)) h'.objs.size G.toList Z).get? b=some o:=fun b o J=>by
  have lt:b<h'.objs.size:=aM J
  rw [sortedHeap_old (aV lt) (by rw [size_push'];exact bP lt),fC _ _ _ (aV lt)]
  exact J
 exact⟨.ref h'.objs.size,_,I1.laid (a:=h'.objs.size) (t':=tk) kp (aH _) (show Dk X.prog X.w _ _ _ (.lst (a6.map V.int))from⟨by rw [aB,a7,<-hn];exact hs,Z.toList,e,O7 a1,he⟩),rfl,q _ a6 (I1.hok.fresh (aH _)) a2 a3⟩
theorem R4:typeLookup (.type "list") "keys"=pure none:=by rw [typeLookup_type,builtinLookup_eq_fast];kernel_rfl
theorem Im:typeLookup (.type "list") "__getattr__"=pure none:=by rw [typeLookup_type,builtinLookup_eq_fast];kernel_rfl
variable {xs:Array Value}{n:Nat}
section
variable {P:Program}{w:World}{A:Around}{E:Value->Shared->Prop}{h:Heap}{g:Array GenState}{d:Drawn}{t:Nat}{os:OsState}{a:Addr}{o:Obj}
theorem Xj {tk:Tok}{Q:PySem.Fin->Shared->Prop} (J:A.handled=none) (L:h.get? a=some (seqObj "list" xs n))
 (q:∀(h':Heap) (tk:Nat) (e:Addr),(∀b o,h.get? b=some o->h'.get? b=some o)->(∃x,h'.get? e=some x/\x.cls= .type "AttributeError")->E (.ref e) ⟨h',g,d,tk,os⟩):
 wpAny (model P w) A (Builtin.«object.__getattribute__» ⟨[.ref a,.str "keys" tk],[]⟩) Q E ⟨h,g,d,t,os⟩:=by
 have U:(⟨h,g,d,t,os⟩:Shared).TypeIs (.ref a) "list":=⟨_,L,rfl⟩
 have W:=R4
 have Z:=Im
 repeat (any_goals (first | assumption | wp_step))
 obtain⟨M,G,O⟩:∃m,m=(Str.ofString (toString "'"++toString ((Manifest.find? "list").elim "list" fun x=>x.tpName)++toString "' object has no attribute '")++Str.ofString "keys"++Str.ofString "'")/\¬m.length>sizeLine:=⟨_,rfl,by decide+kernel⟩
 rw [<-G]
 clear G
 have f6:isSubtype (.type "AttributeError") (.type "AttributeError")=pure true:=by rw [isSubtype_type];kernel_rfl
 unfold raiseAttrError
 repeat (any_goals (first | assumption | wp_step))
 simp only [raiseNew]
 refine aA (wpAny_handled ?_)
 rw [J]
 refine aA (aE (wpAny_throw (q _ _ _ (fun b o e=> ?_) ?_)))
 . have l:=aM e
   rw [Heap.get?_update_ne _ _ _ _ (by rw [dO];exact aV (bP l))]
   exact aC _ (aC _ e)
 . exact⟨_,fN _ (aN _ rfl) rfl,rfl⟩
theorem Aaf {tk:Tok}{R:Result->Shared->Prop} (J:A.handled=none) (G:h.get? a=some (seqObj "list" xs n))
 (q:∀(h':Heap) (tk:Nat) (e:Addr),(∀b o,h.get? b=some o->h'.get? b=some o)->(∃x,h'.get? e=some x/\x.cls= .type "AttributeError")->R (.error (.ref e)) ⟨h',g,d,tk,os⟩):
 codeAny (model P w) A (.call (.builtin "list.__getattribute__") ⟨[.ref a,.str "keys" tk],[]⟩) R ⟨h,g,d,t,os⟩:=by
 refine codeAny_call_builtin iL.plain F.entry_list_ga (iL.check _ _ _ _ _ _ _ _ (show(⟨h,g,d,t,os⟩:Shared).TypeIs (.ref a) "list" from⟨_,G,rfl⟩) (F.args_list_getattribute_2 _ _) (Xj (by simpa using J) G q))
theorem Af4 {tk:Tok}{Q:Value->Shared->Prop} (L:A.handled=none) (J:h.get? a=some (seqObj "list" xs n))
 (q:∀(h':Heap) (tk:Nat) (e:Addr),(∀b o,h.get? b=some o->h'.get? b=some o)->(∃x,h'.get? e=some x/\x.cls= .type "AttributeError")->E (.ref e) ⟨h',g,d,tk,os⟩):
 wpAny (model P w) A (getAttrBy (.ref a) (.str "keys" tk) false) Q E ⟨h,g,d,t,os⟩:=by
 have M:(⟨h,g,d,t,os⟩:Shared).TypeIs (.ref a) "list":=⟨_,J,rfl⟩
 have O:=iL.lookup
 have U:=iL.bind (.ref a)
 repeat (any_goals (first | assumption | wp_step))
 refine Aaf L J fun h' G e k x=> ?_
 dsimp only
 have W:=Im
 have Z:isSubtype (.type "AttributeError") (.type "AttributeError")=pure true:=by rw [isSubtype_type];kernel_rfl
 have hE:(⟨h',g,d,G,os⟩:Shared).TypeIs (.ref e) "AttributeError":=x
 repeat (any_goals (first | assumption | wp_step))
 exact q h' G e k x
theorem Aag {Q:Option Value->Shared->Prop} (G:A.handled=none) (J:h.get? a=some (seqObj "list" xs n))
 (q:∀(h':Heap) (tk:Nat),(∀b o,h.get? b=some o->h'.get? b=some o)->Q none ⟨h',g,d,tk,os⟩):
 wpAny (model P w) A (getAttr? (.ref a) "keys") Q E ⟨h,g,d,t,os⟩:=by
 unfold getAttr? getAttrBy?
 have L:isSubtype (.type "AttributeError") (.type "AttributeError")=pure true:=by rw [isSubtype_type];kernel_rfl
 refine aA (wpAny_mkText (aA (gL (Af4 G J fun h' tk e k x=> ?_))))
 dsimp only
 have M:(⟨h',g,d,tk,os⟩:Shared).TypeIs (.ref e) "AttributeError":=x
 refine aA (lE M L ?_)
 rw [aI rfl]
 exact aE (q _ _ k)
end
theorem Ait:entryFor table "dict.update.loop"=some Builtin.«dict.update.loop» :=entryFor_of_tree (by kernel_rfl)
theorem Agl:plainId "dict.update.loop"=true:=by decide+kernel
structure DPr {P:Program}{w:World} (h:Heap) (d I:Addr) (it:Value) (kx:Key × Value):Prop where
 ex:∃p o n kv,it= .ref p/\h.get? p=some o/\o.cls= .type "tuple"/\o.data= .seq #[kv,kx.2] n/\(Bs P w).is kx.1 kv=true/\p≠d/\p≠I
variable {A:Around}{d:Addr}
theorem Ac6 {P:Program}{w:World}{items:Array Value}{l I:Addr}{vs:List (Key × Value)}{R:Result->Shared->Prop} (hh:A.in1.handled=none) (a4:l≠I) (dI:d≠I) (dl:d≠l) (hl:items.size=vs.length) (hz:vs.length<=sizeLine):
 ∀(k i:Nat) (s:Shared),i+k=vs.length->s.heap.IsListIter I l i->s.heap.IsList l items->s.heap.DictOf (Bs P w) d (merged [] (vs.take i))->(∀(j:Nat) it J,items[j]? =some it->vs[j]? =some J->DPr (P:=P) (w:=w) s.heap d I it J)->
 (∀h' tk,h'.DictOf (Bs P w) d (merged [] vs)->(∀b o,b≠I->b≠d->s.heap.get? b=some o->h'.get? b=some o)->R (.ok (.ret .none)) { s with heap:=h',toks:=tk})->
 codeAny (model P w) A (.builtin "dict.update.loop" ⟨[.ref d,.ref I,rawInt i,.none],[]⟩) R s:=by
 have W:=Walks.list (prog:=P) (w:=w) hh I l a4 items
 intro k
 induction k with
 | zero=>
   intro i s hk O U hd hp q
   have hi:i=items.size:=by omega
   refine jV Ait ?_
   rw [gZ Agl _]
   show wpAny _ A.in1 (pyNext (.ref I)>>=_) _ _ s
   subst hi
   refine aA (W.done s _ _ ⟨O,U⟩ fun h' tk G=> ?_)
   show wpAny _ A.in1 (Builtin.Dict.addKeywords d []>>=_) _ _ _
   have L:h'.DictOf (Bs P w) d (merged [] (vs.take items.size)):=by
    obtain⟨o,es,ep,e,r⟩:=hd
    exact⟨o,es,ep,G d o (by simpa using dI) e,r⟩
   rw [eY (by omega)]at L
   exact aA (aE (aE (q h' tk L fun b o hb _ e=>G b o (by simpa using hb) e)))
 | succ k ih=>
   intro i s hk O U hd hp q
   have hi:i<items.size:=by omega
   refine jV Ait ?_
   rw [gZ Agl _]
   show wpAny _ A.in1 (pyNext (.ref I)>>=_) _ _ s
   refine aA (W.item i s _ _ hi ⟨O,U⟩ fun v h' tk hv a0 G=> ?_)
   obtain⟨J,a1⟩:∃J,vs[i]? =some J:=⟨_,aG (by omega)⟩
   obtain⟨p,o,n,kv,rfl,ho,hc,a5,a6,pd,pI⟩:=(hp i v J hv a1).ex
   have a2:=G p o (by simpa using pI) ho
   have hT:Shared.TypeIs { s with heap:=h',toks:=tk} (.ref p) "tuple":=⟨o,a2,hc⟩
   have L:h'.DictOf (Bs P w) d (merged [] (vs.take i)):=by
    obtain⟨o,es,ep,e,r⟩:=hd
    exact⟨o,es,ep,G d o (by simpa using dI) e,r⟩
   have zl:(merged [] (vs.take i)).length<=sizeLine:=aO (merged_length_le _ _) (by rw [dX,gO,bT];omega)
   show wpAny _ A.in1 (holding [Value.ref p] _>>=_) _ _ _
   refine aA (dP ?_)
   refine aA (jA ?_)
   unfold Builtin.Dict.pairItems
   refine aA (wpAny_typeOf hT ?_)
   rw [aI (by decide)]
   refine aA (dZ a2 a5 ?_)
   refine aE ?_
   show wpAny _ A.in1 (holding [kv,J.2] (dictSet d kv J.2)) _ _ _
   refine dP (wpAny_dictSet_pairs a6 L (fun h2 a3 Z=> ?_) zl)
   have e1:stored (merged [] (vs.take i)) J.1 J.2=merged [] (vs.take (i+1)):=(merged_take_succ [] vs i J a1).symm
   rw [e1]at a3
   have k2:∀b o,b≠I->b≠d->s.heap.get? b=some o->h2.get? b=some o:=fun b o hb M e=>Z.extBut b o M (G b o (by simpa using hb) e)
   refine aE ⟨lC Agl _,?_⟩
   refine ih (i+1) _ (by omega) (a0.1.at fun o e=>Z.extBut I o (cS dI) e) (a0.2.at fun o e=>Z.extBut l o (cS dl) e) a3 (fun j it a7 hj a8=> ?_) fun h3 a9 aa ab=> ?_
   . obtain⟨p2,o2,n2,ac,rfl,ad,r,r2,r3,r4,r5⟩:=(hp j it a7 hj a8).ex
     exact⟨p2,o2,n2,ac,rfl,k2 p2 o2 r5 r4 ad,r,r2,r3,r4,r5⟩
   . exact q h3 a9 aa fun b o hb M e=>ab b o hb M (k2 b o hb M e)
noncomputable abbrev Dpt:=Addr × Int × V
noncomputable def dK (t:Dpt):Key × V:=(.inl t.2.1,t.2.2)
theorem Aek {X:Cx}{pins:List (Addr × Obj)}{σ:St}{H:Hp}{s:Shared} (I:Inv X pins σ H s):∀ts:List Dpt,(∀t∈ts,SqT X.K H t.1 [.int t.2.1,t.2.2])->
 ∃G:List (Key × Value),KV (ts.map dK) G/\∀(j:Nat) it q,(ts.map fun t=>Value.ref t.1)[j]? =some it->G[j]? =some q->∃p o n J,it= .ref p/\s.heap.get? p=some o/\o.cls= .type "tuple"/\o.data= .seq #[J,q.2] n/\(Bs X.prog X.w).is q.1 J=true
 | [],_=>⟨[],.nil,fun j it q h=>by simp at h⟩
 | t::r,h=>by
   obtain⟨G,J,L⟩:=Aek I r fun u M=>h u (.tail _ M)
   obtain⟨O,U,⟨o,e,c,n,W⟩,_⟩:=I.tuple (h t (.head _))
   cases U with
   | cons Z r'=>
     cases r' with
     | cons r2 r3=>
       cases r3
       rename_i u1 u2
       refine⟨(.inl t.2.1,u2)::G,.cons ⟨rfl,r2⟩ J,fun j it q h1 h2=> ?_⟩
       cases j with
       | zero=>
         simp only [aU,eT,jY]at h1 h2
         subst h1 h2
         exact⟨t.1,o,n,u1,rfl,e,c,W,Xh (k:= .inl t.2.1) Z⟩
       | succ j=>exact L j it q (by simpa using h1) (by simpa using h2)
theorem W6 (hc:X.calm=true):Gv X (.type "dict") (fun xs H Q=>∃(l:Addr) (ts:List Dpt),xs=[.ref l]/\H l=some (.lst (ts.map fun t=>V.ref t.1))/\(∀t∈ts,SqT X.K H t.1 [.int t.2.1,t.2.2])/\(ts.map fun t=>t.2.1).Nodup/\
 ∀p,H p=none->Q (.ref p) (upd H p (.dK (ts.map dK)))):=by
 intro pins s σ H xs us Q I r h
 obtain⟨l,ts,rfl,hl,hp,nd,q⟩:=h
 obtain⟨u,rfl,ru⟩:=vals1 r
 cases ru
 obtain⟨z,J,n,rv,hz,e⟩:=I.lstM hl
 have ev:J=ts.map fun t=>Value.ref t.1:=by
  have:=U6 (as:=ts.map fun t=>t.1) (us:=J) (by simpa [aK,gJ]using rv)
  simpa [aK,gJ]using this
 obtain⟨O,W,hv⟩:=Aek I ts hp
 have lv:(ts.map dK).length=O.length:=W.length
 rw [aB]at lv
 have li:J.length=ts.length:=by rw [ev,aB]
 have zt:ts.length<=sizeLine:=by rw [aB]at z;exact z
 have ll:l<s.heap.objs.size:=aM e
 have hh:X.A.handled=none:=I.ok.hd hc
 refine callType_codes (Q₁:=fun obj M=>obj= .ref s.heap.objs.size/\M={ s with heap:=s.heap.push { cls:= .type "dict",data:= .dict #[]}}) F.kt_called_dict (F.kt_typeCall_dict_1 _) F.entry_dict_init (kt_code_dict_new _ ⟨rfl,rfl⟩) ?_
 rintro obj M ⟨rfl,rfl⟩
 have L:(s.heap.push { cls:= .type "dict",data:= .dict #[]}).DictOf (Bs X.prog X.w) s.heap.objs.size []:=Heap.DictOf.new s.heap
 have e1:(s.heap.push { cls:= .type "dict",data:= .dict #[]}).get? l=some (seqObj "list" J.toArray n):=aC _ e
 refine⟨L.typeIs,F.args_dict_init_2 _ _,?_⟩
 unfold Builtin.«dict.__init__»
 refine aA ?_
 unfold Builtin.Dict.selfAndRest
 refine aA (wpAny_notOrdered_dict L.typeIs ?_)
 show wpAny _ _ (pure (s.heap.objs.size,[Value.ref l])) _ _ _
 refine aE ?_
 show wpAny _ _ (Builtin.Dict.updateFrom "dict.__init__" s.heap.objs.size (.ref l) [] .none) _ _ _
 unfold Builtin.Dict.updateFrom
 have a2:Shared.TypeIs { s with heap:=s.heap.push { cls:= .type "dict",data:= .dict #[]}} (.ref l) "list":=⟨_,e1,rfl⟩
 refine aA (wpAny_typeOf a2 ?_)
 rw [aI (by decide)]
 obtain⟨G,g0,d0,a5,a6⟩:=s
 refine aA (Aag (by simpa using hh) e1 fun h' tk kp=> ?_)
 rw [aI (show(none:Option Value).isNone=true from rfl)]
 refine aA (jL ?_)
 have e2:=kp _ _ e1
 have Z:h'.IsList l J.toArray:=⟨_,e2,rfl,n,rfl⟩
 have a0:h'.DictOf (Bs X.prog X.w) G.objs.size []:=by
  obtain⟨o,es,ep,g,r⟩:=L
  exact⟨o,es,ep,kp _ _ g,r⟩
 have U:G.objs.size<h'.objs.size:=by
  obtain⟨o,es,ep,g,r⟩:=a0
  exact aM g
 refine aA (gS Z ?_)
 have old:∀b o,G.get? b=some o->h'.get? b=some o:=fun b o eb=>kp b o (aC _ eb)
 refine aE ⟨Code.quiet_builtin _ (by decide+kernel),?_⟩
 refine Ac6 (l:=l) (items:=J.toArray) (vs:=O) (by simpa using hh) (aV (aM e2)) (aV U) (eI ll) (by rw [aR];omega) (by omega) O.length 0 _ (by omega) ⟨_,aN _ rfl,rfl,rfl⟩ (Z.push _) ?_ (fun j it kx hj hk=> ?_) fun h3 a3 a1 a4=> ?_
 . obtain⟨o,es,ep,g,r⟩:=a0
   exact⟨o,es,ep,aC _ g,r⟩
 . obtain⟨p,o,m,W,rfl,ho,r1,r2,r3⟩:=hv j it kx (by rw [<-ev];simpa using hj) hk
   have lp:p<G.objs.size:=aM ho
   exact⟨p,o,m,W,rfl,aC _ (old p o ho),r1,r2,r3,aV lp,aV (lt_trans lp U)⟩
 . refine⟨rfl,.ref G.objs.size,_,I.laid (a:=G.objs.size) (t':=a3) (o:= .dK (ts.map dK)) (fun b o eb=> ?_) (aH _) ⟨by rw [aB];exact zt,?_,O,W,?_⟩,rfl,q _ (I.hok.fresh (aH _))⟩
   . have lb:b<G.objs.size:=aM eb
     exact a4 b o (aV (lt_trans lb U)) (aV lb) (aC _ (old b o eb))
   . exact jH.mpr (cS (aV I.big))
   . have nv:(O.map (·.1)).Nodup:=by
      rw [<-W.keysL,aK]
      refine bC.mpr ((bC.mp nd).imp fun h z=>h ?_)
      exact fJ z
     rw [merged_nil_of_nodup O nv]at a1
     exact a1
theorem W7 (hc:X.calm=true):Gv X (.builtin "max") (fun xs H Q=>∃(d:Addr) (kvs:List (Key × V)) (ns:List Int),xs=[.ref d]/\H d=some (.dK kvs)/\kvs.map (·.1)=ns.map Sum.inl/\ns≠ []/\∀M,M∈ns->(∀x∈ns,x<=M)->Q (.int M) H):=by
 intro pins s σ H xs us Q I r h
 obtain⟨d,kvs,ns,rfl,hd,hk,ne,q⟩:=h
 obtain⟨u,rfl,ru⟩:=vals1 r
 cases ru
 obtain⟨hz,lo,J,a0,dd⟩:kvs.length<=sizeLine/\(d==sysModules)=false/\∃J,KV kvs J/\s.heap.DictOf (Bs X.prog X.w) d J:=I.hok d _ hd
 obtain⟨ep,L⟩:=dd.dictAt
 have ek:J.map (·.1)=ns.map Sum.inl:=by rw [<-a0.keysL,hk]
 have hn:J.length=ns.length:=by
  have:=bK length ek
  simpa using this
 have O:=kdl_dict (prog:=X.prog) (w:=X.w) (knd:=Bs X.prog X.w) (kvs:=J) (ep:=ep) lo
 obtain⟨oI,St,a1,W,a2⟩:=O.iter X.A.in1 s (I.ok.hd hc) L
 have ld:=(O.there _ L).2
 refine call_max_walk (a1 _ _ ?_)
 have U:∀i v,(∃k x,J[i]? =some (k,x)/\(Bs X.prog X.w).is k v=true)->∃t,v= .int (ns.getD i 0) t:=fun i v hv=>by
  obtain⟨k,x,hx,hv⟩:=hv
  have Z:(J.map (·.1))[i]? =some k:=by rw [aZ,hx];rfl
  rw [ek,aZ]at Z
  obtain⟨i',hi,rfl⟩:=iF.mp Z
  obtain⟨t,rfl⟩:=kX (k:=i') (v:=v) hv
  exact⟨t,by rw [aP,hi];rfl⟩
 have n0:0<ns.length:=eA.mpr ne
 refine⟨_,_,_,_,_,_,_,rfl,W,a2,fun c G=> ?_,by omega,CmpOf.ints_gt (fun i=>ns.getD i 0) U,fun v h' tk hP a3=> ?_⟩
 . show c<(s.heap.push _).objs.size
   rw [dO]
   rcases aQ.mp G with rfl | G
   . exact iQ _
   . rcases aQ.mp G with rfl | G
     . exact bP ld
     . cases G
 . obtain⟨t,rfl⟩:=U _ _ hP
   obtain⟨h1,h2⟩:=argBest_gt (fun i=>ns.getD i 0) (J.length-1)
   refine⟨.int _,H,I.kept fun c o e=>a3 c o (fun hm=> ?_) (aC _ e),⟨t,rfl⟩,q (ns.getD (argBest (fun i j=>decide (ns.getD i 0>ns.getD j 0)) (J.length-1)) 0) (getD_mem (by omega)) fun x hx=> ?_⟩
   . rcases aQ.mp hm with Z | hm
     . exact absurd (aM e) (by rw [Z];exact dD _)
     . cases hm
   . obtain⟨j,hj,rfl⟩:=mem_getD hx
     exact h2 j (by omega)
variable {td:TE}{Q:VK}
theorem Ahy {ty:TE}:Abt td ty σ H Q=td σ H fun x H1=>∃a,x= .ref a/\IsD H1 a/\ty σ H1 fun y H2=>∃kvs k v,H2 a=some (.dK kvs)/\y=kV k/\Fe kvs k=some v/\Q v (upd H2 a (.dK (Jp kvs k))):=rfl
theorem S.Qw:∀ {X:Cx}{o e:Expr}{apos cpos:Pos}{td ty:TE},Bq X o td->Bq X e ty->M1 X o (("pop":Str)) apos e cpos->Bq X (Expr.Call (Expr.Attribute o (("pop":Str)) apos) [e] [] cpos) (Abt td ty):=by with_unfolding_all exact @L2.Qw
open PySem PySem.SeqAt PySem.Spec PyProof.Rows
noncomputable def Aha (K:Frag):V->List V->Hp->VK->Prop:=fun x vs H Q=>∃(l:Addr) (xs:List V) (y:V) (j:Nat),x= .ref l/\vs=[y]/\SqT K H l xs/\Mf y=true/\xs.all Mf=true/\(∃z,xs[j]? =some z/\eqV z y=true)/\(∀i z,i<j->xs[i]? =some z->eqV z y=false)/\Q (.int (j:Nat)) H
theorem Amp {M:Model}{A:Around}{E:Value->Shared->Prop}{β:Type}{b:Nat}{f:Nat->β->Sem (ForInStep β)} (J:Nat->β->Shared->Prop) {Q:β->Shared->Prop}
 (q:∀i c s,i<b->J i c s->wpAny M A (f i c) (fun r s'=>match r with | .done G=>Q G s' | .yield G=>J (i+1) G s') E s) (L:∀c s,J b c s->Q c s) {c:β}{s:Shared} (h:J 0 c s):wpAny M A (forIn [0:b] c f) Q E s:=by
 rw [Std.Legacy.Range.forIn_eq_forIn_range']
 have O:([0:b]:Std.Legacy.Range).size=b:=by simp [Std.Legacy.Range.size]
 show wpAny M A (forIn (range' 0 ([0:b]:Std.Legacy.Range).size 1) c f) Q E s
 rw [O]
 have:∀(k i:Nat) (c:β) (s:Shared),i+k=b->J i c s->wpAny M A (forIn (range' i k 1) c f) Q E s:=by
  intro k
  induction k with
  | zero=>
    intro i c s e h
    rw [List.range'_zero,jR]
    exact aE (L c s (by rw [<-e];exact h))
  | succ k W=>
    intro i c s e h
    rw [range'_succ,hG]
    refine aA (cT (q i c s (by omega) h) (fun r s' U=> ?_) fun _ _ e=>e)
    cases r with
    | done G=>exact aE U
    | yield G=>exact W (i+1) G s' (by omega) U
 exact this b 0 c s (by omega) h
theorem Wx {y:V}:∀ {xs:List V}{us:List Value} (r:Vals xs us),xs.all Mf=true->∀i (hi:i<us.length),eqU y us[i]=eqV (xs[i]'(by rw [r.length];exact hi)) y
 | _,_,.cons r t,f,0,_=>by
   rw [iY,cM]at f
   exact Zu r f.1
 | _,_,.cons r t,f,i+1,hi=>by
   rw [iY,cM]at f
   exact Wx t f.2 i (by simpa using hi)
theorem Aaq:MtM X "tuple.index" (Aha X.K):=by
 intro pins s σ H x vs v us Q I rx rv h
 obtain⟨l,xs,y,j,rfl,rfl,hS,fy,fx,⟨z,U,ez⟩,W,q⟩:=h
 cases rx
 obtain⟨u,rfl,ru⟩:=rv.one
 obtain⟨G,r,pl,a0⟩:=I.tuple hS
 have hm:∀w∈G,EqAt X.A.in1 s w u (eqU y w):=Jd ru fy r fx
 obtain⟨o,Z,hc,n,hd⟩:=id pl
 have hT:s.TypeIs (.ref l) "tuple":=⟨o,Z,hc⟩
 refine cN PySem.F.slot_tuple_index hT PySem.F.entry_tuple_index ?_ (PySem.F.args_tuple_index_2 _ _)
 unfold Builtin.«tuple.index»
 refine aA (wpAny_of_eq (a:=(Value.ref l,[u])) rfl ?_)
 dsimp only
 refine aA ?_
 unfold Builtin.Tuple.tupleItemsOf
 refine aA (dZ Z hd (aE ?_))
 refine aA (aE (aA (aE ?_)))
 rw [Nat.min_self]
 have lx:xs.length=G.length:=r.length
 have jl:j<G.length:=by
  rw [<-lx]
  exact(bL.mp U).1
 have ev:∀i (hi:i<G.length),eqU y G[i]=eqV (xs[i]'(by omega)) y:=fun i hi=>Wx r fx i hi
 refine aA (cT (Amp (J:=fun i c s'=>c=(none,())/\s'=s/\i<=j) (Q:=fun c s'=>∃L,c=(some L,())/\L=PySem.Fin.done (Flow.ret (.int (j:Nat) s.toks))/\s'={ s with toks:=s.toks+1}) ?_ ?_ ⟨rfl,rfl,bO _⟩) ?_ fun _ _ e=>e)
 . rintro i c s' hi ⟨rfl,rfl,M⟩
   rw [aR]at hi
   have e:G.toArray[i]? =some G[i]:=by simp [hi]
   rw [e]
   dsimp only
   have O:i<xs.length:=by omega
   refine aA (hm G[i] (cE hi) _ _ _ _ ?_)
   rw [ev i hi]
   by_cases c:i=j
   . subst c
     rw [aG O]at U
     rw [bE U,ez,aI rfl]
     unfold retInt
     refine aA (aA (wpAny_mkInt (aE (aE ⟨_,rfl,rfl,rfl⟩))))
   . rw [W i _ (by omega) (aG O),aF (by simp)]
     exact aE ⟨rfl,rfl,by omega⟩
 . rintro c s' ⟨rfl,rfl,M⟩
   rw [aR]at M
   omega
 . rintro c s' ⟨L,rfl,rfl,rfl⟩
   exact aE ⟨_,rfl,.int (j:Nat),H,I.tok _,⟨_,rfl⟩,q⟩
theorem Agn {κ:Type}{p:κ × V}{q:κ × Value}{l:List (κ × V)}{m:List (κ × Value)} (r:KV l m):∀i:Nat,l[i]? =some p->m[i]? =some q->p.1=q.1/\RelV p.2 q.2:=by
 unfold KV at r
 induction r with
 | nil=>intro i e;simp at e
 | cons h _ G=>
   intro i a b
   cases i with
   | zero=>
     simp only [eT,jY]at a b
     subst a b
     exact h
   | succ i=>exact G i (by simpa using a) (by simpa using b)
variable {prog:Program}{w:World}
theorem pairs_at {e:DictEntry}{q:Key × Value}{l:List DictEntry}{m:List (Key × Value)} (r:Pairs (Bs prog w) l m):∀i:Nat,l[i]? =some e->m[i]? =some q->(Bs prog w).is q.1 e.key=true/\e.val=q.2:=by
 induction r with
 | nil=>intro i e;simp at e
 | cons h1 h2 _ G=>
   intro i a b
   cases i with
   | zero=>
     simp only [eT,jY]at a b
     subst a b
     exact⟨h1,h2⟩
   | succ i=>exact G i (by simpa using a) (by simpa using b)
noncomputable def Alw (d:Addr) (od:Obj) (kvs:List (Key × V)):It:=
 ⟨fun i H=>H d=some (.frz od (.dK kvs))/\i<kvs.length,
  fun i H x H'=>∃p k v,kvs[i]? =some (k,v)/\H p=none/\x= .ref p/\H'=upd H p (.tup [kV k,v]),
  fun i H=>H d=some (.frz od (.dK kvs))/\kvs.length<=i⟩
theorem Ab4 {P:Program}{w:World}{K:Frag}{el:List Expr}{x1}{tp:Pos} (d it:Addr) (Z:Obj) (es:Array DictEntry) (ep:Nat) (kvs:List (Key × V)) (L:Z.data= .dict es ep) (hz:es.size=kvs.length) (a9:it≠d) (a5:∀p∈kvs,∃i,p.1=Sum.inl i):
 Turn P w K (.Tuple el x1 tp) (Alw d Z kvs) [it] it (fun i h=>∃ok M,IsItemIter h it d i es.size ep ok M) where
 mem:=by simp
 obj:=fun i h st c hc=>by
  obtain⟨ok,M,hi⟩:=st
  obtain rfl:c=it:=by simpa using hc
  exact⟨_,hi,fun v z=>by cases(show Data.fields _=Data.cell v from z)⟩
 keep:=fun i h h' st k=>by
  obtain⟨ok,M,hi⟩:=st
  exact⟨ok,M,k it (by simp) _ hi⟩
 item:=by
  intro X hP hw hK hc i pins s σ H E I hf st hg
  subst hP hw hK
  obtain⟨hd,hi⟩:=hg
  obtain⟨ok,M,G⟩:=st
  obtain⟨e1,z,y,xs,r,o,a6,a7,h1,h2,h3,h4,h5,h6⟩:=(show Dk X.prog X.w H s.heap d (.frz Z (.dK kvs))from I.hok d _ hd)
  have eo:o=Z:=bE (h1.symm.trans e1)
  subst eo
  rw [L]at h3
  obtain⟨rfl,rfl⟩:es=a6/\ep=a7:=by
   injection h3 with a b
   exact⟨a,b⟩
  have hx:i<xs.length:=by rw [<-KV.length r];exact hi
  obtain⟨q,hq⟩:∃q,xs[i]? =some q:=⟨_,aG hx⟩
  obtain⟨p,hp⟩:∃p,kvs[i]? =some p:=⟨_,aG hi⟩
  obtain⟨e,he⟩:∃e,es[i]? =some e:=⟨_,eN (by rw [hz];exact hi)⟩
  have a0:p.1=q.1/\RelV p.2 q.2:=Agn r i hp hq
  have J:(Bs X.prog X.w).is q.1 e.key=true/\e.val=q.2:=pairs_at h5 i (by rw [<-eC]at he;exact he) hq
  obtain⟨n,en⟩:=a5 p (dR hp)
  obtain⟨tk,ek⟩:∃t,e.key= .int n t:=by
   have:=J.1
   rw [<-a0.1,en]at this
   exact kX (k:=n) (v:=e.key) this
  have rk:RelV (kV p.1) e.key:=by
   rw [en,ek]
   exact⟨tk,rfl⟩
  have rv:RelV p.2 e.val:=by rw [J.2];exact a0.2
  refine Vw G h1 L he fun h' a1 a2 a3 hk=>⟨_,rfl,?_⟩
  refine wpAny_letOwnedTupleGo_items a1 fun g2 a8 O=> ?_
  replace O:Heap.SameBut it h' g2:=O
  have lt:it≠s.heap.objs.size:=aV (aM G)
  have hn:H s.heap.objs.size=none:=I.fresh
  have I1:Inv X pins σ (upd H s.heap.objs.size (.tup [kV p.1,p.2])) { s with heap:=s.heap.push { cls:= .type "tuple",data:= .seq #[e.key,e.val]},toks:=s.toks}:=
   I.laid (fun b o q=>aC _ q) (aH _) ⟨by show 2<=sizeLine;decide,[e.key,e.val],.cons rk (.cons rv .nil),⟨_,aN _ rfl,rfl,_,rfl⟩⟩
  have a4:∀b∈ [it],P0 X pins (upd H s.heap.objs.size (.tup [kV p.1,p.2])) b:=fun b U=>by
   obtain rfl:b=it:=by simpa using U
   exact⟨by rw [Bm lt];exact(hf b (by simp)).1,(hf b (by simp)).2⟩
  have I2:=I1.turnL (h':=g2) (t':=s.toks) (fp:=[it]) (fun b o U q=>by
   have n1:b≠it:=fun e=>U (by simp [e])
   refine(O.2 b n1).trans ?_
   rcases jU q with⟨rfl,rfl⟩ | q0
   . exact a2
   . exact hk b o n1 q0) a4
  exact⟨.ref s.heap.objs.size,_,I2,rfl,⟨_,p.1,p.2,hp,hn,rfl,rfl⟩,⟨_,_,a8⟩,fun b U=>(a4 b U).1⟩
 done:=by
  intro X hP hw hK hc i pins s σ H E I hf st hg
  subst hP hw hK
  obtain⟨hd,hi⟩:=hg
  obtain⟨ok,M,G⟩:=st
  obtain⟨e1,_⟩:=(show Dk X.prog X.w H s.heap d (.frz Z (.dK kvs))from I.hok d _ hd)
  exact Aab (I.ok.hd hc) G e1 L (by omega) fun g hk=>⟨rfl,I.turnL (t':=s.toks) (fp:=[it]) (fun b o U q=>hk b o (fun e=>U (by simp [e])) q) hf⟩
 self:=fun A i s Q E st h=>by
  obtain⟨ok,M,hi⟩:=st
  exact kcp_self hi h
noncomputable def Ue (td:TE):TI:=fun σ H R=>td σ H fun x H1=>∃a kvs,x= .ref a/\H1 a=some (.dK kvs)/\(∀p∈kvs,∃i,p.1=Sum.inl i)/\∀od,R (Alw a od kvs) (upd H1 a (.frz od (.dK kvs)))
theorem Nm {X:Cx}{o:Expr}{td:TE}{el:List Expr}{x1}{tp apos cpos:Pos} (ho:PE X o td) (m:M0 X o "items" apos cpos):PI X (.Tuple el x1 tp) (.Call (.Attribute o "items" apos) [] [] cpos) (Ue td):=by
 intro pins s σ H R I h
 refine kW m.base m.few m.line iC iB PySem.F.type_dict_items (thn (ho pins s σ H _ I h) fun u G ⟨x,H1,L,rx,a,kvs,ex,e,O,q1⟩=> ?_)
 subst ex
 obtain rfl:u=Value.ref a:=rx
 obtain⟨U,t2,hd⟩:=Vv L (.inl ⟨kvs,.inl e⟩)
 refine⟨U,t2,?_⟩
 rw [m.trees]
 refine fH rfl (PySem.evalArgs_none ?_)
 obtain⟨z,y,xs,r,J,es,ep,h1,h2,W,h4,Z,h6⟩:=(show Dk X.prog X.w H1 G.heap a (.dK kvs)from L.hok a _ e)
 refine call_meetsIn iB U PySem.F.entry_dict_items (PySem.F.args_dict_items_1 _) (Vy a hd) ⟨U,?_⟩
 have hz:es.size=kvs.length:=by
  have:=Pairs.length Z
  rw [bJ]at this
  rw [this,KV.length r]
 have M:(G.heap.push { cls:= .type "dict_items",data:= .fields #[.ref a]}).get? a=some J:=aC _ h1
 refine Vx (s:={ G with heap:=G.heap.push { cls:= .type "dict_items",data:= .fields #[.ref a]}}) (d:=a) ⟨_,aN _ rfl,rfl,rfl⟩ M W ?_
 have al:a<G.heap.objs.size:=aM h1
 have sz:(G.heap.push { cls:= .type "dict_items",data:= .fields #[.ref a]}).objs.size=G.heap.objs.size+1:=dO ..
 have I2:Inv X pins σ (upd H1 a (.frz J (.dK kvs))) { G with heap:=(G.heap.push { cls:= .type "dict_items",data:= .fields #[.ref a]}).push { cls:= .type "dict_itemiterator",data:= .fields #[.none,.bool false,.ref a,.int 0 0,.int es.size 0,.int ep 0,.none,.none]},toks:=G.toks}:=
  L.write (x:=a) (e:=a) (by rw [e];exact True.intro) (.inl rfl) (fun b u _ q=>aC _ (aC _ q)) ⟨J,aC _ M⟩
   ⟨aC _ M,z,y,xs,r,J,es,ep,aC _ M,h2,W,h4,Z,h6⟩
 refine⟨(G.heap.push { cls:= .type "dict_items",data:= .fields #[.ref a]}).objs.size,[(G.heap.push { cls:= .type "dict_items",data:= .fields #[.ref a]}).objs.size],_,_,_,rfl,I2,Ab4 a _ J es ep kvs W hz (by rw [sz];exact eI (bP al)) O,⟨.none,.none,aN _ rfl⟩,fun c hc=> ?_,q1 J⟩
 have ec:c=G.heap.objs.size+1:=by
  rw [sz]at hc
  simpa using hc
 subst ec
 refine L.fpOk (fV _) ?_
 rw [Bm (eI (bP al))]
 exact L.hok.fresh (fV _)
theorem Ack {R:It->Hp->Prop}:Ue td σ H R=td σ H (fun x H1=>∃a kvs,x= .ref a/\H1 a=some (.dK kvs)/\(∀p∈kvs,∃i,p.1=Sum.inl i)/\∀q,R (Alw a q kvs) (upd H1 a (.frz q (.dK kvs)))):=rfl
theorem W8 {d:Addr}{od:Obj}{kvs:List (Key × V)}{H1:Hp}{p:Addr}{cσ:St}{g:TG}{tt:TT}{te:TE}{Q:VK} (pf:Key × V->Bool) (L:Key × V->V->Hp->Prop)
 (mono:∀e v H H',L e v H->Same H H'->L e v H') (put:∀e v H ys zs,L e v H->H p=some (.lst ys)->L e v (upd H p (.lst zs))) (hz:kvs.length<=sizeLine) (hp:H1 p=none) (hd:H1 d=some (.frz od (.dK kvs)))
 (step:∀(e:Key × V) (H':Hp) (q:Addr) (R:VK) (RF:Hp->Prop),e∈kvs->Same H1 H'->H' q=some (.tup [kV e.1,e.2])->(pf e=true->∀v J,Same H' J->L e v J->R v J)->(pf e=false->∀J,Same H' J->RF J)->
   g (.ref q) cσ H' fun M H4=>Kp cσ M/\tt M H4 fun b H5=>if b=true then te M H5 R else RF H5)
 (a0:∀H' (vs:List (V × (Key × V))),Same H1 H'->H' p=some (.lst (vs.map (·.1)))->vs.map (·.2)=kvs.filter pf->(∀x∈vs,L x.2 x.1 H')->Q (.ref p) H'):cIn (Alw d od kvs) cσ g tt te Q H1 p:=by
 have su:∀ {H':Hp}{o:HO},Same H1 H'->Same H1 (upd H' p o):=fun {H' o} s b u e=>by
  rw [Bm (Bg e hp)]
  exact s b u e
 refine⟨fun i m O H'=>∃vs:List (V × (Key × V)),m=kvs.length-i/\i<=kvs.length/\O=vs.map (·.1)/\vs.map (·.2)=(kvs.take i).filter pf/\(∀x∈vs,L x.2 x.1 H')/\H' p=some (.lst O)/\Same H1 H',⟨kvs.length,[],by simp,bO _,rfl,by simp,by simp,Ag,su (Same.refl _)⟩,?_⟩
 rintro i m O H' ⟨vs,rfl,hi,rfl,hv,hr,hH,s⟩
 cases he:kvs[i]? with
 | none=>
   have e:i=kvs.length:=fI hi (cC.mp he)
   subst e
   rw [fT]at hv
   exact .inl ⟨⟨s _ _ hd,aH _⟩,a0 _ vs s hH hv hr⟩
 | some e=>
   obtain⟨U,_⟩:=bL.mp he
   refine .inr ⟨⟨s _ _ hd,U⟩,fun x H3 y=> ?_⟩
   obtain⟨q,k,v,hk,hq,rfl,rfl⟩:=y
   rw [he]at hk
   obtain rfl:e=(k,v):=bE hk
   have sq:=Same.upd hq (.tup [kV k,v])
   have tk:kvs.take (i+1)=kvs.take i++ [(k,v)]:=by rw [iH,he];rfl
   have fl:vs.length<=i:=by
    have h1:=bK length hv
    rw [aB]at h1
    rw [h1]
    exact aO (dM _ _) (by rw [bT];omega)
   refine step (k,v) (upd H' q (.tup [kV k,v])) q _ _ (dR he) (s.trans sq) Ag (fun W v' J G r6=>⟨G _ _ (sq _ _ hH),by rw [aB];omega,_,by omega,vs++ [(v',(k,v))],rfl,U,by rw [aJ];rfl,?_,?_,Ag,su ((s.trans sq).trans G)⟩)
    (fun W J G=>⟨_,by omega,vs,rfl,U,rfl,?_,fun x Z=>mono _ _ _ _ (hr x Z) (sq.trans G),G _ _ (sq _ _ hH),(s.trans sq).trans G⟩)
   . rw [tk,fE,aJ,hv]
     simp [W]
   . intro x Z
     rcases bG.mp Z with Z | Z
     . exact put _ _ _ _ _ (mono _ _ _ _ (hr x Z) (sq.trans G)) (G _ _ (sq _ _ hH))
     . have:x=(v',(k,v)):=by simpa using Z
       rw [this]
       exact put _ _ _ _ _ r6 (G _ _ (sq _ _ hH))
   . rw [tk,fE,hv]
     simp [W]
theorem S.Nm:∀ {X:Cx}{o:Expr}{td:TE}{el:List Expr}{x1:Nat}{tp apos cpos:Pos},Bq X o td->M0 X o (("items":Str)) apos cpos->Lz X (Expr.Tuple el x1 tp) (Expr.Call (Expr.Attribute o (("items":Str)) apos) [] [] cpos) (Ue td):=by with_unfolding_all exact @L2.Nm
end L2
noncomputable abbrev zC:List PySem.Str:=["_law_one","_law_two","_law_name","_law_here","_law_found"]
noncomputable abbrev zD:List PySem.Str:=["_law_f","_law_here","_law_others","_law_found","_law_top_here","_law_powers","_law_weight_here","_law_k","_law_turn"]
noncomputable abbrev zE:List PySem.Str:=["f","g"]
noncomputable abbrev zF:List PySem.Str:=["_law_draws_here","_law_most"]
noncomputable abbrev zG:List PySem.Str:=["f","place"]
noncomputable abbrev zH:List PySem.Str:=["_law_script","_law_one","_law_two","_law_draws_here","_law_here","_law_name","_law_kind","_law_factor","_law_others","_law_found","_law_third","_law_first","_law_second"]
noncomputable abbrev zI:List PySem.Str:=["_law_draws_here","_law_many","_law_most"]
noncomputable abbrev zJ:List PySem.Str:=["thing"]
noncomputable abbrev zK:List PySem.Str:=["_law_f","_law_here","_law_others"]
noncomputable abbrev zN:List PySem.Str:=["f","g","place"]
noncomputable abbrev zO:List PySem.Str:=["_law_powers","_law_weight_here","_law_here"]
noncomputable abbrev zP:List PySem.Str:=["first","second","known","place"]
noncomputable abbrev zQ:List PySem.Str:=["_law_powers","_law_weight_here"]
noncomputable abbrev zR:List PySem.Str:=["f","place","many"]
noncomputable abbrev zS:List PySem.Str:=["_law_f","_law_here"]
noncomputable abbrev zT:List PySem.Str:=["_law_script","_law_k"]
noncomputable abbrev zU:List PySem.Str:=["powers","weight"]
noncomputable abbrev zV:List PySem.Str:=["_law_terms_here"]
noncomputable abbrev zW:List PySem.Str:=["_law_cell","_law_many"]
noncomputable abbrev zX:List PySem.Str:=["f","g","name","paper"]
noncomputable abbrev zY:List PySem.Str:=["_law_one","_law_two","_law_lead","_law_factor","_law_far","_law_k","_law_weight_here"]
noncomputable abbrev zZ:List PySem.Str:=["_law_f","_law_g"]
noncomputable abbrev yA:List PySem.Str:=["place","many"]
noncomputable abbrev yB:List PySem.Str:=["_law_one","_law_two"]
noncomputable abbrev yC:List PySem.Str:=["powers","place"]
noncomputable abbrev yD:List PySem.Str:=["_law_script"]
noncomputable abbrev yE:List PySem.Str:=["f","number"]
noncomputable abbrev yF:List PySem.Str:=["f","base"]
noncomputable abbrev yG:List PySem.Str:=["_law_draws_here"]
noncomputable abbrev yH:List PySem.Str:=["sums","base"]
noncomputable abbrev yI:List PySem.Str:=["_law_height","_law_weight_here"]
noncomputable abbrev yJ:List PySem.Str:=["_law_terms_here","_law_found","_law_powers","_law_weight_here"]
noncomputable abbrev yK:List PySem.Str:=["f","g","name"]
noncomputable abbrev yL:List PySem.Str:=["f","g","name","paper","place","found","a","b"]
noncomputable abbrev yM:List PySem.Str:=["f","many"]
noncomputable abbrev yN:List PySem.Str:=["name"]
namespace Z
noncomputable abbrev M3:=Nat × Nat × Nat
noncomputable def m3 (x y:M3):M3:=(x.1+y.1,x.2.1+y.2.1,x.2.2+y.2.2)
theorem Ao4 (x y:M3):m3 x y=m3 y x:=by unfold m3;ext<;>simp<;>omega
theorem Apx (x y z:M3):m3 (m3 x y) z=m3 x (m3 y z):=by unfold m3;ext<;>simp<;>omega
variable {x y:M3}
theorem Apy {z:M3} (h:m3 x y=m3 x z):y=z:=by
 unfold m3 at h
 simp only [iX]at h
 obtain⟨a,b,c⟩:=y
 obtain⟨q,G,J⟩:=z
 simp only [iX]
 simp only at h
 omega
noncomputable abbrev Tl:=List (M3 × Int)
noncomputable def tot:Tl->M3->Int
 | [],_=>0
 | e::r,k=>(if e.1=k then e.2 else 0)+tot r k
theorem Cj (a b:Tl) (k:M3):tot (a++b) k=tot a k+tot b k:=by
 induction a with
 | nil=>show tot b k=0+tot b k;omega
 | cons e r q=>
   show _+tot (r++b) k=(_+tot r k)+tot b k
   rw [q]
   omega
noncomputable def mt1 (x:M3 × Int) (b:Tl):Tl:=b.map fun y=>(m3 x.1 y.1,x.2*y.2)
noncomputable def mt (a b:Tl):Tl:=a.flatMap fun x=>mt1 x b
theorem Fw (x:M3 × Int) (a b:Tl):mt (x::a) b=mt1 x b++mt a b:=rfl
theorem Aap (x:M3 × Int) (a b:Tl):mt1 x (a++b)=mt1 x a++mt1 x b:=aJ
theorem Lg (x:M3 × Int) (k:M3):∀b:Tl,tot (mt1 x b) (m3 x.1 k)=x.2*tot b k
 | []=>by show(0:Int)=x.2*0;omega
 | y::r=>by
   show(if m3 x.1 y.1=m3 x.1 k then x.2*y.2 else 0)+tot (mt1 x r) (m3 x.1 k)=x.2*((if y.1=k then y.2 else 0)+tot r k)
   rw [Lg x k r,Int.mul_add]
   by_cases h:y.1=k
   . rw [aI h,aI (by rw [h])]
   . rw [aF h,aF fun z=>h (Apy z),Int.mul_zero]
theorem Lh (x:M3 × Int) {k:M3} (h:∀j,m3 x.1 j≠k):∀b:Tl,tot (mt1 x b) k=0
 | []=>rfl
 | y::r=>by
   show(if m3 x.1 y.1=k then x.2*y.2 else 0)+tot (mt1 x r) k=0
   rw [Lh x h r,aF (h y.1)]
   rfl
theorem Abz {a b:Tl} (h:∀k,tot a k=tot b k) (x:M3 × Int) (k:M3):tot (mt1 x a) k=tot (mt1 x b) k:=by
 by_cases e:∃j,m3 x.1 j=k
 . obtain⟨j,rfl⟩:=e
   rw [Lg,Lg,h]
 . have q:∀j,m3 x.1 j≠k:=fun j z=>e ⟨j,z⟩
   rw [Lh x q,Lh x q]
theorem Af9 {a b:Tl} (h:∀k,tot a k=tot b k) (k:M3):∀c:Tl,tot (mt c a) k=tot (mt c b) k
 | []=>rfl
 | x::r=>by rw [Fw,Fw,Cj,Cj,Abz h,Af9 h k r]
theorem Qq (y:M3 × Int) (k:M3):∀a:Tl,tot (mt a [y]) k=tot (mt1 y a) k
 | []=>rfl
 | x::r=>by
   rw [Fw,Cj,Qq y k r]
   show(if m3 x.1 y.1=k then x.2*y.2 else 0)+0+tot (mt1 y r) k=(if m3 y.1 x.1=k then y.2*x.2 else 0)+tot (mt1 y r) k
   rw [Ao4,Int.mul_comm]
   omega
theorem V7:∀a:Tl,mt a []=[]
 | []=>rfl
 | x::r=>by rw [Fw,V7 r];rfl
theorem V5 (a b c:Tl) (k:M3):tot (mt a (b++c)) k=tot (mt a b) k+tot (mt a c) k:=by
 induction a with
 | nil=>rfl
 | cons x r q=>
   rw [Fw,Fw,Fw,Aap,Cj,Cj,Cj,Cj,q]
   omega
theorem Adh (a b c:Tl):mt (a++b) c=mt a c++mt b c:=jI
theorem Qp (k:M3) (b:Tl):∀a:Tl,tot (mt a b) k=tot (mt b a) k
 | []=>by rw [V7];rfl
 | x::r=>by
   rw [Fw,Cj,Qp k b r,show x::r=[x]++r from rfl,V5,Qq]
theorem Aeu (x:M3 × Int) (b:Tl):∀a:Tl,mt1 x (mt a b)=mt (mt1 x a) b
 | []=>rfl
 | y::r=>by
   rw [Fw,Aap,Aeu x b r]
   show _=mt1 (m3 x.1 y.1,x.2*y.2) b++mt (mt1 x r) b
   congr 1
   unfold mt1
   rw [aK]
   refine bR fun z _=> ?_
   show(m3 x.1 (m3 y.1 z.1),x.2*(y.2*z.2))=(m3 (m3 x.1 y.1) z.1,x.2*y.2*z.2)
   rw [Apx,iZ]
theorem V6 (b c:Tl):∀a:Tl,mt (mt a b) c=mt a (mt b c)
 | []=>rfl
 | x::r=>by rw [Fw,Adh,V6 b c r,Fw,Aeu]
noncomputable def ngT (a:Tl):Tl:=a.map fun y=>(y.1,-y.2)
theorem Ly (k:M3):∀a:Tl,tot (ngT a) k= -tot a k
 | []=>rfl
 | e::r=>by
   show(if e.1=k then-e.2 else 0)+tot (ngT r) k= -((if e.1=k then e.2 else 0)+tot r k)
   rw [Ly k r]
   split<;>omega
noncomputable def csT (c:Int):Tl:=[((0,0,0),c)]
theorem Amz (x:M3):m3 (0,0,0) x=x:=by unfold m3;simp
theorem S9 (c:Int) (k:M3) (a:Tl):tot (mt (csT c) a) k=c*tot a k:=by
 show tot (mt1 ((0,0,0),c) a++ []) k=_
 rw [cP]
 have:=Lg ((0,0,0),c) k a
 rwa [Amz]at this
noncomputable instance tlS:Setoid Tl:=⟨fun a b=>∀k,tot a k=tot b k,⟨fun _ _=>rfl,fun h k=>(h k).symm,fun h g k=>(h k).trans (g k)⟩⟩
noncomputable def Fq:Type:=Quotient tlS
noncomputable def fq (a:Tl):Fq:=Quotient.mk tlS a
theorem Gh {a b:Tl} (h:∀k,tot a k=tot b k):fq a=fq b:=Quotient.sound h
theorem Nf {a b:Tl} (h:fq a=fq b) (k:M3):tot a k=tot b k:=Quotient.exact h k
theorem Ez (x:Fq):∃a,x=fq a:=by
 induction x using Quotient.inductionOn with
 | h a=>exact⟨a,rfl⟩
noncomputable instance:Add Fq:=⟨Quotient.lift₂ (fun a b=>fq (a++b)) fun a b c d h g=>Gh fun k=>by rw [Cj,Cj,h k,g k]⟩
noncomputable instance:Mul Fq:=⟨Quotient.lift₂ (fun a b=>fq (mt a b)) fun a b c d h g=>Gh fun k=>by rw [Af9 g k a,Qp k d a,Af9 h k d,Qp k c d]⟩
noncomputable instance:Neg Fq:=⟨Quotient.lift (fun a=>fq (ngT a)) fun a b h=>Gh fun k=>by rw [Ly,Ly,h k]⟩
theorem Vq (a b:Tl):fq a+fq b=fq (a++b):=rfl
theorem O6 (a b:Tl):fq a*fq b=fq (mt a b):=rfl
theorem Z1 (a:Tl): -fq a=fq (ngT a):=rfl
noncomputable def cF (c:Int):Fq:=fq (csT c)
noncomputable instance:Sub Fq:=⟨fun a b=>a+ -b⟩
noncomputable instance:NatCast Fq:=⟨fun n=>cF n⟩
noncomputable instance:IntCast Fq:=⟨fun n=>cF n⟩
noncomputable instance (n:Nat):OfNat Fq n:=⟨cF n⟩
noncomputable def pwF (a:Fq):Nat->Fq
 | 0=>1
 | n+1=>pwF a n*a
noncomputable instance:HPow Fq Nat Fq:=⟨pwF⟩
noncomputable instance:SMul Nat Fq:=⟨fun n a=>cF n*a⟩
noncomputable instance:SMul Int Fq:=⟨fun n a=>cF n*a⟩
theorem Ot (x y:Fq):x*y=y*x:=by
 obtain⟨a,rfl⟩:=Ez x
 obtain⟨b,rfl⟩:=Ez y
 exact Gh fun k=>Qp k b a
theorem Dd (c:Int) (k:M3):tot (csT c) k=if(0,0,0)=k then c else 0:=by
 show(if((0,0,0):M3)=k then c else 0)+0=_
 omega
theorem Aiz (x:Fq):x*1=x:=by
 rw [Ot]
 obtain⟨a,rfl⟩:=Ez x
 exact Gh fun k=>by
  rw [S9]
  show(1:Int)*_=_
  omega
theorem Ac9 (x:Fq):0*x=0:=by
 obtain⟨a,rfl⟩:=Ez x
 exact Gh fun k=>by rw [S9,Dd];split<;>omega
theorem Aiy (x y z:Fq):x*(y+z)=x*y+x*z:=by
 obtain⟨a,rfl⟩:=Ez x
 obtain⟨b,rfl⟩:=Ez y
 obtain⟨c,rfl⟩:=Ez z
 exact Gh fun k=>by rw [V5,Cj]
noncomputable instance fqSemi:Lean.Grind.Semiring Fq where
 add_zero x:=by
  obtain⟨a,rfl⟩:=Ez x
  exact Gh fun k=>by rw [Cj,Dd];split<;>omega
 add_comm x y:=by
  obtain⟨a,rfl⟩:=Ez x
  obtain⟨b,rfl⟩:=Ez y
  exact Gh fun k=>by rw [Cj,Cj,fA]
 add_assoc x y z:=by
  obtain⟨a,rfl⟩:=Ez x
  obtain⟨b,rfl⟩:=Ez y
  obtain⟨c,rfl⟩:=Ez z
  exact Gh fun k=>by rw [Cj,Cj,Cj,Cj,Int.add_assoc]
 mul_assoc x y z:=by
  obtain⟨a,rfl⟩:=Ez x
  obtain⟨b,rfl⟩:=Ez y
  obtain⟨c,rfl⟩:=Ez z
  exact Gh fun k=>by rw [V6]
 mul_one:=Aiz
 one_mul x:=by rw [Ot,Aiz]
 left_distrib:=Aiy
 right_distrib x y z:=by rw [Ot,Aiy,Ot z x,Ot z y]
 zero_mul:=Ac9
 mul_zero x:=by rw [Ot,Ac9]
 pow_zero x:=rfl
 pow_succ x n:=rfl
 ofNat_succ n:=Gh fun k=>by
  rw [Cj,Dd,Dd,Dd]
  split<;>omega
noncomputable instance fqRing:Lean.Grind.Ring Fq where
 neg_add_cancel x:=by
  obtain⟨a,rfl⟩:=Ez x
  exact Gh fun k=>by rw [Cj,Ly,Dd];split<;>omega
 sub_eq_add_neg x y:=rfl
 neg_zsmul c x:=by
  obtain⟨a,rfl⟩:=Ez x
  exact Gh fun k=>by rw [Ly,S9,S9];grind
 intCast_neg c:=Gh fun k=>by
  rw [Ly,Dd,Dd]
  split<;>omega
noncomputable instance fqComm:Lean.Grind.CommRing Fq where
 mul_comm:=Ot
noncomputable def n1:Tl->Nat
 | []=>0
 | e::r=>e.2.natAbs+n1 r
theorem Aev (a b:Tl):n1 (a++b)=n1 a+n1 b:=by
 induction a with
 | nil=>show n1 b=0+n1 b;omega
 | cons e r q=>
   show _+n1 (r++b)=(_+n1 r)+n1 b
   rw [q]
   omega
theorem Aew (x:M3 × Int):∀b:Tl,n1 (mt1 x b)=x.2.natAbs*n1 b
 | []=>by show 0=_*0;omega
 | y::r=>by
   show(x.2*y.2).natAbs+n1 (mt1 x r)=x.2.natAbs*(y.2.natAbs+n1 r)
   rw [Aew x r,jT,Nat.mul_add]
theorem Ajp (b:Tl):∀a:Tl,n1 (mt a b)=n1 a*n1 b
 | []=>by show 0=0*_;omega
 | x::r=>by
   rw [Fw,Aev,Aew,Ajp b r]
   show _=(x.2.natAbs+n1 r)*n1 b
   rw [Nat.add_mul]
theorem Ajq:∀a:Tl,n1 (ngT a)=n1 a
 | []=>rfl
 | e::r=>by
   show(-e.2).natAbs+n1 (ngT r)=e.2.natAbs+n1 r
   rw [Ajq r,Int.natAbs_neg]
theorem Ab0 (k:M3):∀a:Tl,(tot a k).natAbs<=n1 a
 | []=>aH _
 | e::r=>by
   have:=Ab0 k r
   show((if e.1=k then e.2 else 0)+tot r k).natAbs<=e.2.natAbs+n1 r
   split<;>omega
noncomputable def le3 (x:M3) (d:Nat):Prop:=x.1<=d/\x.2.1<=d/\x.2.2<=d
noncomputable def Bd (s:Fq) (d n:Nat):Prop:=∃l:Tl,s=fq l/\(∀e∈l,le3 e.1 d)/\n1 l<=2^n
variable {s:Fq}{d n d':Nat}
theorem Bd.mono {J:Nat} (h:Bd s d n) (q:d<=d') (L:n<=J):Bd s d' J:=by
 obtain⟨l,e,b,z⟩:=h
 exact⟨l,e,fun x G=>⟨aO (b x G).1 q,aO (b x G).2.1 q,aO (b x G).2.2 q⟩,aO z (fL (by decide) L)⟩
theorem Bd.mul {t:Fq}{G:Nat} (h:Bd s d n) (g:Bd t d' G):Bd (s*t) (d+d') (n+G):=by
 obtain⟨l,rfl,b,z⟩:=h
 obtain⟨m,rfl,c,y⟩:=g
 refine⟨mt l m,O6 l m,fun e q=> ?_,by rw [Ajp,jZ];exact fS z y⟩
 obtain⟨x,J,q⟩:=gP.mp q
 obtain⟨y,L,rfl⟩:=aD.mp q
 have h1:=b x J
 have h2:=c y L
 unfold le3 at h1 h2 ⊢
 unfold m3
 dsimp only
 omega
theorem Bd.add {t:Fq} (h:Bd s d n) (g:Bd t d n):Bd (s+t) d (n+1):=by
 obtain⟨l,rfl,b,z⟩:=h
 obtain⟨m,rfl,c,y⟩:=g
 refine⟨l++m,Vq l m,fun e q=> ?_,by rw [Aev,iG];omega⟩
 rcases bG.mp q with h | h
 . exact b e h
 . exact c e h
theorem Bd.neg (h:Bd s d n):Bd (-s) d n:=by
 obtain⟨l,rfl,b,z⟩:=h
 refine⟨ngT l,Z1 l,fun e q=> ?_,by rw [Ajq];exact z⟩
 obtain⟨x,G,rfl⟩:=aD.mp q
 exact b x G
theorem Bd.sub {t:Fq} (h:Bd s d n) (g:Bd t d n):Bd (s-t) d (n+1):=h.add g.neg
theorem Bd.one:Bd 1 0 0:=⟨csT 1,rfl,fun e q=>by
 rw [aS.mp q]
 exact⟨aH _,aH _,aH _⟩,by decide⟩
theorem Bd.zero:Bd 0 0 0:=⟨csT 0,rfl,fun e q=>by
 rw [aS.mp q]
 exact⟨aH _,aH _,aH _⟩,by decide⟩
theorem Om {a:Tl}{k:M3} (h:tot a k≠0):∃e∈a,e.1=k:=by
 induction a with
 | nil=>exact absurd rfl h
 | cons e r q=>
   by_cases c:e.1=k
   . exact⟨e,.head _,c⟩
   . have:tot r k≠0:=fun z=>h (by
      show(if e.1=k then e.2 else 0)+tot r k=0
      rw [aF c,z]
      rfl)
     obtain⟨x,G,J⟩:=q this
     exact⟨x,.tail _ G,J⟩
structure Nz (l:Tl):Prop where
 nd:(l.map (·.1)).Nodup
 nn:∀e∈l,e.2≠0
theorem Ri {a:Tl}{k:M3} (h:∀e∈a,e.1≠k):tot a k=0:=by
 by_cases z:tot a k=0
 . exact z
 . obtain⟨e,q,c⟩:=Om z
   exact absurd c (h e q)
theorem Nz.at:∀ {l:Tl},Nz l->∀e∈l,tot l e.1=e.2
 | [],_,_,h=>by cases h
 | x::r,h,e,q=>by
   have G:=cZ.mp h.nd
   rcases aQ.mp q with rfl | q
   . show(if e.1=e.1 then e.2 else 0)+tot r e.1=e.2
     rw [aI rfl,Ri fun y J z=>G.1 (aD.mpr ⟨y,J,z⟩)]
     omega
   . have L:=Nz.at (l:=r) ⟨G.2,fun y J=>h.nn y (.tail _ J)⟩ e q
     show(if x.1=e.1 then x.2 else 0)+tot r e.1=e.2
     rw [aF fun z=>G.1 (by show x.1∈_;rw [z];exact aD.mpr ⟨e,q,rfl⟩),L]
     omega
theorem Bd.nz {l:Tl} (h:Bd (fq l) d n) (z:Nz l):∀e∈l,le3 e.1 d/\e.2.natAbs<=2^n:=fun e q=>by
 obtain⟨m,G,b,y⟩:=h
 have h1:=Nf G e.1
 rw [z.at e q]at h1
 have h2:tot m e.1≠0:=by rw [<-h1];exact z.nn e q
 obtain⟨x,J,ex⟩:=Om h2
 refine⟨by rw [<-ex];exact b x J,?_⟩
 rw [h1]
 exact aO (Ab0 _ m) y
structure Ky (κ:M3->Nat) (l2 l3:Tl):Prop where
 ad:∀x y,κ (m3 x y)=κ x+κ y
 i2:∀x∈l2,∀y∈l2,κ x.1=κ y.1->x.1=y.1
 i3:∀x∈l3,∀y∈l3,κ x.1=κ y.1->x.1=y.1
theorem Abv (κ:M3->Nat):∀l:Tl,l≠ []->∃e∈l,∀x∈l,κ x.1<=κ e.1
 | [],h=>absurd rfl h
 | [e],_=>⟨e,.head _,fun x q=>by rw [aS.mp q];exact aH _⟩
 | e::f::r,_=>by
   obtain⟨g,G,m⟩:=Abv κ (f::r) (by simp)
   by_cases c:κ e.1<=κ g.1
   . refine⟨g,.tail _ G,fun x q=> ?_⟩
     rcases aQ.mp q with rfl | q
     . exact c
     . exact m x q
   . refine⟨e,.head _,fun x q=> ?_⟩
     rcases aQ.mp q with rfl | q
     . exact aH _
     . exact aO (m x q) (by omega)
theorem V1 {κ:M3->Nat}{L:Tl}{e2 q:M3 × Int} (U:Nz L) (G:q∈L) (W:∀x∈L,κ x.1<=κ q.1) (O:∀x y,κ (m3 x y)=κ x+κ y):
 ∀M:Tl,Nz M->(∀x∈M,x.1=e2.1\/κ x.1<κ e2.1)->tot (mt M L) (m3 e2.1 q.1)=tot M e2.1*q.2
 | [],_,_=>by show(0:Int)=0*_;omega
 | x::r,h2,t2=>by
   have Z:=cZ.mp h2.nd
   have ih:=V1 U G W O r ⟨Z.2,fun y J=>h2.nn y (.tail _ J)⟩ fun y J=>t2 y (.tail _ J)
   rw [Fw,Cj,ih]
   show _=((if x.1=e2.1 then x.2 else 0)+tot r e2.1)*q.2
   rw [kB]
   congr 1
   rcases t2 x (.head _)with e | l
   . rw [aI e,<-e,Lg,U.at q G]
   . rw [aF fun z=>by rw [z]at l;omega,Int.zero_mul]
     refine Ri fun y J z=> ?_
     obtain⟨w,hw,rfl⟩:=aD.mp J
     have h1:κ (m3 x.1 w.1)=κ (m3 e2.1 q.1):=by rw [show m3 x.1 w.1=m3 e2.1 q.1 from z]
     rw [O,O]at h1
     have:=W w hw
     omega
theorem Aak {κ:M3->Nat}{l1 J L:Tl} (h2:Nz J) (Z:Nz L) (k:Ky κ J L) (e:fq l1=fq J*fq L) (n2:J≠ []) (n3:L≠ []):
 ∃U∈l1,∃q∈J,∃M∈L,U.1=m3 q.1 M.1/\(∀x∈L,κ x.1<=κ M.1):=by
 obtain⟨q,G,t2⟩:=Abv κ J n2
 obtain⟨M,O,t3⟩:=Abv κ L n3
 have h:=V1 (e2:=q) Z O t3 k.ad J h2 fun x hx=>by
  rcases Nat.eq_or_lt_of_le (t2 x hx)with z | z
  . exact .inl (k.i2 x hx q G z)
  . exact .inr z
 rw [h2.at q G]at h
 have h4:=Nf (e.trans (O6 J L)) (m3 q.1 M.1)
 rw [h]at h4
 have:tot l1 (m3 q.1 M.1)≠0:=by
  rw [h4]
  exact lB (h2.nn q G) (Z.nn M O)
 obtain⟨U,W,c⟩:=Om this
 exact⟨U,W,q,G,M,O,c,t3⟩
noncomputable def kk (B:Nat) (x:M3):Nat:=(x.1*B+x.2.1)*B+x.2.2
theorem Af5 (B:Nat) (x y:M3):kk B (m3 x y)=kk B x+kk B y:=by
 unfold kk m3
 dsimp only
 grind
variable {B:Nat}
theorem dig {a b c:Nat} (q:b<B) (G:d<B) (h:a*B+b<=c*B+d):a<=c:=by
 refine iR fun z=> ?_
 have:(c+1)*B<=a*B:=bS _ z
 rw [Nat.add_mul]at this
 omega
theorem Aeh {a b c:Nat} (q:b<B) (G:d<B) (h:a*B+b=c*B+d):a=c/\b=d:=by
 have h1:=dig q G (eJ h)
 have h2:=dig G q (eJ h.symm)
 have:a=c:=by omega
 subst this
 exact⟨rfl,by omega⟩
variable {D:Nat}
theorem Rz (q:le3 x D) (G:le3 y D) (h:kk (D+1) x=kk (D+1) y):x=y:=by
 unfold kk at h
 obtain⟨M,x1,O⟩:=x
 obtain⟨U,W,Z⟩:=y
 unfold le3 at q G
 dsimp only at q G h
 obtain⟨h1,h2⟩:=Aeh (by omega) (by omega) h
 obtain⟨J,L⟩:=Aeh (by omega) (by omega) h1
 rw [h2,J,L]
theorem Ajj (q:le3 x D) (G:le3 y D) (h:kk (D+1) x<=kk (D+1) y):x.1<=y.1:=by
 unfold kk at h
 unfold le3 at q G
 exact dig (B:=D+1) (by omega) (by omega) (dig (B:=D+1) (by omega) (by omega) h)
noncomputable def rt (x:M3):M3:=(x.2.1,x.2.2,x.1)
theorem Akk (h:rt x=rt y):x=y:=by
 obtain⟨a,b,c⟩:=x
 obtain⟨q,G,J⟩:=y
 unfold rt at h
 simp only [iX]at h ⊢
 omega
theorem Anf (h:le3 x d):le3 (rt x) d:=⟨h.2.1,h.2.2,h.1⟩
noncomputable def rtn:Nat->M3->M3
 | 0,x=>x
 | n+1,x=>rt (rtn n x)
theorem Abh:∀(n:Nat) (x y:M3),rtn n (m3 x y)=m3 (rtn n x) (rtn n y)
 | 0,_,_=>rfl
 | n+1,x,y=>by show rt (rtn n _)=_;rw [Abh n];rfl
theorem U7:∀(n:Nat) {x y:M3},rtn n x=rtn n y->x=y
 | 0,_,_,h=>h
 | n+1,_,_,h=>U7 n (Akk h)
theorem Nu {d:Nat}:∀(n:Nat) {x:M3},le3 x d->le3 (rtn n x) d
 | 0,_,h=>h
 | n+1,_,h=>Anf (Nu n h)
theorem Ago {l1 O M:Tl} (h2:Nz O) (h3:Nz M) (e:fq l1=fq O*fq M) (n2:O≠ []) (U:∀x∈l1,le3 x.1 d):∀x∈M,le3 x.1 d:=by
 intro x J
 obtain⟨D,G⟩:∃D,(∀y∈O,le3 y.1 D)/\∀y∈M,le3 y.1 D:=by
  have:∀l:Tl,∃D,∀y∈l,le3 y.1 D:=fun l=>by
   induction l with
   | nil=>exact⟨0,fun y q=>by cases q⟩
   | cons z r ih=>
     obtain⟨D,G⟩:=ih
     refine⟨D+z.1.1+z.1.2.1+z.1.2.2,fun y q=> ?_⟩
     rcases aQ.mp q with rfl | q
     . unfold le3
       omega
     . have:=G y q
       unfold le3 at this ⊢
       omega
  obtain⟨D,G⟩:=this O
  obtain⟨D',W⟩:=this M
  refine⟨D+D',fun y q=> ?_,fun y q=> ?_⟩
  . have:=G y q
    unfold le3 at this ⊢
    omega
  . have:=W y q
    unfold le3 at this ⊢
    omega
 have n3:M≠ []:=fun z=>by rw [z]at J;cases J
 have L:∀n,(rtn n x.1).1<=d\/True->∃y∈l1,(rtn n x.1).1<=(rtn n y.1).1:=fun n _=>by
  obtain⟨e1,Z,e2,a6,e3,a0,eq,t3⟩:=Aak (κ:=fun z=>kk (D+1) (rtn n z)) h2 h3 ⟨fun x y=>by rw [Abh,Af5],fun x J y q z=>U7 n (Rz (Nu n (G.1 x J)) (Nu n (G.1 y q)) z),
   fun x J y q z=>U7 n (Rz (Nu n (G.2 x J)) (Nu n (G.2 y q)) z)⟩ e n2 n3
  refine⟨e1,Z,?_⟩
  have h:=Ajj (Nu n (G.2 x J)) (Nu n (G.2 e3 a0)) (t3 x J)
  rw [eq,Abh]
  show _<=(rtn n e2.1).1+(rtn n e3.1).1
  omega
 obtain⟨y0,a1,l0⟩:=L 0 (.inr trivial)
 obtain⟨y1,a2,a3⟩:=L 1 (.inr trivial)
 obtain⟨y2,a4,a5⟩:=L 2 (.inr trivial)
 exact⟨aO l0 (U y0 a1).1,aO a3 (U y1 a2).2.1,aO a5 (U y2 a4).2.2⟩
noncomputable def tk (κ:M3->Nat):Tl->Nat->Int
 | [],_=>0
 | e::r,k=>(if κ e.1=k then e.2 else 0)+tk κ r k
section
variable {κ:M3->Nat}
theorem Aks (a b:Tl) (k:Nat):tk κ (a++b) k=tk κ a k+tk κ b k:=by
 induction a with
 | nil=>show tk κ b k=0+tk κ b k;omega
 | cons e r q=>
   show _+tk κ (r++b) k=(_+tk κ r k)+tk κ b k
   rw [q]
   omega
theorem Akt (k:Nat):∀a:Tl,tk κ (ngT a) k= -tk κ a k
 | []=>rfl
 | e::r=>by
   show(if κ e.1=k then-e.2 else 0)+tk κ (ngT r) k= -((if κ e.1=k then e.2 else 0)+tk κ r k)
   rw [Akt k r]
   split<;>omega
theorem Rj (x:M3) (j:M3):∀a:Tl,tot (a.filter fun e=>decide (e.1≠x)) j=if j=x then 0 else tot a j
 | []=>by split<;>rfl
 | e::r=>by
   have q:=Rj x j r
   by_cases c:e.1=x
   . rw [cB (by simp [c]),q]
     show _=if j=x then 0 else(if e.1=j then e.2 else 0)+tot r j
     by_cases d:j=x
     . rw [aI d,aI d]
     . rw [aF d,aF d,aF fun z=>d (z.symm.trans c),eK]
   . rw [cJ (by simp [c])]
     show(if e.1=j then e.2 else 0)+tot (r.filter _) j=if j=x then 0 else(if e.1=j then e.2 else 0)+tot r j
     rw [q]
     by_cases d:j=x
     . rw [aI d,aI d,aF fun z=>c (z.trans d)]
       rfl
     . rw [aF d,aF d]
theorem Afd (x:M3) (k:Nat):∀a:Tl,tk κ a k=(if κ x=k then tot a x else 0)+tk κ (a.filter fun e=>decide (e.1≠x)) k
 | []=>by show(0:Int)=(if _ then 0 else 0)+0;split<;>rfl
 | e::r=>by
   have q:=Afd x k r
   by_cases c:e.1=x
   . rw [cB (by simp [c])]
     show(if κ e.1=k then e.2 else 0)+tk κ r k=(if κ x=k then(if e.1=x then e.2 else 0)+tot r x else 0)+_
     rw [q,aI c,c]
     split<;>omega
   . rw [cJ (by simp [c])]
     show(if κ e.1=k then e.2 else 0)+tk κ r k=(if κ x=k then(if e.1=x then e.2 else 0)+tot r x else 0)+((if κ e.1=k then e.2 else 0)+tk κ (r.filter _) k)
     rw [q,aF c,eK]
     split<;>split<;>omega
theorem Abu (k:Nat):∀(n:Nat) (a:Tl),a.length<=n->(∀j,tot a j=0)->tk κ a k=0
 | _,[],_,_=>rfl
 | n+1,e::r,hn,h=>by
   rw [Afd e.1 k,h e.1]
   have q:((e::r).filter fun y=>decide (y.1≠e.1)).length<=n:=by
    rw [cB (by simp)]
    have:=dM (fun y:M3 × Int=>decide (y.1≠e.1)) r
    simp only [bU]at hn
    omega
   rw [Abu k n _ q fun j=>by rw [Rj,h j];split<;>rfl]
   split<;>rfl
theorem Anp {a b:Tl} (h:fq a=fq b) (k:Nat):tk κ a k=tk κ b k:=by
 have z:∀j,tot (a++ngT b) j=0:=fun j=>by
  rw [Cj,Ly,Nf h j]
  omega
 have:=Abu (κ:=κ) k _ _ (aH _) z
 rw [Aks,Akt]at this
 omega
theorem Ajm {G h:Tl}{z:M3 × Int} (q:z∈mt G h):∃x∈G,∃y∈h,z=(m3 x.1 y.1,x.2*y.2):=by
 obtain⟨x,J,q⟩:=gP.mp q
 obtain⟨y,L,e⟩:=aD.mp q
 exact⟨x,J,y,L,e.symm⟩
end
theorem Aex (k:M3):∀m:Tl,(tot m k).natAbs+n1 (m.filter fun y=>decide (y.1≠k))<=n1 m
 | []=>aH _
 | e::r=>by
   have q:=Aex k r
   by_cases c:e.1=k
   . rw [cB (by simp [c])]
     show((if e.1=k then e.2 else 0)+tot r k).natAbs+_<=e.2.natAbs+n1 r
     rw [aI c]
     omega
   . rw [cJ (by simp [c])]
     show((if e.1=k then e.2 else 0)+tot r k).natAbs+(e.2.natAbs+n1 _)<=e.2.natAbs+n1 r
     rw [aF c,eK]
     omega
theorem Aav:∀l:Tl,∃m:Tl,Nz m/\fq m=fq l/\(∀e∈m,∃x∈l,x.1=e.1)/\n1 m<=n1 l
 | []=>⟨[],⟨.nil,by simp⟩,rfl,by simp,aH _⟩
 | x::r=>by
   obtain⟨m,L,e,k,O⟩:=Aav r
   have U:=Aex x.1 m
   have nx:n1 (x::r)=x.2.natAbs+n1 r:=rfl
   have G:((m.filter fun y=>decide (y.1≠x.1)).map (·.1)).Nodup:=L.nd.sublist (jJ.map _)
   by_cases c:tot (x::m) x.1=0
   . refine⟨m.filter fun y=>decide (y.1≠x.1),⟨G,fun y q=>L.nn y (bQ.mp q).1⟩,Gh fun j=> ?_,fun y q=> ?_,by omega⟩
     . have h1:tot (x::r) j=tot (x::m) j:=by
        show _+tot r j=_+tot m j
        rw [Nf e j]
       rw [Rj,h1]
       split
       . rename_i z
         rw [z,c]
       . rename_i z
         show tot m j=(if x.1=j then x.2 else 0)+tot m j
         rw [aF (cS z),eK]
     . obtain⟨z,M,J⟩:=k y (bQ.mp q).1
       exact⟨z,.tail _ M,J⟩
   . refine⟨(x.1,tot (x::m) x.1)::m.filter fun y=>decide (y.1≠x.1),⟨cZ.mpr ⟨fun z=> ?_,G⟩,fun y q=> ?_⟩,Gh fun j=> ?_,fun y q=> ?_,?_⟩
     . obtain⟨y,q,J⟩:=aD.mp z
       exact(cH (bQ.mp q).2) J
     . rcases aQ.mp q with rfl | q
       . exact c
       . exact L.nn y (bQ.mp q).1
     . have h1:tot (x::r) j=tot (x::m) j:=by
        show _+tot r j=_+tot m j
        rw [Nf e j]
       rw [h1]
       show(if x.1=j then tot (x::m) x.1 else 0)+tot (m.filter _) j=_
       rw [Rj]
       by_cases z:j=x.1
       . rw [aI z.symm,aI z,z,fM]
       . rw [aF (cS z),aF z]
         show 0+tot m j=(if x.1=j then x.2 else 0)+tot m j
         rw [aF (cS z)]
     . rcases aQ.mp q with rfl | q
       . exact⟨x,.head _,rfl⟩
       . obtain⟨z,M,J⟩:=k y (bQ.mp q).1
         exact⟨z,.tail _ M,J⟩
     . show((if x.1=x.1 then x.2 else 0)+tot m x.1).natAbs+n1 (m.filter _)<=_
       rw [aI rfl]
       omega
theorem Afy {a b:Tl} (h:a.Perm b):fq a=fq b:=Gh fun k=>by
 induction h with
 | nil=>rfl
 | cons e _ q=>show _+tot _ k=_+tot _ k;rw [q]
 | swap x y l=>show _+(_+_)=_+(_+_);omega
 | trans _ _ G J=>exact G.trans J
theorem Afx (κ:M3->Nat) (l:Tl) (h:Nz l) (inj:∀x∈l,∀y∈l,κ x.1=κ y.1->x.1=y.1):∃m:Tl,Nz m/\m.Perm l/\m.Pairwise fun x y=>κ y.1<κ x.1:=by
 have q:=List.mergeSort_perm l fun x y=>decide (κ y.1<=κ x.1)
 have pw:=List.pairwise_mergeSort (le:=fun x y:M3 × Int=>decide (κ y.1<=κ x.1)) (fun a b c h1 h2=>by simp at h1 h2 ⊢;omega) (fun a b=>by simp;omega) l
 have G:((l.mergeSort fun x y=>decide (κ y.1<=κ x.1)).map (·.1)).Nodup:=(q.map _).nodup_iff.mpr h.nd
 refine⟨_,⟨G,fun e J=>h.nn e (q.mem_iff.mp J)⟩,q,?_⟩
 refine(gE.mp (Pairwise.and pw (bC.mp G))).imp fun {x y} z=> ?_
 obtain⟨L,M,h1,h2⟩:=z
 have h1:=cH h1
 have:κ x.1≠κ y.1:=fun e=>h2 (inj x (q.mem_iff.mp L) y (q.mem_iff.mp M) e)
 omega
noncomputable def pw3 (j:Nat) (x:M3):Nat:=match j with | 0=>x.1 | 1=>x.2.1 | _=>x.2.2
noncomputable def ej (j m:Nat):M3:=match j with | 0=>(m,0,0) | 1=>(0,m,0) | _=>(0,0,m)
noncomputable def zj (j:Nat) (x:M3):M3:=match j with | 0=>(0,x.2.1,x.2.2) | 1=>(x.1,0,x.2.2) | _=>(x.1,x.2.1,0)
theorem Ae8 (j:Nat) (x y:M3):pw3 j (m3 x y)=pw3 j x+pw3 j y:=by unfold pw3 m3;split<;>rfl
theorem Pg:∀j m:Nat,pw3 j (ej j m)=m
 | 0,_=>rfl
 | 1,_=>rfl
 | _+2,_=>rfl
theorem Alv (j:Nat) (x:M3):m3 (zj j x) (ej j (pw3 j x))=x:=by unfold m3 zj ej pw3;split<;>simp
theorem Ae9:∀(j:Nat) (x:M3),pw3 j (zj j x)=0
 | 0,_=>rfl
 | 1,_=>rfl
 | _+2,_=>rfl
variable {j:Nat}
theorem Aot (h:le3 x d):le3 (zj j x) d:=by
 unfold le3 zj at*
 split<;>simp<;>omega
theorem Amn (j a b:Nat):m3 (ej j a) (ej j b)=ej j (a+b):=by unfold m3 ej;split<;>simp
noncomputable def Yj (j m:Nat):Fq:=fq [(ej j m,1)]
theorem W2 (j a b:Nat):Yj j (a+b)=Yj j a*Yj j b:=by
 show fq _=fq _
 rw [show mt [(ej j a,(1:Int))] [(ej j b,1)]=[(m3 (ej j a) (ej j b),1*1)]from rfl,Amn]
 rfl
theorem Aid (j:Nat):Yj j 0=1:=by
 show fq _=fq (csT 1)
 congr 1
 unfold ej csT
 split<;>rfl
theorem W3 (j m:Nat):Bd (Yj j m) m 0:=⟨_,rfl,fun e q=>by
 rw [aS.mp q]
 unfold le3 ej
 split<;>simp,aH 1⟩
noncomputable def DL (j:Nat) (s:Fq) (m:Nat):Prop:=∃l:Tl,s=fq l/\∀e∈l,pw3 j e.1<=m
variable {m:Nat}
theorem DL.mono {q:Nat} (h:DL j s m) (l:m<=q):DL j s q:=by
 obtain⟨a,e,b⟩:=h
 exact⟨a,e,fun x G=>aO (b x G) l⟩
theorem DL.mul {t:Fq} (h:DL j s m) (g:DL j t n):DL j (s*t) (m+n):=by
 obtain⟨a,rfl,b⟩:=h
 obtain⟨c,rfl,d⟩:=g
 refine⟨mt a c,O6 a c,fun e q=> ?_⟩
 obtain⟨x,G,y,J,rfl⟩:=Ajm q
 have h1:=b x G
 have h2:=d y J
 show pw3 j (m3 x.1 y.1)<=_
 rw [Ae8]
 omega
theorem DL.add {t:Fq} (h:DL j s m) (g:DL j t m):DL j (s+t) m:=by
 obtain⟨a,rfl,b⟩:=h
 obtain⟨c,rfl,d⟩:=g
 refine⟨a++c,Vq a c,fun e q=> ?_⟩
 rcases bG.mp q with h | h
 . exact b e h
 . exact d e h
theorem DL.neg (h:DL j s m):DL j (-s) m:=by
 obtain⟨a,rfl,b⟩:=h
 refine⟨ngT a,Z1 a,fun e q=> ?_⟩
 obtain⟨x,G,rfl⟩:=aD.mp q
 exact b x G
theorem DL.sub {t:Fq} (h:DL j s m) (g:DL j t m):DL j (s-t) m:=h.add g.neg
theorem DL.Y (j m:Nat):DL j (Yj j m) m:=⟨_,rfl,fun e q=>by
 rw [aS.mp q,Pg]
 exact aH _⟩
theorem DL.one (j:Nat):DL j 1 0:=by
 rw [<-Aid j]
 exact DL.Y j 0
theorem DL.zero (j:Nat):DL j 0 0:=⟨[],Gh fun k=>by rw [Dd];split<;>rfl,by simp⟩
theorem G6:fq []=0:=Gh fun k=>by rw [Dd];split<;>rfl
noncomputable def wtT (j m:Nat) (l:Tl):Tl:=(l.filter fun e=>decide (pw3 j e.1=m)).map fun e=>(zj j e.1,e.2)
noncomputable def loT (j m:Nat) (l:Tl):Tl:=l.filter fun e=>decide (pw3 j e.1≠m)
theorem Wy (j m:Nat):∀l:Tl,fq l=fq (loT j m l)+fq (wtT j m l)*Yj j m
 | []=>by
   show fq []=fq []+fq []*_
   rw [G6]
   grind
 | e::r=>by
   have J:=Wy j m r
   have h1:fq (e::r)=fq [e]+fq r:=rfl
   by_cases c:pw3 j e.1=m
   . have h2:loT j m (e::r)=loT j m r:=cB (by simp [c])
     have q:wtT j m (e::r)=(zj j e.1,e.2)::wtT j m r:=by
      unfold wtT
      rw [cJ (by simp [c])]
      rfl
     have G:fq ((zj j e.1,e.2)::wtT j m r)=fq [(zj j e.1,e.2)]+fq (wtT j m r):=rfl
     have L:fq [(zj j e.1,e.2)]*Yj j m=fq [e]:=by
      show fq [(m3 (zj j e.1) (ej j m),e.2*1)]=_
      rw [<-c,Alv,jE]
     rw [h1,h2,q,G,J]
     grind
   . have h2:loT j m (e::r)=e::loT j m r:=cJ (by simp [c])
     have q:wtT j m (e::r)=wtT j m r:=by
      unfold wtT
      rw [cB (by simp [c])]
     have G:fq (e::loT j m r)=fq [e]+fq (loT j m r):=rfl
     rw [h1,h2,q,G,J]
     grind
structure Wt (j m:Nat) (s lo w:Fq):Prop where
 eq:s=lo+w*Yj j m
 d0:DL j w 0
 lo1:∀k,m=k+1->DL j lo k
 lo0:m=0->lo=0
theorem Ahv {l:Tl} (h:∀e∈l,pw3 j e.1<=m):Wt j m (fq l) (fq (loT j m l)) (fq (wtT j m l)):=by
 refine⟨Wy j m l,⟨_,rfl,fun e q=> ?_⟩,fun k G=>⟨_,rfl,fun e q=> ?_⟩,fun J=> ?_⟩
 . obtain⟨x,L,rfl⟩:=aD.mp q
   exact eJ (Ae9 j x.1)
 . obtain⟨h1,h2⟩:=bQ.mp q
   have:=h e h1
   have:=cH h2
   omega
 . have:loT j m l=[]:=List.filter_eq_nil_iff.mpr fun e q=>by
    have:=h e q
    simp
    omega
   rw [this,G6]
theorem Ym (h:DL j s m):∃lo w,Wt j m s lo w:=by
 obtain⟨l,rfl,b⟩:=h
 exact⟨_,_,Ahv b⟩
noncomputable def cfq (s:Fq) (k:M3):Int:=Quotient.lift (fun l=>tot l k) (fun a b (h:∀k,tot a k=tot b k)=>h k) s
theorem Afp {t:Fq} (h:∀k,cfq s k=cfq t k):s=t:=by
 obtain⟨a,rfl⟩:=Ez s
 obtain⟨b,rfl⟩:=Ez t
 exact Gh h
theorem Y9 (s t:Fq) (k:M3):cfq (s+t) k=cfq s k+cfq t k:=by
 obtain⟨a,rfl⟩:=Ez s
 obtain⟨b,rfl⟩:=Ez t
 exact Cj a b k
theorem Aij (s:Fq) (j m:Nat) (k:M3):cfq (s*Yj j m) (m3 (ej j m) k)=cfq s k:=by
 obtain⟨a,rfl⟩:=Ez s
 show tot (mt a [(ej j m,1)]) _=tot a k
 rw [Qq]
 have:=Lg (ej j m,1) k a
 rw [this]
 omega
theorem DL.cf (h:DL j s m) {k:M3} (G:m<pw3 j k):cfq s k=0:=by
 obtain⟨l,rfl,b⟩:=h
 show tot l k=0
 refine Ri fun e q z=> ?_
 have:=b e q
 rw [z]at this
 omega
variable {w q G:Fq}
theorem Wt.uniq {lo:Fq} (h:Wt j m s lo w) (g:Wt j m s q G):lo=q/\w=G:=by
 have e:lo+w*Yj j m=q+G*Yj j m:=h.eq.symm.trans g.eq
 have z:∀ {a b:Fq},Wt j m s a b->∀k,cfq a (m3 (ej j m) k)=0:=fun {a b} x k=>by
  cases hm:m with
  | zero=>
    rw [x.lo0 hm]
    show tot (csT 0) _=0
    rw [Dd]
    split<;>rfl
  | succ n=>
    refine(x.lo1 n hm).cf ?_
    rw [Ae8,Pg]
    omega
 have J:w=G:=Afp fun k=>by
  have h1:=bK (fun x=>cfq x (m3 (ej j m) k)) e
  rw [Y9,Y9,Aij,Aij,z h k,z g k]at h1
  omega
 refine⟨?_,J⟩
 rw [J]at e
 have:lo+G*Yj j m-G*Yj j m=q+G*Yj j m-G*Yj j m:=by rw [e]
 grind
structure Mo (j:Nat) (s:Fq) (m:Nat):Prop where
 dl:DL j s m
 le:∀m',DL j s m'->m<=m'
theorem Mo.uniq {q:Nat} (h:Mo j s m) (g:Mo j s q):m=q:=fI (h.le _ g.dl) (g.le _ h.dl)
noncomputable def PD (j:Nat) (t lead:Fq) (e:Nat):Nat->Fq->Fq->Fq->Fq->Fq->Fq->Prop
 | 0,r,sc,q,r',sc',q'=>r'=r/\sc'=sc/\q'=q
 | k+1,r,sc,q,r',sc',q'=>∃lo top,Wt j (e+k) r lo top/\PD j t lead e k (r*lead-top*Yj j k*t) (sc*lead) (q*lead+top*Yj j k) r' sc' q'
theorem PD.eq {j e:Nat}{t G s:Fq}:∀ {k:Nat}{r sc q L J M:Fq},s*sc=q*t+r->PD j t G e k r sc q L J M->s*J=M*t+L
 | 0,_,_,_,_,_,_,h,p=>by
   obtain⟨rfl,rfl,rfl⟩:=p
   exact h
 | k+1,r,sc,q,_,_,_,h,p=>by
   obtain⟨lo,top,_,p⟩:=p
   refine PD.eq ?_ p
   have:s*(sc*G)=(q*t+r)*G:=by rw [<-h];grind
   rw [this]
   grind
variable {e:Nat}{r:Fq}
theorem Ab2 {k:Nat}{t tl lo top:Fq} (G:Wt j (e+1) t tl q) (J:Wt j (e+1+k) r lo top):DL j (r*q-top*Yj j k*t) (e+k):=by
 have h1:r*q-top*Yj j k*t=lo*q-top*Yj j k*tl:=by
  rw [J.eq,G.eq,show e+1+k=k+(e+1)by omega,W2]
  grind
 rw [h1]
 have L:=(J.lo1 (e+k) (by omega)).mul G.d0
 have M:=(J.d0.mul (DL.Y j k)).mul (G.lo1 e rfl)
 exact L.sub (M.mono (by omega))
theorem PD.dl {j e:Nat}{t G tl:Fq} (L:Wt j (e+1) t tl G):∀ {k:Nat}{r sc q M J O:Fq},DL j r (e+k)->PD j t G (e+1) k r sc q M J O->DL j M e
 | 0,_,_,_,_,_,_,h,p=>by
   obtain⟨rfl,_,_⟩:=p
   exact h
 | k+1,_,_,_,_,_,_,h,p=>by
   obtain⟨lo,top,w,p⟩:=p
   exact PD.dl L (Ab2 L w) p
theorem Agd {l:Tl} (z:Nz l) (h:DL j (fq l) m):∀e∈l,pw3 j e.1<=m:=fun e q=>by
 refine iR fun c=>z.nn e q ?_
 rw [<-z.at e q]
 exact h.cf c
theorem Bd.fil {l:Tl} (p:M3 × Int->Bool) (h:(∀e∈l,le3 e.1 d)/\n1 l<=2^n):Bd (fq (l.filter p)) d n:=by
 refine⟨_,rfl,fun e q=>h.1 e (bQ.mp q).1,aO ?_ h.2⟩
 clear h
 induction l with
 | nil=>exact aH _
 | cons x r G=>
   have e:n1 (x::r)=x.2.natAbs+n1 r:=rfl
   by_cases c:p x=true
   . rw [cJ c]
     show x.2.natAbs+n1 (r.filter p)<=_
     omega
   . rw [cB c]
     omega
theorem Aas (f:M3->M3):∀a:Tl,n1 (a.map fun e=>(f e.1,e.2))=n1 a
 | []=>rfl
 | e::r=>by
   show e.2.natAbs+n1 (r.map _)=e.2.natAbs+n1 r
   rw [Aas f r]
theorem Wt.bd {lo:Fq} (h:Wt j m s lo w) (b:Bd s d n):Bd lo d n/\Bd w d n:=by
 obtain⟨U,W,Z,b2⟩:=b
 obtain⟨l,z,e,k,M⟩:=Aav U
 have dl:DL j s m:=by
  have J:DL j (w*Yj j m) m:=by
   have:=h.d0.mul (DL.Y j m)
   rwa [gO]at this
  rw [h.eq]
  cases hm:m with
  | zero=>
    rw [h.lo0 hm]
    rw [hm]at J
    exact(DL.zero j).add J
  | succ k=>
    have:=(h.lo1 k hm).mono (fV k)
    rw [hm]at J
    exact this.add J
 have es:s=fq l:=by rw [W,e]
 rw [es]at dl
 have h2:=Ahv (Agd z dl)
 rw [es]at h
 obtain⟨rfl,rfl⟩:=h.uniq h2
 have q:(∀x∈l,le3 x.1 d)/\n1 l<=2^n:=⟨fun x L=>by
  obtain⟨y,G,ey⟩:=k x L
  rw [<-ey]
  exact Z y G,aO M b2⟩
 refine⟨Bd.fil _ q,?_⟩
 obtain⟨l2,e2,c1,c2⟩:Bd (fq (l.filter fun e=>decide (pw3 j e.1=m))) d n:=Bd.fil _ q
 refine⟨_,rfl,fun x L=> ?_,?_⟩
 . obtain⟨y,G,rfl⟩:=aD.mp L
   exact Aot (q.1 y (bQ.mp G).1)
 . unfold wtT
   rw [Aas]
   refine aO ?_ q.2
   clear c1 c2 e2 q h2 h dl es e k M
   induction l with
   | nil=>exact aH _
   | cons x r O=>
     have e:n1 (x::r)=x.2.natAbs+n1 r:=rfl
     have O:=O ⟨(cZ.mp z.nd).2,fun y G=>z.nn y (.tail _ G)⟩
     by_cases c:decide (pw3 j x.1=m)=true
     . rw [cJ (p:=fun e:M3 × Int=>decide (pw3 j e.1=m)) c]
       show x.2.natAbs+n1 (r.filter fun e=>decide (pw3 j e.1=m))<=_
       omega
     . rw [cB (p:=fun e:M3 × Int=>decide (pw3 j e.1=m)) c]
       omega
theorem Ais:∀l:Tl,∃D,∀y∈l,le3 y.1 D
 | []=>⟨0,fun y q=>by cases q⟩
 | z::r=>by
   obtain⟨D,G⟩:=Ais r
   refine⟨D+z.1.1+z.1.2.1+z.1.2.2,fun y q=> ?_⟩
   rcases aQ.mp q with rfl | q
   . unfold le3
     omega
   . have:=G y q
     unfold le3 at this ⊢
     omega
theorem Zz {t:Fq} (h:s*t=0):s=0\/t=0:=by
 obtain⟨a,rfl⟩:=Ez s
 obtain⟨b,rfl⟩:=Ez t
 obtain⟨O,h2,e2,_⟩:=Aav a
 obtain⟨U,h3,e3,_⟩:=Aav b
 rw [<-e2,<-e3]at h ⊢
 by_cases W:O=[]
 . left
   rw [W,G6]
 by_cases c3:U=[]
 . right
   rw [c3,G6]
 obtain⟨D,Z⟩:=Ais O
 obtain⟨G,q⟩:=Ais U
 have m:∀ {x:M3}{d:Nat},le3 x d->d<=D+G->le3 x (D+G):=fun h l=>⟨aO h.1 l,aO h.2.1 l,aO h.2.2 l⟩
 obtain⟨e1,J,_⟩:=Aak (l1:=[]) (κ:=kk (D+G+1)) h2 h3 ⟨Af5 _,fun x L y M z=>Rz (m (Z x L) (by omega)) (m (Z y M) (by omega)) z,fun x L y M z=>Rz (m (q x L) (by omega)) (m (q y M) (by omega)) z⟩ (by rw [G6];exact h.symm) W c3
 cases J
theorem Mg {t:Fq} (h:s≠0) (g:t≠0):s*t≠0:=fun z=>(Zz z).elim h g
theorem Aen {t u:Fq} (h:s≠0) (e:s*t=s*u):t=u:=by
 have:s*(t-u)=0:=by grind
 rcases Zz this with z | z
 . exact absurd z h
 . grind
variable {c J L M O:Fq}
section
variable {j:Nat}
theorem Y2 (j:Nat):Yj j 2=Yj j 1*Yj j 1:=W2 j 1 1
theorem Y3 (j:Nat):Yj j 3=Yj j 1*Yj j 1*Yj j 1:=by rw [show(3:Nat)=2+1 from rfl,W2,Y2]
theorem wt1 {a b:Fq} (q:DL j a 0) (G:DL j b 0) (e:s=a+b*Yj j 1):Wt j 1 s a b:=⟨e,G,fun k h=>by
 obtain rfl:k=0:=by omega
 exact q,fun h=>by omega⟩
theorem wt2 {a b:Fq} (q:DL j a 0) (G:DL j b 0) (J:DL j c 0) (e:s=a+b*Yj j 1+c*(Yj j 1*Yj j 1)):Wt j 2 s (a+b*Yj j 1) c:=⟨by rw [Y2];exact e,J,fun k h=>by
 obtain rfl:k=1:=by omega
 exact(q.mono (by decide)).add (G.mul (DL.Y j 1)),fun h=>by omega⟩
theorem wt3 {a b d:Fq} (q:DL j a 0) (G:DL j b 0) (J:DL j c 0) (L:DL j d 0) (e:s=a+b*Yj j 1+c*(Yj j 1*Yj j 1)+d*(Yj j 1*Yj j 1*Yj j 1)):Wt j 3 s (a+b*Yj j 1+c*(Yj j 1*Yj j 1)) d:=⟨by rw [Y3];exact e,L,fun k h=>by
 obtain rfl:k=2:=by omega
 exact(((q.mono (by decide)).add ((G.mul (DL.Y j 1)).mono (by decide))).add (J.mul ((DL.Y j 1).mul (DL.Y j 1)))),fun h=>by omega⟩
structure Co (j d n:Nat) (a:Fq):Prop where
 dl:DL j a 0
 bd:Bd a d n
theorem co1 (h:DL j s 1) (b:Bd s d n):∃x y,Co j d n x/\Co j d n y/\s=x+y*Yj j 1:=by
 obtain⟨lo,w,q⟩:=Ym h
 obtain⟨G,J⟩:=q.bd b
 exact⟨lo,w,⟨q.lo1 0 rfl,G⟩,⟨q.d0,J⟩,q.eq⟩
theorem co2 (h:DL j s 2) (b:Bd s d n):∃x y z,Co j d n x/\Co j d n y/\Co j d n z/\s=x+y*Yj j 1+z*(Yj j 1*Yj j 1):=by
 obtain⟨lo,w,q⟩:=Ym h
 obtain⟨G,J⟩:=q.bd b
 obtain⟨x,y,h1,h2,e⟩:=co1 (q.lo1 1 rfl) G
 exact⟨x,y,w,h1,h2,⟨q.d0,J⟩,by rw [q.eq,e,Y2]⟩
theorem co3 (h:DL j s 3) (b:Bd s d n):∃x y z t,Co j d n x/\Co j d n y/\Co j d n z/\Co j d n t/\s=x+y*Yj j 1+z*(Yj j 1*Yj j 1)+t*(Yj j 1*Yj j 1*Yj j 1):=by
 obtain⟨lo,w,q⟩:=Ym h
 obtain⟨G,J⟩:=q.bd b
 obtain⟨x,y,z,h1,h2,L,e⟩:=co2 (q.lo1 2 rfl) G
 exact⟨x,y,z,w,h1,h2,L,⟨q.d0,J⟩,by rw [q.eq,e,Y3]⟩
theorem pd1 {t lo top:Fq} (h:PD j t q e 1 r 1 0 J G L) (w:Wt j e r lo top):J=r*q-top*t/\G=q/\L=top:=by
 obtain⟨W,M,Z,O,e2,U⟩:=h
 obtain⟨rfl,rfl⟩:=w.uniq Z
 rw [Aid]at O U
 exact⟨by rw [O];grind,by rw [e2];grind,by rw [U];grind⟩
theorem pd2 {t lo top:Fq} (h:PD j t q e 2 r 1 0 M J O) (w:Wt j (e+1) r lo top) (w2:Wt j e (r*q-top*Yj j 1*t) L G):
 M=(r*q-top*Yj j 1*t)*q-G*t/\J=q*q/\O=top*Yj j 1*q+G:=by
 obtain⟨a0,U,w1,a1,W,w3,Z,e2,e3⟩:=h
 obtain⟨rfl,rfl⟩:=w.uniq w1
 obtain⟨rfl,rfl⟩:=w2.uniq w3
 rw [Aid]at Z e3
 exact⟨by rw [Z];grind,by rw [e2];grind,by rw [e3];grind⟩
theorem pd3 {t lo top Z q':Fq} (h:PD j t q e 3 r 1 0 Z L q') (w:Wt j (e+2) r lo top) (w2:Wt j (e+1) (r*q-top*(Yj j 1*Yj j 1)*t) M G) (w3:Wt j e ((r*q-top*(Yj j 1*Yj j 1)*t)*q-G*Yj j 1*t) O J):
 Z=((r*q-top*(Yj j 1*Yj j 1)*t)*q-G*Yj j 1*t)*q-J*t/\L=q*q*q/\q'=(top*(Yj j 1*Yj j 1)*q+G*Yj j 1)*q+J:=by
 obtain⟨a3,a0,w1,a4,a1,w4,a5,a2,w5,U,e2,W⟩:=h
 obtain⟨rfl,rfl⟩:=w.uniq w1
 rw [Y2]at w4 U W w5
 obtain⟨rfl,rfl⟩:=w2.uniq w4
 obtain⟨rfl,rfl⟩:=w3.uniq w5
 rw [Aid]at U W
 exact⟨by rw [U];grind,by rw [e2];grind,by rw [W];grind⟩
end
variable {U W f0 f1 g0 g1 u0 s0 f3 g2:Fq}
section
variable {j:Nat}
noncomputable def Bw (k r:Nat) (s:Fq):Prop:=Bd s (3*k) (140*k+r)
theorem Bw.mul {q G J L:Nat}{s t:Fq} (h:Bw q J s) (g:Bw G L t):Bw (q+G) (J+L) (s*t):=(Bd.mul h g).mono (by omega) (by omega)
theorem Bw.sub {k q G:Nat}{s t:Fq} (h:Bw k q s) (g:Bw k G t):Bw k (q+G+1) (s-t):=(Bd.sub (h.mono (aH _) (show _<=140*k+(q+G)by omega)) (g.mono (aH _) (by omega))).mono (aH _) (by omega)
theorem Bw.add {k q G:Nat}{s t:Fq} (h:Bw k q s) (g:Bw k G t):Bw k (q+G+1) (s+t):=(Bd.add (h.mono (aH _) (show _<=140*k+(q+G)by omega)) (g.mono (aH _) (by omega))).mono (aH _) (by omega)
theorem Bw.neg {k r:Nat}{s:Fq} (h:Bw k r s):Bw k r (-s):=Bd.neg h
noncomputable def Bk (s:Fq):Prop:=Bd s 20 2000
theorem Bw.bk {k r:Nat} (h:Bw k r s) (q:k<=6) (G:r<=1000):Bk s:=Bd.mono h (by omega) (by omega)
theorem W5 {k q G:Nat}{a b:Fq} (J:Bw k q a) (L:Bw k G b) (M:k<=6) (h1:q<=500) (h2:G<=500):Bk (a+b*Yj j 1):=
 Bd.mono (Bd.add (J.mono (show _<=19 by omega) (show _<=1400 by omega)) ((Bd.mul L (W3 j 1)).mono (by omega) (by omega))) (by omega) (by omega)
theorem Yx {k q G J:Nat}{a b:Fq} (L:Bw k q a) (M:Bw k G b) (O:Bw k J c) (Z:k<=6) (h1:q<=500) (h2:G<=500) (h3:J<=500):Bk (a+b*Yj j 1+c*(Yj j 1*Yj j 1)):=by
 have U:=(W3 j 1).mul (W3 j 1)
 have W:Bd (a+b*Yj j 1) 20 1401:=Bd.mono (Bd.add (L.mono (show _<=20 by omega) (show _<=1400 by omega)) ((Bd.mul M (W3 j 1)).mono (by omega) (by omega))) (by omega) (by omega)
 exact Bd.mono (Bd.add W ((Bd.mul O U).mono (by omega) (by omega))) (by omega) (by omega)
theorem PD.sc {t G:Fq}{e:Nat}:∀ {k:Nat}{r sc q L J M:Fq},PD j t G e k r sc q L J M->J=sc*pwF G k
 | 0,r,sc,_,_,_,_,h=>by
   obtain⟨_,h2,_⟩:=h
   rw [h2]
   show sc=sc*1
   grind
 | k+1,_,_,_,_,_,_,h=>by
   obtain⟨_,_,_,h⟩:=h
   rw [PD.sc h]
   show _*G*pwF G k=_*(pwF G k*G)
   grind
theorem PD.bd {t G:Fq}{e D N:Nat} (O:Bd t D N) (J:Bd G D N):∀ {k d n:Nat}{r sc q U L W:Fq},PD j t G e k r sc q U L W->k<=3->Bd r d n->Bd sc d n->Bd q d n->Bd U (d+k*(D+2)) (n+k*(N+1))/\Bd W (d+k*(D+2)) (n+k*(N+1))
 | 0,d,n,_,_,_,_,_,_,h,_,h1,_,h3=>by
   obtain⟨rfl,_,rfl⟩:=h
   rw [Nat.zero_mul,Nat.zero_mul]
   exact⟨h1,h3⟩
 | k+1,d,n,r,sc,q,_,_,_,h,hk,h1,h2,h3=>by
   obtain⟨lo,top,w,h⟩:=h
   have M:=(w.bd h1).2
   have Z:=M.mul (W3 j k)
   have h4:Bd (r*G-top*Yj j k*t) (d+(D+2)) (n+(N+1)):=Bd.mono (Bd.sub ((h1.mul J).mono (show _<=d+(D+2)by omega) (aH _)) ((Z.mul O).mono (by omega) (by omega))) (aH _) (by omega)
   have h5:Bd (sc*G) (d+(D+2)) (n+(N+1)):=(h2.mul J).mono (by omega) (by omega)
   have h6:Bd (q*G+top*Yj j k) (d+(D+2)) (n+(N+1)):=Bd.mono (Bd.add ((h3.mul J).mono (show _<=d+(D+2)by omega) (aH _)) (Z.mono (by omega) (by omega))) (aH _) (by omega)
   obtain⟨a,b⟩:=PD.bd O J h (by omega) h4 h5 h6
   rw [fK,fK]
   exact⟨a.mono (by omega) (by omega),b.mono (by omega) (by omega)⟩
structure Ge (j:Nat) (sf sg:Fq) (n':Nat) (s a:Fq):Prop where
 ext:∃b,s-a*sf=b*sg/\Bd b 40 4000
 few:∃k,k<n'/\DL j a k
 ne:a≠0\/s≠0
noncomputable def Go (j:Nat) (sf sg:Fq) (n':Nat):Nat->Fq->Fq->Fq->Fq->Fq->Fq->Prop
 | 0,_,_,s2,a2,_,_=>Ge j sf sg n' s2 a2/\Bk s2/\Bk a2/\DL j s2 0
 | n+1,s1,a1,s2,a2,L,h=>Ge j sf sg n' s2 a2/\Bk s1/\Bk a1/\Bk s2/\Bk a2/\Bk L/\Bk h/\∀m1 m2,Mo j s1 m1->Mo j s2 m2->0<m2->m2<=m1/\m1<=m2+2/\(m1<=m2+1\/h=1)/\L*pwF h (m1-m2)≠0/\Bk (L*pwF h (m1-m2))/\
   ∀lo lead r sc q,Wt j m2 s2 lo lead->PD j s2 lead m2 (m1-m2+1) s1 1 0 r sc q->∃w wa,r=L*pwF h (m1-m2)*w/\sc*a1-q*a2=L*pwF h (m1-m2)*wa/\Bk w/\Bk wa/\Go j sf sg n' n s2 a2 w wa lead (if m1=m2 then h else pwF lead (m1-m2))
theorem Go.ge {sg:Fq}{G:Nat}{h:Fq} (g:Go j q sg G n O U J M L h):Ge j q sg G J M:=by
 cases n with
 | zero=>exact g.1
 | succ n=>exact g.1
theorem Go.stop {sg:Fq}{M:Nat}{h:Fq} (n:Nat) (g:Ge j J sg M q G) (h1:Bk O) (h2:Bk U) (W:Bk q) (Z:Bk G) (h5:Bk L) (h6:Bk h) (dl:DL j q 0):Go j J sg M n O U q G L h:=by
 cases n with
 | zero=>exact⟨g,W,Z,dl⟩
 | succ n=>
   refine⟨g,h1,h2,W,Z,h5,h6,fun m1 m2 _ mo m0=> ?_⟩
   have:=mo.le 0 dl
   omega
theorem r33 {Y:Fq}:(J+L*Y+M*(Y*Y)+q*(Y*Y*Y))*G-q*(O+U*Y+W*(Y*Y)+G*(Y*Y*Y))=(G*J-q*O)+(G*L-q*U)*Y+(G*M-q*W)*(Y*Y):=by grind
theorem Ap6 {Z Y:Fq} (e0:M=G*f0-U*W) (e1:J=G*f1-U*Z) (e2:q=G*O-U*L):
 ((W*q)+(Z*q-G*M)*Y+(L*q-G*J)*(Y*Y))*q-(L*q-G*J)*(M+J*Y+q*(Y*Y))=G*((q*(O*W-f0*L)+J*M)+(q*(O*Z-f1*L)-q*M+J*J)*Y):=by
 subst e0 e1 e2
 grind
theorem An2 {Z Y s1:Fq} (e0:u0=L*W-J*g0) (e1:M=L*Z-J*g1) (e2:G=L*O-J*U) (h0:s0=G*(O*g0-W*U)+M*u0) (h1:s1=G*(O*g1-Z*U)-G*u0+M*M) (hq:q=L*Y*G+(U*G-L*M)):
 (s0+s1*Y)-(-q)*(W+Z*Y+O*(Y*Y)+J*(Y*Y*Y))=(J*G*Y+(G*O-J*M))*(g0+g1*Y+U*(Y*Y)+L*(Y*Y*Y)):=by
 subst e0 e1 e2 h0 h1 hq
 grind
theorem x3321 {Z g3:Fq} (e0:J=g3*U-f3*g0) (e1:G=g3*W-f3*g1) (e2:L=g3*Z-f3*g2) (h2:q=Z*g0-U*g2) (hc:c=W*g2-Z*g1+J) (h1:M=U*g1-W*g0) (a0:s0=L*q+G*J) (a1:O=G*G-L*c):
 O*O*J-(G*O-L*s0)*s0=L*L*(-(L*(c*M-q*q)-G*(G*M+q*J)+J*(-(G*q)-c*J))):=by
 subst e0 e1 e2 h2 hc h1 a0 a1
 grind
theorem Akz {Z Y:Fq} (e0:U=q*f0-f3*g0) (e1:L=q*f1-f3*g1) (e2:G=q*Z-f3*O) (h2:M=Z*g0-f0*O) (hc:c=f1*O-Z*g1+U) (a0:W=G*M+L*U) (a1:J=L*L-G*c):
 J*J*q-(G*Y*J+(L*J-G*W))*(-(q*Y*G+(O*G-q*L)))=G*G*((J*g1+L*q*M+q*U*c-O*W)+(J*O-q*W)*Y+J*q*(Y*Y)):=by
 subst e0 e1 e2 h2 hc a0 a1
 grind
theorem Ak0 {Z u2 Y:Fq} (e0:M=L*f0-J*g0) (e1:G=L*f1-J*g1) (e2:u2=L*W-J*Z) (h2:q=W*g0-f0*Z) (hc:c=f1*Z-W*g1+M) (h1:U=f0*g1-f1*g0) (a0:s0=u2*q+G*M) (a1:O=G*G-u2*c):
 -(u2*(c*U-q*q)-G*(G*U+q*M)+M*(-(G*q)-c*M))-((O*g1+G*L*q+L*M*c-Z*s0)+(O*Z-L*s0)*Y+O*L*(Y*Y))*(f0+f1*Y+W*(Y*Y)+J*(Y*Y*Y))
   =(-(O*f1+G*J*q+J*M*c-W*s0)+(-(O*W-J*s0))*Y+(-(O*J))*(Y*Y))*(g0+g1*Y+Z*(Y*Y)+L*(Y*Y*Y)):=by
 subst e0 e1 e2 h2 hc h1 a0 a1
 grind
theorem x331 {Z:Fq} (e0:G=L*W-f3*M) (e1:q=L*U-f3*J) (e2:L*Z-f3*O=0):
 q*q*q*M-(J*(q*q)-(O*q-L*G)*G)*G=L*(q*q*(U*M-W*J)+(U*O-Z*J)*(G*G)-G*G*G):=by
 have h:O*q=L*(U*O-Z*J):=by subst e1;grind
 have h2:q*M-J*G=L*(U*M-W*J):=by subst e0 e1;grind
 have h3:q*q*q*M-(J*(q*q)-(O*q-L*G)*G)*G=q*q*(q*M-J*G)+(O*q)*(G*G)-L*(G*G*G):=by grind
 rw [h3,h2,h]
 grind
theorem x321 {Z e A B:Fq} (he:e=W*G-Z*J) (hA:A=U*G-Z*q) (hB:B=O*G) (h0:M=G*B-q*e) (h1:L=G*A-J*e):
 L*L*q-(J*L-G*M)*M=G*G*(q*A*A-J*A*B+G*B*B+e*(J*J*O-q*J*U-q*B-q*B+q*q*W)):=by
 subst he hA hB h0 h1
 grind
theorem An0 {Z v0 e A B Y:Fq} (he:e=M*L-O*J) (hA:A=Z*L-O*G) (hB:B=f0*L) (h0:v0=L*B-G*e) (h1:U=L*A-J*e) (hW:W=G*A*A-J*A*B+L*B*B+e*(J*J*f0-G*J*Z-G*B-G*B+G*G*M)) (hq:q=L*Y*U+(J*U-L*v0)):
 W-(-q)*(f0+Z*Y+M*(Y*Y)+O*(Y*Y*Y))=((A*A-e*B-e*(Z*J-M*G))+(M*U-O*v0)*Y+O*U*(Y*Y))*(G+J*Y+L*(Y*Y)):=by
 subst he hA hB h0 h1 hW hq
 grind
theorem An1 {Z Y:Fq} (n:L≠0) (e0:M=L*f0-J*g0) (e1:G=L*Z-J*g1) (e2:L*O-J*U=0) (hW:W=G*G*(Z*g0-f0*g1)+(Z*U-O*g1)*(M*M)-M*M*M) (hq:q=L*(G*G)*(Y*Y)+G*(U*G-L*M)*Y+(g1*(G*G)-(U*G-L*M)*M)):
 W-(-q)*(f0+Z*Y+O*(Y*Y)+J*(Y*Y*Y))=((G*G*Z-O*G*M+J*(M*M))+G*(O*G-J*M)*Y+J*(G*G)*(Y*Y))*(g0+g1*Y+U*(Y*Y)+L*(Y*Y*Y)):=by
 have ef:J*U=L*O:=by
  clear hW hq e0 e1
  grind
 obtain⟨f,hf⟩:∃f,f=f0+Z*Y+O*(Y*Y)+J*(Y*Y*Y):=⟨_,rfl⟩
 obtain⟨g,hg⟩:∃g,g=g0+g1*Y+U*(Y*Y)+L*(Y*Y*Y):=⟨_,rfl⟩
 have r1:L*f-J*g=M+G*Y:=by
  have h:L*f-J*g=(L*f0-J*g0)+(L*Z-J*g1)*Y+(L*O-J*U)*(Y*Y):=by rw [hf,hg];grind
  rw [h,e2,<-e0,<-e1]
  clear hW hq e0 e1 e2 ef h
  grind
 have hr:G*G*G*g-q*(M+G*Y)=L*W:=by
  rw [hW,<-x331 e0 e1 e2,hq,hg]
  grind
 have hb:L*((G*G*Z-O*G*M+J*(M*M))+G*(O*G-J*M)*Y+J*(G*G)*(Y*Y))=G*G*G+J*q:=by
  have h:J*q=J*L*(G*G)*(Y*Y)+G*((J*U)*G-J*L*M)*Y+(J*g1*(G*G)-((J*U)*G-J*L*M)*M):=by rw [hq];grind
  rw [h,ef]
  have h3:G*G*G=G*G*(L*Z-J*g1):=by rw [<-e1]
  rw [h3]
  grind
 rw [<-hf,<-hg]
 refine Aen n ?_
 have h1:L*(W-(-q)*f)=(L*W)+q*(L*f):=by grind
 have h2:∀b,L*(b*g)=(L*b)*g:=fun b=>by grind
 rw [h1,h2,hb,<-hr]
 have h4:L*f=M+G*Y+J*g:=by rw [<-r1];grind
 rw [h4]
 grind
end
variable {sf:Fq}
section
variable {j:Nat}
theorem Air {a:Fq} (h:DL j a 0):∀k,DL j (pwF a k) 0
 | 0=>DL.one j
 | k+1=>(Air h k).mul h
theorem Ai0 {a:Fq} (h:a≠0) (o:(1:Fq)≠0):∀k,pwF a k≠0
 | 0=>o
 | k+1=>Mg (Ai0 h o k) h
theorem Qh:(1:Fq)≠0:=fun h=>by
 have h1:tot (csT 1) (0,0,0)=tot (csT 0) (0,0,0):=Nf h (0,0,0)
 rw [Dd,Dd,aI rfl,aI rfl]at h1
 exact absurd h1 (by decide)
theorem Abg:∀k:Nat,pwF 1 k=1
 | 0=>rfl
 | k+1=>by
   show pwF 1 k*1=1
   rw [Abg k]
   grind
theorem J9 (a:Fq):pwF a 1=a:=by
 show 1*a=a
 grind
theorem Apd (m:Nat):Wt j m 0 0 0:=⟨by grind,DL.zero j,fun k _=>(DL.zero j).mono (bO k),fun _=>rfl⟩
theorem ne1 {a b:Fq} (q:DL j a 0) (G:DL j b 0) (n:b≠0):a+b*Yj j 1≠0:=fun z=>n ((wt1 q G z.symm).uniq (Apd 1)).2
theorem ne2 {a b:Fq} (q:DL j a 0) (G:DL j b 0) (J:DL j c 0) (n:c≠0):a+b*Yj j 1+c*(Yj j 1*Yj j 1)≠0:=fun z=>n ((wt2 q G J z.symm).uniq (Apd 2)).2
theorem dl1 {a b:Fq} (q:DL j a 0) (G:DL j b 0):DL j (a+b*Yj j 1) 1:=(q.mono (by decide)).add (G.mul (DL.Y j 1))
theorem dl2 {a b:Fq} (q:DL j a 0) (G:DL j b 0) (J:DL j c 0):DL j (a+b*Yj j 1+c*(Yj j 1*Yj j 1)) 2:=((dl1 q G).mono (by decide)).add (J.mul ((DL.Y j 1).mul (DL.Y j 1)))
theorem Qo {lo:Fq} (h:Mo j s m) (g:Wt j m s lo w) (q:0<m):w≠0:=fun z=>by
 have e:s=lo:=by rw [g.eq,z];grind
 cases hm:m with
 | zero=>omega
 | succ k=>
   have:=h.le k (by rw [e];exact g.lo1 k hm)
   omega
theorem ge1 {sg lo sc:Fq}{J:Nat} (mf:Mo j L m) (mg:Mo j sg J) (U:0<J) (m3:m<=3) (Z:Bd L 3 140) (W:Bd sg 3 140) (w:Wt j J sg lo G) (p:PD j sg G J (m-J+1) L 1 0 r sc q):
 Ge j L sg J r (sc*1-q*0)/\Bk r/\Bk (sc*1-q*0)/\Bk G/\sc*1-q*0=pwF G (m-J+1):=by
 have O:=(w.bd W).2
 have M:sc*1-q*0=pwF G (m-J+1):=by
  rw [PD.sc p]
  grind
 have ed:=PD.eq (s:=L) (t:=sg) (r:=L) (sc:=1) (q:=0) (by grind) p
 obtain⟨b1,b2⟩:=PD.bd W O p (by omega) Z (Bd.one.mono (by decide) (by decide)) (Bd.zero.mono (by decide) (by decide))
 have l1:(m-J+1)*(3+2)<=3*5:=bS _ (by omega)
 have l2:(m-J+1)*(140+1)<=3*141:=bS _ (by omega)
 have bp:∀k,k<=3->Bd (pwF G k) (3*k) (140*k):=fun k=>by
  induction k with
  | zero=>exact fun _=>Bd.one
  | succ k ih=>exact fun h=>((ih (by omega)).mul O).mono (by omega) (by omega)
 have l0:=Qo mg w U
 refine⟨⟨⟨-q,by grind,b2.neg.mono (by omega) (by omega)⟩,⟨0,U,by rw [M];exact Air w.d0 _⟩,.inl (by rw [M];exact Ai0 l0 Qh _)⟩,b1.mono (by omega) (by omega),?_,O.mono (by decide) (by decide),M⟩
 rw [M]
 exact(bp _ (by omega)).mono (by omega) (by omega)
theorem x221 {u Y:Fq} (Z:G=J*W-O*U) (e1:u=J*M-O*L) (hq:q=J*Y*u+(L*u-J*G)):
 (U*u+(L*u-J*G)*Y)*u-(L*u-J*G)*(G+u*Y)=J*(u*(M*U-W*L)+G*G)/\(u*(M*U-W*L)+G*G)-(-q)*(W+M*Y+O*(Y*Y))=((u*M-O*G)+O*u*Y)*(U+L*Y+J*(Y*Y)):=by
 subst Z e1 hq
 constructor<;>grind
theorem Aps {sg lo sc:Fq} (mf:Mo j sf 2) (mg:Mo j sg 2) (bf:Bd sf 3 140) (bg:Bd sg 3 140) (w:Wt j 2 sg lo G) (p:PD j sg G 2 1 sf 1 0 r sc q):Go j sf sg 2 2 sg 0 r (sc*1-q*0) G 1:=by
 obtain⟨gg,br,ba,bl,_⟩:=ge1 mf mg (by decide) (by decide) bf bg w p
 obtain⟨f0,f1,f2,a1,Z,U,ef⟩:=co2 mf.dl bf
 obtain⟨g0,g1,g2,W,M,L,eg⟩:=co2 mg.dl bg
 obtain⟨_,rfl⟩:=w.uniq (wt2 W.dl M.dl L.dl eg)
 have l0:=Qo mg w (by decide)
 obtain⟨er,a8,eq⟩:=pd1 p (wt2 a1.dl Z.dl U.dl ef)
 have a2:r=(G*f0-f2*g0)+(G*f1-f2*g1)*Yj j 1:=by rw [er,ef,eg];grind
 have O:∀ {x:Fq},Co j 3 140 x->Bw 1 0 x:=fun h=>h.bd
 obtain⟨ul,a4⟩:∃x,x=G*f0-f2*g0:=⟨_,rfl⟩
 obtain⟨u,hu⟩:∃x,x=G*f1-f2*g1:=⟨_,rfl⟩
 have a0:DL j ul 0:=by rw [a4];exact(L.dl.mul a1.dl).sub (U.dl.mul W.dl)
 have du:DL j u 0:=by rw [hu];exact(L.dl.mul Z.dl).sub (U.dl.mul M.dl)
 have a5:Bw 2 1 ul:=by rw [a4];exact((O L).mul (O a1)).sub ((O U).mul (O W))
 have bu:Bw 2 1 u:=by rw [hu];exact((O L).mul (O Z)).sub ((O U).mul (O M))
 rw [<-a4,<-hu]at a2
 refine⟨gg,bg.mono (by decide) (by decide),Bd.zero.mono (by decide) (by decide),br,ba,bl,Bd.one.mono (by decide) (by decide),fun m1 m2 h1 h2 m0=> ?_⟩
 obtain rfl:=h1.uniq mg
 have w1:=wt1 a0 du a2
 obtain rfl:m2=1:=by have:=h2.le 1 (by rw [a2];exact dl1 a0 du);omega
 have ek:G*pwF 1 (2-1)=G:=by rw [Abg];grind
 have u0:=Qo h2 w1 (by decide)
 refine⟨by decide,by decide,.inl (by decide),by rw [ek];exact l0,by rw [ek];exact bl,fun ac J r2 ad q2 w2 p2=> ?_⟩
 rw [ek]
 obtain⟨_,rfl⟩:=w2.uniq w1
 have et:sg*J-G*Yj j 1*r=g0*J+(g1*J-G*ul)*Yj j 1:=by rw [eg,a2];grind
 obtain⟨a9,ae,a6⟩:=pd2 p2 (wt2 W.dl M.dl L.dl eg) (wt1 (W.dl.mul du) ((M.dl.mul du).sub (L.dl.mul a0)) et)
 obtain⟨x1,x2⟩:=x221 (Y:=Yj j 1) a4 hu (q:=q2) (by rw [a6])
 have e1:r2=G*(J*(f1*g0-f0*g1)+ul*ul):=by rw [a9,et,a2];exact x1
 rw [<-ef,<-eg]at x2
 have hw:Bw 4 _ (J*(f1*g0-f0*g1)+ul*ul):=(bu.mul (((O Z).mul (O W)).sub ((O a1).mul (O M)))).add (a5.mul a5)
 have a3: -q2= -(g1*J-G*ul)+(-(G*J))*Yj j 1:=by rw [a6];grind
 have dq:=((M.dl.mul du).sub (L.dl.mul a0)).neg
 have a7:=(L.dl.mul du).neg
 have aa:Bw 3 _ (-(g1*J-G*ul)):=(((O M).mul bu).sub ((O L).mul a5)).neg
 have ab:Bw 3 _ (-(G*J)):=((O L).mul bu).neg
 have bq:Bk (-q2):=by rw [a3];exact W5 aa ab (by decide) (by decide) (by decide)
 refine⟨_,-q2,e1,by rw [a8];grind,hw.bk (by decide) (by decide),bq,?_⟩
 refine Go.stop 1 ⟨⟨_,x2,?_⟩,⟨1,by decide,by rw [a3];exact dl1 dq a7⟩,.inl ?_⟩ br ba (hw.bk (by decide) (by decide)) bq (bu.bk (by decide) (by decide)) ?_ ?_
 . have b0:Bw 3 _ (J*f1-f2*ul):=(bu.mul (O Z)).sub ((O U).mul a5)
   have b1:Bw 3 _ (f2*J):=(O U).mul bu
   exact Bd.mono (W5 b0 b1 (by decide) (by decide) (by decide)) (by decide) (by decide)
 . rw [a3]
   refine ne1 dq a7 fun z=>Mg l0 u0 ?_
   have:G*J= -(-(G*J)):=by grind
   rw [this,z]
   grind
 . rw [aF (by decide),J9]
   exact bu.bk (by decide) (by decide)
 . exact(du.mul ((Z.dl.mul W.dl).sub (a1.dl.mul M.dl))).add (a0.mul a0)
theorem pdx {a Y:Fq}:(c*q+a*Y)*q-a*(G+q*Y)=q*q*c-a*G:=by grind
theorem Apt {sg lo sc:Fq} (mf:Mo j sf 3) (mg:Mo j sg 2) (bf:Bd sf 3 140) (bg:Bd sg 3 140) (w:Wt j 2 sg lo G) (p:PD j sg G 2 2 sf 1 0 r sc q):Go j sf sg 2 2 sg 0 r (sc*1-q*0) G (pwF G 1):=by
 obtain⟨gg,br,ba,bl,ea⟩:=ge1 mf mg (by decide) (by decide) bf bg w p
 obtain⟨f0,f1,f2,f3,a4,a1,Z,a0,ef⟩:=co3 mf.dl bf
 obtain⟨g0,g1,g2,M,U,L,eg⟩:=co2 mg.dl bg
 obtain⟨_,rfl⟩:=w.uniq (wt2 M.dl U.dl L.dl eg)
 have l0:=Qo mg w (by decide)
 have O:∀ {x:Fq},Co j 3 140 x->Bw 1 0 x:=fun h=>h.bd
 obtain⟨e,he⟩:∃x,x=f2*G-f3*g1:=⟨_,rfl⟩
 obtain⟨A,hA⟩:∃x,x=f1*G-f3*g0:=⟨_,rfl⟩
 obtain⟨B,hB⟩:∃x,x=f0*G:=⟨_,rfl⟩
 have de:DL j e 0:=by rw [he];exact(Z.dl.mul L.dl).sub (a0.dl.mul U.dl)
 have dA:DL j A 0:=by rw [hA];exact(a1.dl.mul L.dl).sub (a0.dl.mul M.dl)
 have dB:DL j B 0:=by rw [hB];exact a4.dl.mul L.dl
 have be:Bw 2 1 e:=by rw [he];exact((O Z).mul (O L)).sub ((O a0).mul (O U))
 have bA:Bw 2 1 A:=by rw [hA];exact((O a1).mul (O L)).sub ((O a0).mul (O M))
 have bB:Bw 2 0 B:=by rw [hB];exact(O a4).mul (O L)
 have e1:sf*G-f3*Yj j 1*sg=B+A*Yj j 1+e*(Yj j 1*Yj j 1):=by rw [ef,eg,hB,hA,he];grind
 obtain⟨er,af,eq⟩:=pd2 p (wt3 a4.dl a1.dl Z.dl a0.dl ef) (wt2 dB dA de e1)
 obtain⟨v0,a5⟩:∃x,x=G*B-g0*e:=⟨_,rfl⟩
 obtain⟨v1,a6⟩:∃x,x=G*A-g1*e:=⟨_,rfl⟩
 have a8:DL j v0 0:=by rw [a5];exact(L.dl.mul dB).sub (M.dl.mul de)
 have a2:DL j v1 0:=by rw [a6];exact(L.dl.mul dA).sub (U.dl.mul de)
 have aa:Bw 3 2 v0:=by rw [a5];exact((O L).mul bB).sub ((O M).mul be)
 have a3:Bw 3 3 v1:=by rw [a6];exact((O L).mul bA).sub ((O U).mul be)
 have a9:r=v0+v1*Yj j 1:=by rw [er,e1,eg,a5,a6];grind
 have bh:Bk (pwF G 1):=by rw [J9];exact bl
 refine⟨gg,bg.mono (by decide) (by decide),Bd.zero.mono (by decide) (by decide),br,ba,bl,bh,fun m1 m2 h1 h2 m0=> ?_⟩
 obtain rfl:=h1.uniq mg
 have w1:=wt1 a8 a2 a9
 obtain rfl:m2=1:=by have:=h2.le 1 (by rw [a9];exact dl1 a8 a2);omega
 have ek:G*pwF (pwF G 1) (2-1)=G*G:=by rw [show 2-1=1 from rfl,J9,J9]
 have u0:=Qo h2 w1 (by decide)
 have ag:Bw 2 0 (G*G):=(O L).mul (O L)
 refine⟨by decide,by decide,.inl (by decide),by rw [ek];exact Mg l0 l0,by rw [ek];exact ag.bk (by decide) (by decide),fun al J r2 am q2 w2 p2=> ?_⟩
 rw [ek]
 obtain⟨_,rfl⟩:=w2.uniq w1
 have et:sg*J-G*Yj j 1*r=g0*J+(g1*J-G*v0)*Yj j 1:=by rw [eg,a9];grind
 obtain⟨ah,an,ab⟩:=pd2 p2 (wt2 M.dl U.dl L.dl eg) (wt1 (M.dl.mul a2) ((U.dl.mul a2).sub (L.dl.mul a8)) et)
 obtain⟨W,hW⟩:∃x,x=g0*A*A-g1*A*B+G*B*B+e*(g1*g1*f0-g0*g1*f1-g0*B-g0*B+g0*g0*f2):=⟨_,rfl⟩
 have x1:=x321 he hA hB a5 a6
 have x2:=An0 (Y:=Yj j 1) (q:=q2) he hA hB a5 a6 hW ab
 rw [<-ef,<-eg]at x2
 rw [<-hW]at x1
 have e2:r2=G*G*W:=by rw [ah,et,a9,pdx,x1]
 have ac:=(((((O M).mul bA).mul bA).sub (((O U).mul bA).mul bB)).add (((O L).mul bB).mul bB)).add (be.mul ((((((O U).mul (O U)).mul (O a4)).sub (((O M).mul (O U)).mul (O a1))).sub ((O M).mul bB) |>.sub ((O M).mul bB)).add (((O M).mul (O M)).mul (O Z))))
 rw [<-hW]at ac
 have ai:DL j W 0:=by
  rw [hW]
  exact(((((M.dl.mul dA).mul dA).sub ((U.dl.mul dA).mul dB)).add ((L.dl.mul dB).mul dB)).add (de.mul ((((((U.dl.mul U.dl).mul a4.dl).sub ((M.dl.mul U.dl).mul a1.dl)).sub (M.dl.mul dB)).sub (M.dl.mul dB)).add ((M.dl.mul M.dl).mul Z.dl))))
 have a7: -q2= -(g1*J-G*v0)+(-(G*J))*Yj j 1:=by rw [ab];grind
 have dq:=((U.dl.mul a2).sub (L.dl.mul a8)).neg
 have ad:=(L.dl.mul a2).neg
 have aj:Bw 4 _ (-(g1*J-G*v0)):=(((O U).mul a3).sub ((O L).mul aa)).neg
 have ak:Bw 4 _ (-(G*J)):=((O L).mul a3).neg
 have bq:Bk (-q2):=by rw [a7];exact W5 aj ak (by decide) (by decide) (by decide)
 have ae:=ac.bk (by decide) (by decide)
 refine⟨W,-q2,e2,by rw [af];grind,ae,bq,?_⟩
 refine Go.stop 1 ⟨⟨_,x2,?_⟩,⟨1,by decide,by rw [a7];exact dl1 dq ad⟩,.inl ?_⟩ br ba ae bq (a3.bk (by decide) (by decide)) ?_ ai
 . have b0:Bw 4 _ (A*A-e*B-e*(f1*g1-f2*g0)):=((bA.mul bA).sub (be.mul bB)).sub (be.mul (((O a1).mul (O U)).sub ((O Z).mul (O M))))
   have b1:Bw 4 _ (f2*J-f3*v0):=((O Z).mul a3).sub ((O a0).mul aa)
   have b2:Bw 4 _ (f3*J):=(O a0).mul a3
   exact Bd.mono (Yx b0 b1 b2 (by decide) (by decide) (by decide) (by decide)) (by decide) (by decide)
 . rw [a7]
   refine ne1 dq ad fun z=>Mg l0 u0 ?_
   have:G*J= -(-(G*J)):=by grind
   rw [this,z]
   grind
 . rw [aF (by decide),J9]
   exact a3.bk (by decide) (by decide)
theorem Ams {f2 Z u0 u1 sf sg r a q1 sc q lo G:Fq} (aa:Co j 3 140 f0) (a3:Co j 3 140 f1) (a7:Co j 3 140 f2) (a9:Co j 3 140 f3) (a4:Co j 3 140 g0) (a0:Co j 3 140 g1) (a5:Co j 3 140 g2) (a6:Co j 3 140 Z)
 (ef:sf=f0+f1*Yj j 1+f2*(Yj j 1*Yj j 1)+f3*(Yj j 1*Yj j 1*Yj j 1)) (eg:sg=g0+g1*Yj j 1+g2*(Yj j 1*Yj j 1)+Z*(Yj j 1*Yj j 1*Yj j 1)) (l0:Z≠0) (e0:u0=Z*f0-f3*g0) (e1:u1=Z*f1-f3*g1) (e2:Z*f2-f3*g2=0) (M:r=u0+u1*Yj j 1) (ea:a=Z)
 (a1:DL j u0 0) (L:DL j u1 0) (U:Bw 2 1 u0) (J:Bw 2 1 u1) (n1:u1≠0) (br:Bk r) (ba:Bk a) (w:Wt j 1 r lo G) (p:PD j r G 1 3 sg 1 0 q1 sc q):
 ∃w' wa,q1=Z*w'/\sc*0-q*a=Z*wa/\Bk w'/\Bk wa/\Go j sf sg 3 1 r a w' wa G (pwF G 2):=by
 have bw:∀ {x:Fq},Co j 3 140 x->Bw 1 0 x:=fun h=>h.bd
 obtain⟨_,rfl⟩:=w.uniq (wt1 a1 L M)
 have t1:sg*G-Z*(Yj j 1*Yj j 1)*r=g0*G+(g1*G)*Yj j 1+(g2*G-Z*u0)*(Yj j 1*Yj j 1):=by rw [eg,M];clear e0 e1 e2 ea M eg ef;grind
 obtain⟨c2,O⟩:∃x,x=g2*G-Z*u0:=⟨_,rfl⟩
 have a8:DL j c2 0:=by rw [O];exact(a5.dl.mul L).sub (a6.dl.mul a1)
 have ab:Bw 3 3 c2:=by rw [O];exact((bw a5).mul J).sub ((bw a6).mul U)
 rw [<-O]at t1
 have t2:(sg*G-Z*(Yj j 1*Yj j 1)*r)*G-c2*Yj j 1*r=g0*G*G+(g1*G*G-c2*u0)*Yj j 1:=by rw [t1,M];clear e0 e1 e2 ea M eg ef t1;grind
 have d1:DL j (g1*G*G-c2*u0) 0:=((a0.dl.mul L).mul L).sub (a8.mul a1)
 obtain⟨er,es,eq⟩:=pd3 p (wt3 a4.dl a0.dl a5.dl a6.dl eg) (wt2 (a4.dl.mul L) (a0.dl.mul L) a8 t1) (wt1 ((a4.dl.mul L).mul L) d1 t2)
 obtain⟨W,hW⟩:∃x,x=G*G*(f1*g0-f0*g1)+(f1*g2-f2*g1)*(u0*u0)-u0*u0*u0:=⟨_,rfl⟩
 have x1:=x331 e0 e1 e2
 rw [<-hW]at x1
 have a2:q=Z*(G*G)*(Yj j 1*Yj j 1)+G*(g2*G-Z*u0)*Yj j 1+(g1*(G*G)-(g2*G-Z*u0)*u0):=by rw [eq,O];clear e0 e1 e2 ea M eg ef t1 t2 O;grind
 have x2:=An1 (Y:=Yj j 1) l0 e0 e1 e2 hW a2
 rw [<-ef,<-eg]at x2
 have e3:q1=Z*W:=by
  rw [er,t2,M,<-x1,O]
  clear e0 e1 e2 ea M eg ef t1 t2 O x1 x2 hW eq a2 er
  grind
 have bW:=(((J.mul J).mul (((bw a3).mul (bw a4)).sub ((bw aa).mul (bw a0)))).add ((((bw a3).mul (bw a5)).sub ((bw a7).mul (bw a0))).mul (U.mul U))).sub ((U.mul U).mul U)
 rw [<-hW]at bW
 have dW:DL j W 0:=by rw [hW];exact(((L.mul L).mul ((a3.dl.mul a4.dl).sub (aa.dl.mul a0.dl))).add (((a3.dl.mul a5.dl).sub (a7.dl.mul a0.dl)).mul (a1.mul a1))).sub ((a1.mul a1).mul a1)
 have ac:Bk W:=Bw.bk bW (by decide) (by decide)
 have ad:DL j (-(g1*(G*G)-c2*u0)) 0:=((a0.dl.mul (L.mul L)).sub (a8.mul a1)).neg
 have ae:DL j (-(G*c2)) 0:=(L.mul a8).neg
 have af:DL j (-(Z*(G*G))) 0:=(a6.dl.mul (L.mul L)).neg
 have ag:=(((bw a0).mul (J.mul J)).sub (ab.mul U)).neg
 have ah:=(J.mul ab).neg
 have ai:=((bw a6).mul (J.mul J)).neg
 have nq: -q= -(g1*(G*G)-c2*u0)+(-(G*c2))*Yj j 1+(-(Z*(G*G)))*(Yj j 1*Yj j 1):=by rw [a2,O];clear e0 e1 e2 ea M eg ef t1 t2 O x1 x2 hW eq a2 er;grind
 have bq:Bk (-q):=by rw [nq];exact Yx ag ah ai (by decide) (by decide) (by decide) (by decide)
 refine⟨W,-q,e3,by rw [ea];clear e0 e1 e2 M eg ef t1 t2 O x1 x2 hW eq a2 er;grind,ac,bq,?_⟩
 refine Go.stop 1 ⟨⟨_,x2,?_⟩,⟨2,by decide,by rw [nq];exact dl2 ad ae af⟩,.inl ?_⟩ br ba ac bq (J.bk (by decide) (by decide)) ?_ dW
 . have b0:=(((J.mul J).mul (bw a3)).sub (((bw a7).mul J).mul U)).add ((bw a9).mul (U.mul U))
   have b1:=J.mul (((bw a7).mul J).sub ((bw a9).mul U))
   have b2:=(bw a9).mul (J.mul J)
   exact Bd.mono (Yx b0 b1 b2 (by decide) (by decide) (by decide) (by decide)) (by decide) (by decide)
 . rw [nq]
   refine ne2 ad ae af fun z=>Mg l0 (Mg n1 n1) ?_
   have:Z*(G*G)= -(-(Z*(G*G))):=by clear e0 e1 e2 ea M eg ef t1 t2 O x1 x2 hW eq a2 er nq z;grind
   rw [this,z]
   grind
 . show Bk (1*G*G)
   rw [show(1:Fq)*G*G=G*G by clear e0 e1 e2 ea M eg ef t1 t2 O x1 x2 hW eq a2 er nq;grind]
   exact(J.mul J).bk (by decide) (by decide)
theorem Amt {f2 g3 u0 u1 u2 sf sg r a q1 sc q lo G:Fq} (an:Co j 3 140 f0) (ak:Co j 3 140 f1) (ad:Co j 3 140 f2) (ai:Co j 3 140 f3) (aj:Co j 3 140 g0) (ab:Co j 3 140 g1) (M:Co j 3 140 g2) (L:Co j 3 140 g3)
 (ef:sf=f0+f1*Yj j 1+f2*(Yj j 1*Yj j 1)+f3*(Yj j 1*Yj j 1*Yj j 1)) (eg:sg=g0+g1*Yj j 1+g2*(Yj j 1*Yj j 1)+g3*(Yj j 1*Yj j 1*Yj j 1)) (l0:g3≠0) (e0:u0=g3*f0-f3*g0) (e1:u1=g3*f1-f3*g1) (e2:u2=g3*f2-f3*g2) (O:r=u0+u1*Yj j 1+u2*(Yj j 1*Yj j 1)) (ea:a=g3)
 (a6:DL j u0 0) (U:DL j u1 0) (Z:DL j u2 0) (ae:Bw 2 1 u0) (a7:Bw 2 1 u1) (a8:Bw 2 1 u2) (n2:u2≠0) (mr:Mo j r 2) (br:Bk r) (ba:Bk a) (w:Wt j 2 r lo G) (p:PD j r G 2 2 sg 1 0 q1 sc q):
 ∃w' wa,q1=g3*w'/\sc*0-q*a=g3*wa/\Bk w'/\Bk wa/\Go j sf sg 3 1 r a w' wa G (pwF G 1):=by
 have J:∀ {x:Fq},Co j 3 140 x->Bw 1 0 x:=fun h=>h.bd
 obtain⟨_,rfl⟩:=w.uniq (wt2 a6 U Z O)
 have t1:sg*G-g3*Yj j 1*r=g0*G+(g1*G-g3*u0)*Yj j 1+(g2*G-g3*u1)*(Yj j 1*Yj j 1):=by rw [eg,O];clear e0 e1 e2 ea O eg ef;grind
 obtain⟨er,es,eq⟩:=pd2 p (wt3 aj.dl ab.dl M.dl L.dl eg) (wt2 (aj.dl.mul Z) ((ab.dl.mul Z).sub (L.dl.mul a6)) ((M.dl.mul Z).sub (L.dl.mul U)) t1)
 obtain⟨af,a0⟩:∃x,x=f2*g0-f0*g2:=⟨_,rfl⟩
 obtain⟨c,hc⟩:∃x,x=f1*g2-f2*g1+u0:=⟨_,rfl⟩
 obtain⟨ao,ac⟩:∃x,x=f0*g1-f1*g0:=⟨_,rfl⟩
 obtain⟨s0,a1⟩:∃x,x=G*af+u1*u0:=⟨_,rfl⟩
 obtain⟨s1,a2⟩:∃x,x=u1*u1-G*c:=⟨_,rfl⟩
 have a9:DL j af 0:=by rw [a0];exact(ad.dl.mul aj.dl).sub (an.dl.mul M.dl)
 have dc:DL j c 0:=by rw [hc];exact((ak.dl.mul M.dl).sub (ad.dl.mul ab.dl)).add a6
 have ap:DL j ao 0:=by rw [ac];exact(an.dl.mul ab.dl).sub (ak.dl.mul aj.dl)
 have a3:Bw 2 1 af:=by rw [a0];exact((J ad).mul (J aj)).sub ((J an).mul (J M))
 have bc:Bw 2 3 c:=by rw [hc];exact(((J ak).mul (J M)).sub ((J ad).mul (J ab))).add ae
 have aq:Bw 2 1 ao:=by rw [ac];exact((J an).mul (J ab)).sub ((J ak).mul (J aj))
 have al:DL j s0 0:=by rw [a1];exact(Z.mul a9).add (U.mul a6)
 have ag:DL j s1 0:=by rw [a2];exact(U.mul U).sub (Z.mul dc)
 have am:Bw 4 5 s0:=by rw [a1];exact(a8.mul a3).add (a7.mul ae)
 have ah:Bw 4 7 s1:=by rw [a2];exact(a7.mul a7).sub (a8.mul bc)
 have a4:s0=G*(f2*g0-f0*g2)+u1*u0:=by rw [a1,a0]
 have a5:s1=G*(f2*g1-f1*g2)-G*u0+u1*u1:=by rw [a2,hc];clear e0 e1 e2 ea O eg ef t1;grind
 have x1:=Ap6 (Y:=Yj j 1) e0 e1 e2
 rw [<-a4,<-a5]at x1
 have x2:=An2 (Y:=Yj j 1) e0 e1 e2 a4 a5 eq
 rw [<-ef,<-eg]at x2
 have e3:q1=g3*(s0+s1*Yj j 1):=by
  rw [er,t1,O]
  exact x1
 have bW:Bk (s0+s1*Yj j 1):=W5 am ah (by decide) (by decide) (by decide)
 have as:DL j (-(g2*G-g3*u1)) 0:=((M.dl.mul Z).sub (L.dl.mul U)).neg
 have au:DL j (-(g3*G)) 0:=(L.dl.mul Z).neg
 have az:=(((J M).mul a8).sub ((J L).mul a7)).neg
 have b3:=((J L).mul a8).neg
 have nq: -q= -(g2*G-g3*u1)+(-(g3*G))*Yj j 1:=by rw [eq];clear e0 e1 e2 ea O eg ef t1 a4 a5 x1 x2 a1 a2 er;grind
 have bq:Bk (-q):=by rw [nq];exact W5 az b3 (by decide) (by decide) (by decide)
 have gg:Ge j sf sg 3 (s0+s1*Yj j 1) (-q):=by
  refine⟨⟨_,x2,?_⟩,⟨1,by decide,by rw [nq];exact dl1 as au⟩,.inl ?_⟩
  . have b0:=(a8.mul (J ad)).sub ((J ai).mul a7)
    have b1:=(J ai).mul a8
    have e:f3*G*Yj j 1+(G*f2-f3*u1)=(G*f2-f3*u1)+f3*G*Yj j 1:=by clear e0 e1 e2 ea O eg ef t1 a4 a5 x1 x2 a1 a2 er nq;grind
    rw [e]
    exact Bd.mono (W5 b0 b1 (by decide) (by decide) (by decide)) (by decide) (by decide)
  . rw [nq]
    refine ne1 as au fun z=>Mg l0 n2 ?_
    have:g3*G= -(-(g3*G)):=by clear e0 e1 e2 ea O eg ef t1 a4 a5 x1 x2 a1 a2 er nq z;grind
    rw [this,z]
    grind
 have bl:Bk G:=a8.bk (by decide) (by decide)
 have bh:Bk (pwF G 1):=by rw [J9];exact bl
 refine⟨_,-q,e3,by rw [ea];clear e0 e1 e2 O eg ef t1 a4 a5 x1 x2 a1 a2 er nq gg;grind,bW,bq,gg,br,ba,bW,bq,bl,bh,fun m1 m2 h1 h2 m0=> ?_⟩
 obtain rfl:=h1.uniq mr
 have w1:=wt1 al ag (rfl:s0+s1*Yj j 1=s0+s1*Yj j 1)
 obtain rfl:m2=1:=by have:=h2.le 1 (dl1 al ag);omega
 have n1:=Qo h2 w1 (by decide)
 have ek:G*pwF (pwF G 1) (2-1)=G*G:=by rw [show 2-1=1 from rfl,J9,J9]
 refine⟨by decide,by decide,.inl (by decide),by rw [ek];exact Mg n2 n2,by rw [ek];exact(a8.mul a8).bk (by decide) (by decide),fun be aa r3 bf q3 w3 p3=> ?_⟩
 rw [ek]
 obtain⟨_,rfl⟩:=w3.uniq w1
 have t3:r*aa-G*Yj j 1*(s0+aa*Yj j 1)=u0*aa+(u1*aa-G*s0)*Yj j 1:=by rw [O];clear e0 e1 e2 ea O eg ef t1 a4 a5 x1 x2 a1 a2 er nq gg hc a0 ac;grind
 obtain⟨b4,b5,b6⟩:=pd2 p3 (wt2 a6 U Z O) (wt1 (a6.mul ag) ((U.mul ag).sub (Z.mul al)) t3)
 have y1:=x3321 e0 e1 e2 a0 hc ac a1 a2
 have y2:=Ak0 (Y:=Yj j 1) e0 e1 e2 a0 hc ac a1 a2
 have y3:=Akz (Y:=Yj j 1) e0 e1 e2 a0 hc a1 a2
 rw [<-ef,<-eg]at y2
 rw [<-eq,<-b6]at y3
 obtain⟨W,hW⟩:∃x,x= -(G*(c*ao-af*af)-u1*(u1*ao+af*u0)+u0*(-(u1*af)-c*u0)):=⟨_,rfl⟩
 rw [<-hW]at y1 y2
 have e5:r3=G*G*W:=by rw [b4,t3,pdx];rw [<-y1]
 have ar:=(((a8.mul ((bc.mul aq).sub (a3.mul a3))).sub (a7.mul ((a7.mul aq).add (a3.mul ae)))).add (ae.mul ((a7.mul a3).neg.sub (bc.mul ae)))).neg
 rw [<-hW]at ar
 have b7:DL j W 0:=by rw [hW];exact(((Z.mul ((dc.mul ap).sub (a9.mul a9))).sub (U.mul ((U.mul ap).add (a9.mul a6)))).add (a6.mul ((U.mul a9).neg.sub (dc.mul a6)))).neg
 have b8:=(((ah.mul (J ab)).add ((a7.mul (J L)).mul a3)).add (((J L).mul ae).mul bc)).sub ((J M).mul am)
 have b9:=(ah.mul (J M)).sub ((J L).mul am)
 have bb:=ah.mul (J L)
 have av:=(((ag.mul ab.dl).add ((U.mul L.dl).mul a9)).add ((L.dl.mul a6).mul dc)).sub (M.dl.mul al)
 have aw:=(ag.mul M.dl).sub (L.dl.mul al)
 have ax:=ag.mul L.dl
 have ay:=Yx (j:=j) b8 b9 bb (by decide) (by decide) (by decide) (by decide)
 refine⟨W,_,e5,?_,Bw.bk ar (by decide) (by decide),ay,⟨⟨_,y2,?_⟩,⟨2,by decide,dl2 av aw ax⟩,.inl (ne2 av aw ax (Mg n1 l0))⟩,Bw.bk ar (by decide) (by decide),ay,b7⟩
 . rw [b5,ea,<-y3]
 . have b0:=((((ah.mul (J ak)).add ((a7.mul (J ai)).mul a3)).add (((J ai).mul ae).mul bc)).sub ((J ad).mul am)).neg
   have b1:=((ah.mul (J ad)).sub ((J ai).mul am)).neg
   have b2:=(ah.mul (J ai)).neg
   exact Bd.mono (Yx (j:=j) b0 b1 b2 (by decide) (by decide) (by decide) (by decide)) (by decide) (by decide)
theorem Apu {sg lo sc:Fq} (mf:Mo j sf 3) (mg:Mo j sg 3) (bf:Bd sf 3 140) (bg:Bd sg 3 140) (w:Wt j 3 sg lo G) (p:PD j sg G 3 1 sf 1 0 r sc q):Go j sf sg 3 2 sg 0 r (sc*1-q*0) G 1:=by
 obtain⟨gg,br,ba,bl,ea⟩:=ge1 mf mg (by decide) (by decide) bf bg w p
 obtain⟨f0,f1,f2,f3,Z,a0,a1,L,ef⟩:=co3 mf.dl bf
 obtain⟨g0,g1,g2,g3,a2,a3,a4,M,eg⟩:=co3 mg.dl bg
 obtain⟨_,rfl⟩:=w.uniq (wt3 a2.dl a3.dl a4.dl M.dl eg)
 have l0:=Qo mg w (by decide)
 have W:∀ {x:Fq},Co j 3 140 x->Bw 1 0 x:=fun h=>h.bd
 obtain⟨er,a5,eq⟩:=pd1 p (wt3 Z.dl a0.dl a1.dl L.dl ef)
 obtain⟨u0,e0⟩:∃x,x=G*f0-f3*g0:=⟨_,rfl⟩
 obtain⟨u1,e1⟩:∃x,x=G*f1-f3*g1:=⟨_,rfl⟩
 obtain⟨u2,e2⟩:∃x,x=G*f2-f3*g2:=⟨_,rfl⟩
 have J:r=u0+u1*Yj j 1+u2*(Yj j 1*Yj j 1):=by rw [er,ef,eg,e0,e1,e2];exact r33
 have O:DL j u0 0:=by rw [e0];exact(M.dl.mul Z.dl).sub (L.dl.mul a2.dl)
 have U:DL j u1 0:=by rw [e1];exact(M.dl.mul a0.dl).sub (L.dl.mul a3.dl)
 have a6:DL j u2 0:=by rw [e2];exact(M.dl.mul a1.dl).sub (L.dl.mul a4.dl)
 have a8:Bw 2 1 u0:=by rw [e0];exact((W M).mul (W Z)).sub ((W L).mul (W a2))
 have a9:Bw 2 1 u1:=by rw [e1];exact((W M).mul (W a0)).sub ((W L).mul (W a3))
 have ab:Bw 2 1 u2:=by rw [e2];exact((W M).mul (W a1)).sub ((W L).mul (W a4))
 have aa:sc*1-q*0=G:=by rw [ea];show 1*G=G;clear e0 e1 e2 J ef eg er a5 eq;grind
 refine⟨gg,bg.mono (by decide) (by decide),Bd.zero.mono (by decide) (by decide),br,ba,bl,Bd.one.mono (by decide) (by decide),fun m1 m2 h1 h2 m0=> ?_⟩
 obtain rfl:=h1.uniq mg
 have ek:G*pwF 1 (3-m2)=G:=by rw [Abg];clear e0 e1 e2 J ef eg er a5 eq;grind
 have ae:m2<=2:=h2.le 2 (by rw [J];exact dl2 O U a6)
 refine⟨by omega,by omega,.inr rfl,by rw [ek];exact l0,by rw [ek];exact bl,fun af ac r2 ag q2 w2 p2=> ?_⟩
 rw [ek]
 have ad:m2=1\/m2=2:=by omega
 rcases ad with rfl | rfl
 . have z:u2=0:=by
    obtain⟨ah,w3,wt⟩:=Ym (h2.dl.mono (show 1<=2 by decide))
    have w5:Wt j 2 r r 0:=⟨by clear e0 e1 e2 J ef eg er a5 eq;grind,(DL.zero j),fun k hk=>by
     obtain rfl:k=1:=by omega
     exact h2.dl,fun h=>by omega⟩
    exact((wt2 O U a6 J).uniq w5).2
   rw [z]at e2 J
   have a7:r=u0+u1*Yj j 1:=by rw [J];clear e0 e1 e2 J ef eg er a5 eq;grind
   have n1:=Qo h2 (wt1 O U a7) (by decide)
   exact Ams Z a0 a1 L a2 a3 a4 M ef eg l0 e0 e1 e2.symm a7 aa O U a8 a9 n1 br ba w2 p2
 . have n2:=Qo h2 (wt2 O U a6 J) (by decide)
   exact Amt Z a0 a1 L a2 a3 a4 M ef eg l0 e0 e1 e2 J aa O U a6 a8 a9 ab n2 h2 br ba w2 p2
theorem Adc {sg:Fq}{Z:Nat} (L:Mo j W m) (mg:Mo j sg Z) (m0:0<Z) (m1:Z<=m) (m3:m<=3) (M:Bd W 3 140) (J:Bd sg 3 140):Go j W sg Z 3 W 1 sg 0 1 1:=by
 have a0:sg≠0:=fun z=>by
  have:=mg.le 0 (by rw [z];exact DL.zero j)
  omega
 have O:Bk 1:=Bd.one.mono (by decide) (by decide)
 refine⟨⟨⟨1,by grind,Bd.one.mono (by decide) (by decide)⟩,⟨0,m0,DL.zero j⟩,.inr a0⟩,M.mono (by decide) (by decide),O,J.mono (by decide) (by decide),Bd.zero.mono (by decide) (by decide),O,O,fun n1 n2 h1 h2 n0=> ?_⟩
 obtain rfl:=h1.uniq L
 obtain rfl:=h2.uniq mg
 have ek:∀k,1*pwF 1 k=1:=fun k=>by rw [Abg];grind
 refine⟨m1,by omega,.inr rfl,by rw [ek];exact Qh,by rw [ek];exact O,fun lo G r sc q w p=> ?_⟩
 rw [ek]
 obtain⟨gg,br,ba,bl,ea⟩:=ge1 L mg m0 m3 M J w p
 refine⟨r,sc*1-q*0,by grind,by grind,br,ba,?_⟩
 have cs:n2=1\/n2=2/\n1=2\/n2=2/\n1=3\/n2=3/\n1=3:=by omega
 rcases cs with c | c | c | c
 . subst c
   obtain⟨tl,wt⟩:∃tl,Wt j (0+1) sg tl G:=⟨lo,w⟩
   refine Go.stop 2 gg (J.mono (by decide) (by decide)) (Bd.zero.mono (by decide) (by decide)) br ba bl ?_ (PD.dl (e:=0) wt (L.dl.mono (by omega)) p)
   have U:=(w.bd J).2
   split
   . exact O
   . have:n1-1=1\/n1-1=2:=by omega
     rcases this with h | h
     . rw [h,J9]
       exact bl
     . rw [h]
       show Bk (1*G*G)
       rw [show(1:Fq)*G*G=G*G by grind]
       exact(U.mul U).mono (by decide) (by decide)
 . obtain⟨rfl,rfl⟩:=c
   exact Aps L mg M J w p
 . obtain⟨rfl,rfl⟩:=c
   exact Apt L mg M J w p
 . obtain⟨rfl,rfl⟩:=c
   exact Apu L mg M J w p
end
variable {o:Nat->Int}
section
variable {i j:Nat}
theorem Qn (s:Fq):∃m,Mo j s m:=by
 obtain⟨l,rfl⟩:=Ez s
 obtain⟨D,q⟩:=Ais l
 have G:DL j (fq l) D:=⟨l,rfl,fun e J=>by
  have:=q e J
  unfold le3 at this
  unfold pw3
  split<;>omega⟩
 have:∀M,DL j (fq l) M->∃m,Mo j (fq l) m:=fun M=>by
  induction M with
  | zero=>exact fun h=>⟨0,h,fun _ _=>bO _⟩
  | succ M L=>
    intro h
    by_cases c:DL j (fq l) M
    . exact L c
    . exact⟨M+1,h,fun U O=>Nat.lt_of_not_le fun z=>c (O.mono z)⟩
 exact this D G
theorem Ao5 {lo:Fq} (h:Mo j s m) (g:Wt j m s lo w) (n:s≠0):w≠0:=fun z=>by
 have e:s=lo:=by rw [g.eq,z];grind
 cases hm:m with
 | zero=>exact n (e.trans (g.lo0 hm))
 | succ k=>
   have:=h.le k (by rw [e];exact g.lo1 k hm)
   omega
theorem Anz (h:∃q,q<m/\DL j s q):Wt j m s s 0:=by
 obtain⟨q,l,d⟩:=h
 exact⟨by grind,DL.zero j,fun k G=>d.mono (by omega),fun z=>by omega⟩
theorem Af8 {lo:Fq} (g:Wt j m s lo w) (n:w≠0):Mo j s m:=by
 refine⟨?_,fun G h=>iR fun z=>n (g.uniq (Anz ⟨G,z,h⟩)).2⟩
 have q:DL j (w*Yj j m) m:=by
  have:=g.d0.mul (DL.Y j m)
  rwa [gO]at this
 rw [g.eq]
 cases hm:m with
 | zero=>
   rw [g.lo0 hm]
   rw [hm]at q
   exact(DL.zero j).add q
 | succ k=>
   have:=(g.lo1 k hm).mono (fV k)
   rw [hm]at q
   exact this.add q
theorem Mo.mul {m n:Nat}{s t:Fq} (h:Mo j s m) (g:Mo j t n) (M:s≠0) (O:t≠0):Mo j (s*t) (m+n):=by
 obtain⟨lo,w,q⟩:=Ym h.dl
 obtain⟨G,L,J⟩:=Ym g.dl
 have n1:=Mg (Ao5 h q M) (Ao5 g J O)
 refine Af8 (lo:=lo*t+w*Yj j m*G) (w:=w*L) ⟨?_,q.d0.mul J.d0,fun k hk=> ?_,fun z=> ?_⟩ n1
 . rw [W2]
   have U:s*t=lo*t+w*Yj j m*t:=by rw [q.eq];grind
   have W:w*Yj j m*t=w*Yj j m*G+w*Yj j m*(L*Yj j n):=by
    have:=J.eq
    generalize Yj j n=Y at*
    rw [this]
    grind
   rw [U,W]
   grind
 . have Z:DL j (lo*t) k:=by
    cases hm:m with
    | zero=>
      rw [q.lo0 hm,Ac9]
      exact(DL.zero j).mono (bO _)
    | succ m'=>exact((q.lo1 m' hm).mul g.dl).mono (by omega)
   have a2:DL j (w*Yj j m*G) k:=by
    cases hn:n with
    | zero=>
      rw [J.lo0 hn,Ot,Ac9]
      exact(DL.zero j).mono (bO _)
    | succ n'=>exact((q.d0.mul (DL.Y j m)).mul (J.lo1 n' hn)).mono (by omega)
   exact Z.add a2
 . rw [q.lo0 (by omega),J.lo0 (by omega)]
   grind
noncomputable def Ev (i:Nat) (c:Int) (s r:Fq):Prop:=DL i r 0/\∃q,s=(Yj i 1-cF c)*q+r
theorem Afn (c:Int):DL i (cF c) 0:=⟨csT c,rfl,fun e q=>by
 rw [aS.mp q]
 unfold pw3
 split<;>exact aH _⟩
theorem Ami (a b:Int):cF (a*b)=cF a*cF b:=Gh fun k=>by
 rw [S9,Dd,Dd]
 split
 . rfl
 . omega
theorem V2 (c:Int):Mo i (Yj i 1-cF c) 1:=Af8 (wt1 (Afn c).neg (DL.one i) (by grind)) Qh
theorem V3 (c:Int):Yj i 1-cF c≠0:=fun z=>by
 have:=(V2 (i:=i) c).le 0 (by rw [z];exact DL.zero i)
 omega
theorem Ev.uniq {c:Int} (h:Ev i c s r) (g:Ev i c s G):r=G:=by
 obtain⟨d,q,e⟩:=h
 obtain⟨L,J,M⟩:=g
 have h1:(Yj i 1-cF c)*(q-J)=G-r:=by
  have:(Yj i 1-cF c)*q+r=(Yj i 1-cF c)*J+G:=e.symm.trans M
  grind
 by_cases z:q-J=0
 . rw [z]at h1
   grind
 . obtain⟨n,mo⟩:=Qn (j:=i) (q-J)
   have:=((V2 c).mul mo (V3 c) z).le 0 (by rw [h1];exact L.sub d)
   omega
theorem Ev.mul {c:Int}{s t r u:Fq} (h:Ev i c s r) (g:Ev i c t u):Ev i c (s*t) (r*u):=by
 obtain⟨d,q,e⟩:=h
 obtain⟨J,G,L⟩:=g
 exact⟨d.mul J,q*((Yj i 1-cF c)*G+u)+r*G,by rw [e,L];grind⟩
theorem Amf (h:i<3) (G:j<3) (n:i≠j):DL j (Yj i m) 0:=⟨_,rfl,fun e q=>by
 rw [aS.mp q]
 have:i=0/\j=1\/i=0/\j=2\/i=1/\j=0\/i=1/\j=2\/i=2/\j=0\/i=2/\j=1:=by omega
 rcases this with⟨rfl,rfl⟩ | ⟨rfl,rfl⟩ | ⟨rfl,rfl⟩ | ⟨rfl,rfl⟩ | ⟨rfl,rfl⟩ | ⟨rfl,rfl⟩<;>exact aH 0⟩
theorem Ape (h:i<3) (G:j<3) (n:i≠j) (c:Int):∀p:Nat,∃q,DL j q 0/\Yj i p=(Yj i 1-cF c)*q+cF (c^p)
 | 0=>⟨0,DL.zero j,by rw [Aid,Int.pow_zero];show(1:Fq)=_*0+1;grind⟩
 | p+1=>by
   obtain⟨q,d,e⟩:=Ape h G n c p
   refine⟨q*Yj i 1+cF (c^p),((d.mul (Amf h G n)).add (Afn _)),?_⟩
   rw [W2,Int.pow_succ,Ami]
   generalize Yj i 1=Y at*
   rw [e]
   grind
noncomputable def evT (i:Nat) (c:Int) (l:Tl):Tl:=l.map fun e=>(zj i e.1,e.2*c^pw3 i e.1)
theorem fq1 (x:M3) (w:Int):fq [(x,w)]=fq [(zj i x,w)]*Yj i (pw3 i x):=by
 show _=fq [(m3 (zj i x) (ej i (pw3 i x)),w*1)]
 rw [Alv,jE]
theorem Apq (x:M3) (w a:Int):fq [(x,w)]*cF a=fq [(x,w*a)]:=by
 show fq [(m3 x (0,0,0),w*a)]=_
 rw [Ao4,Amz]
theorem Ac8 (h:i<3) (M:j<3) (n:i≠j) (c:Int) {k:Nat}:∀l:Tl,(∀e∈l,pw3 j e.1<=k)->∃q,fq l=(Yj i 1-cF c)*q+fq (evT i c l)/\DL j q k/\DL j (fq (evT i c l)) k/\DL i (fq (evT i c l)) 0
 | [],_=>⟨0,by show fq []=_*0+fq [];grind,(DL.zero j).mono (bO _),by show DL j (fq []) k;rw [G6];exact(DL.zero j).mono (bO _),by show DL i (fq []) 0;rw [G6];exact DL.zero i⟩
 | e::r,he=>by
   obtain⟨q,e1,d1,d2,d3⟩:=Ac8 h M n c r fun x G=>he x (.tail _ G)
   obtain⟨p,dp,ep⟩:=Ape h M n c (pw3 i e.1)
   have hz:pw3 j (zj i e.1)=pw3 j e.1:=by
    have:i=0/\j=1\/i=0/\j=2\/i=1/\j=0\/i=1/\j=2\/i=2/\j=0\/i=2/\j=1:=by omega
    rcases this with⟨rfl,rfl⟩ | ⟨rfl,rfl⟩ | ⟨rfl,rfl⟩ | ⟨rfl,rfl⟩ | ⟨rfl,rfl⟩ | ⟨rfl,rfl⟩<;>rfl
   have O:∀w,DL j (fq [(zj i e.1,w)]) k:=fun w=>⟨_,rfl,fun x G=>by
    rw [aS.mp G]
    show pw3 j (zj i e.1)<=k
    rw [hz]
    exact he e (.head _)⟩
   have J:∀w,DL i (fq [(zj i e.1,w)]) 0:=fun w=>⟨_,rfl,fun x G=>by
    rw [aS.mp G]
    exact eJ (Ae9 i e.1)⟩
   have a1:fq (e::r)=fq [(e.1,e.2)]+fq r:=rfl
   have L:fq (evT i c (e::r))=fq [(zj i e.1,e.2*c^pw3 i e.1)]+fq (evT i c r):=rfl
   refine⟨fq [(zj i e.1,e.2)]*p+q,?_,(((O _).mul dp).mono (by omega)).add d1,?_,?_⟩
   . rw [a1,L,fq1 (i:=i) e.1 e.2,ep,<-Apq,e1]
     generalize fq [(zj i e.1,e.2)]=X
     generalize fq (evT i c r)=Z
     generalize Yj i 1-cF c=W
     generalize cF (c^pw3 i e.1)=U
     grind
   . rw [L]
     exact(O _).add d2
   . rw [L]
     exact(J _).add d3
theorem Ael (h:i<3) (c:Int) (l:Tl):Ev i c (fq l) (fq (evT i c l)):=by
 obtain⟨j,G,n⟩:∃j,j<3/\i≠j:=by
  by_cases z:i=0
  . exact⟨1,by decide,by omega⟩
  . exact⟨0,by decide,z⟩
 obtain⟨D,J⟩:=Ais l
 obtain⟨q,e,_,_,d⟩:=Ac8 h G n c (k:=D) l fun e L=>by
  have:=J e L
  unfold le3 at this
  unfold pw3
  split<;>omega
 exact⟨d,q,e⟩
theorem desc (h:i<3) (hj:j<3) (n:i≠j) {c:Int}{f g g':Fq} (hf:Ev i c f O) (hg:Ev i c g g') (g0:g'≠0):∀(N:Nat) (a b:Fq) (k:Nat),DL i a N->a*f=b*g->a≠0->DL j a k->∃Z b',Z*O=b'*g'/\Z≠0/\DL j Z k:=by
 intro N
 induction N with
 | zero=>
   intro a b k dN e a0 dk
   obtain⟨l,rfl,hl⟩:=dk
   obtain⟨G,rfl⟩:=Ez b
   obtain⟨q,J,d1,d2,d3⟩:=Ac8 h hj n c l hl
   have U:=Ael h c G
   have M:fq (evT i c l)*O=fq (evT i c G)*g':=((show Ev i c (fq l) _ from⟨d3,q,J⟩).mul hf).uniq (by rw [e];exact U.mul hg)
   refine⟨_,_,M,fun z=> ?_,d2⟩
   rw [z]at J
   have L:fq l=(Yj i 1-cF c)*q:=by rw [J];grind
   by_cases qz:q=0
   . exact a0 (by rw [L,qz];grind)
   . obtain⟨m,mo⟩:=Qn (j:=i) q
     have:=((V2 c).mul mo (V3 c) qz).le 0 (by rw [<-L];exact dN)
     omega
 | succ N ih=>
   intro a b k dN e a0 dk
   obtain⟨l,rfl,hl⟩:=dk
   obtain⟨G,rfl⟩:=Ez b
   obtain⟨q,J,d1,d2,d3⟩:=Ac8 h hj n c l hl
   have U:=Ael h c G
   have M:fq (evT i c l)*O=fq (evT i c G)*g':=((show Ev i c (fq l) _ from⟨d3,q,J⟩).mul hf).uniq (by rw [e];exact U.mul hg)
   by_cases z:fq (evT i c l)=0
   . rw [z]at J M
     have rb:fq (evT i c G)=0:=by
      rcases Zz (show fq (evT i c G)*g'=0 by rw [<-M];grind)with y | y
      . exact y
      . exact absurd y g0
     obtain⟨_,qb,eb⟩:=U
     rw [rb]at eb
     have L:fq l=(Yj i 1-cF c)*q:=by rw [J];grind
     have q0:q≠0:=fun y=>a0 (by rw [L,y];grind)
     obtain⟨m,mo⟩:=Qn (j:=i) q
     have hm:=((V2 c).mul mo (V3 c) q0).le (N+1) (by rw [<-L];exact dN)
     refine ih q qb k (mo.dl.mono (by omega)) (Aen (V3 (i:=i) c) ?_) q0 d1
     rw [L,eb]at e
     generalize Yj i 1-cF c=W at e
     grind
   . exact⟨_,_,M,z,d2⟩
noncomputable def K1 (j:Nat):Nat->List Int->Tl
 | _,[]=>[]
 | k,c::r=>(ej j k,c)::K1 j (k+1) r
noncomputable def plr (j:Nat) (r:List Int):Fq:=fq (K1 j 0 r)
theorem Mr:∀(a b:List Int) (k:Nat),K1 j k (a++b)=K1 j k a++K1 j (k+a.length) b
 | [],b,k=>rfl
 | x::r,b,k=>by
   show(ej j k,x)::K1 j (k+1) (r++b)=(ej j k,x)::(K1 j (k+1) r++K1 j (k+(r.length+1)) b)
   rw [Mr r b (k+1),show k+1+r.length=k+(r.length+1)by omega]
theorem fqY (c:Int) (m:Nat):fq [(ej j m,c)]=cF c*Yj j m:=by
 show _=fq [(m3 (0,0,0) (ej j m),c*1)]
 rw [Amz,jE]
theorem Qx (a:List Int) (x:Int):plr j (a++ [x])=plr j a+cF x*Yj j a.length:=by
 unfold plr
 rw [Mr,<-fqY]
 show fq (K1 j 0 a++ [(ej j (0+a.length),x)])=_
 rw [gO]
 rfl
theorem Aba:plr j []=0:=G6
theorem Ao0:cF 0=0:=rfl
theorem Aih {c:Int} (h:c≠0):cF c≠0:=fun z=>by
 have h1:tot (csT c) (0,0,0)=tot (csT 0) (0,0,0):=Nf z (0,0,0)
 rw [Dd,Dd,aI rfl,aI rfl]at h1
 exact h h1
theorem Aee (a b:Int):cF (a-b)=cF a-cF b:=Gh fun k=>by
 rw [Cj,Ly,Dd,Dd,Dd]
 split<;>omega
theorem Agy (a:List Int):plr j (a++ [0])=plr j a:=by
 rw [Qx,Ao0]
 grind
theorem Aa9 (c:Int):∀(r:List Int) (k:Nat),fq (K1 j k (r.map (· *c)))=cF c*fq (K1 j k r)
 | [],k=>by show fq []=cF c*fq [];rw [G6];grind
 | x::r,k=>by
   have h1:fq (K1 j k ((x::r).map (· *c)))=fq [(ej j k,x*c)]+fq (K1 j (k+1) (r.map (· *c))):=rfl
   have h2:fq (K1 j k (x::r))=fq [(ej j k,x)]+fq (K1 j (k+1) r):=rfl
   rw [h1,h2,Aa9 c r (k+1),fqY,fqY,Ami]
   generalize Yj j k=Y
   generalize fq (K1 j (k+1) r)=Z
   grind
theorem Agz (a b:List Int) (u v:Int):plr j (a++v::b)=plr j (a++u::b)+cF (v-u)*Yj j a.length:=by
 unfold plr
 rw [Mr,Mr,gO,Aee]
 have h:∀w,fq (K1 j 0 a++K1 j a.length (w::b))=fq (K1 j 0 a)+(fq [(ej j a.length,w)]+fq (K1 j (a.length+1) b)):=fun w=>rfl
 rw [h,h,fqY,fqY]
 generalize fq (K1 j 0 a)=A
 generalize fq (K1 j (a.length+1) b)=B
 generalize Yj j a.length=Y
 grind
theorem Ae4:∀(r:List Int) (k n:Nat),k+r.length<=n+1->DL j (fq (K1 j k r)) n
 | [],_,n,_=>by
   show DL j (fq []) n
   rw [G6]
   exact(DL.zero j).mono (bO _)
 | x::r,k,n,h=>by
   have h2:fq (K1 j k (x::r))=fq [(ej j k,x)]+fq (K1 j (k+1) r):=rfl
   rw [bU]at h
   rw [h2]
   refine DL.add ⟨_,rfl,fun e q=> ?_⟩ (Ae4 r (k+1) n (by omega))
   rw [aS.mp q,Pg]
   omega
theorem Aj9 (r:List Int) (x:Int) (h:x≠0):Mo j (plr j (r++ [x])) r.length/\plr j (r++ [x])≠0:=by
 have w:Wt j r.length (plr j (r++ [x])) (plr j r) (cF x):=⟨Qx r x,Afn x,fun k G=>Ae4 r 0 k (by omega),fun z=>by rw [kN.mp z];exact Aba⟩
 have m:=Af8 w (Aih h)
 refine⟨m,fun z=>Aih h ?_⟩
 rw [z]at w
 have q:Wt j r.length 0 0 0:=⟨by grind,DL.zero j,fun k _=>(DL.zero j).mono (bO _),fun _=>rfl⟩
 exact(w.uniq q).2
noncomputable def Trw (r:List Int):Prop:=r=[]\/∃a x,r=a++ [x]/\x≠0
theorem Trw.mo {r:List Int} (h:Trw r) (n:r≠ []):Mo j (plr j r) (r.length-1)/\plr j r≠0:=by
 obtain⟨a,x,rfl,q⟩:=h.resolve_left n
 obtain⟨m,z⟩:=Aj9 (j:=j) a x q
 refine⟨?_,z⟩
 rw [aL,dJ,Nat.add_sub_cancel]
 exact m
structure Shd (j:Nat) (a b:List Int):Prop where
 al:b≠ []->∃α β k,α≠0/\α*plr j a=β*plr j b/\DL j α k/\k+2<=b.length
 no:b=[]->2<=a.length
theorem Shd.step {a b c:List Int} (h:Shd j a b) (q:b≠ []) {l f:Int}{far:Nat} (e:plr j c=cF l*plr j a-cF f*Yj j far*plr j b):Shd j c b:=by
 refine⟨fun _=> ?_,fun z=>absurd z q⟩
 obtain⟨α,β,k,n,J,d,M⟩:=h.al q
 refine⟨α,cF l*β-α*cF f*Yj j far,k,n,?_,d,M⟩
 rw [e]
 generalize plr j a=A at J ⊢
 generalize plr j b=B at J ⊢
 generalize Yj j far=Y
 generalize cF l=L
 generalize cF f=G
 grind
theorem Shd.swap {a b:List Int} (h:Shd j a b) (L:b≠ []) (ta:Trw a) (tb:Trw b) (l:a.length<b.length):Shd j b a:=by
 obtain⟨α,β,k,n,e,d,hk⟩:=h.al L
 refine⟨fun M=> ?_,fun _=>by omega⟩
 obtain⟨W,O⟩:=ta.mo (j:=j) M
 obtain⟨Z,nb⟩:=tb.mo (j:=j) L
 have la:=eA.mpr M
 have U:β≠0:=fun z=>by
  rw [z]at e
  exact Mg n O (by rw [e];grind)
 obtain⟨a1,q⟩:=Qn (j:=j) α
 obtain⟨J,G⟩:=Qn (j:=j) β
 have h1:=q.mul W n O
 have h2:=G.mul Z U nb
 rw [e]at h1
 have h3:=h1.uniq h2
 have h4:=q.le k d
 exact⟨β,α,J,U,e.symm,G.dl,by omega⟩
noncomputable def oth (j:Nat) (o:Nat->Int) (x:M3):Int:=match j with
 | 0=>o 1^x.2.1*o 2^x.2.2
 | 1=>o 0^x.1*o 2^x.2.2
 | _=>o 0^x.1*o 1^x.2.1
noncomputable def evO (j:Nat) (o:Nat->Int) (l:Tl):Tl:=l.map fun e=>(ej j (pw3 j e.1),e.2*oth j o e.1)
noncomputable def o1 (j:Nat):Nat:=match j with | 0=>1 | _=>0
noncomputable def o2 (j:Nat):Nat:=match j with | 0=>2 | 1=>2 | _=>1
theorem o12 (q:j<3):o1 j<3/\o2 j<3/\o1 j≠j/\o2 j≠j:=by
 have:j=0\/j=1\/j=2:=by omega
 rcases this with rfl | rfl | rfl<;>decide
theorem Aiv (q:j<3) (o:Nat->Int) (l:Tl):evO j o l=evT (o2 j) (o (o2 j)) (evT (o1 j) (o (o1 j)) l):=by
 unfold evO evT
 rw [aK]
 refine bR fun e _=> ?_
 have:j=0\/j=1\/j=2:=by omega
 rcases this with rfl | rfl | rfl<;>(show(_,e.2*(_*_))=(_,e.2*_*_);rw [iZ];rfl)
theorem Akn (J:j<3) {F G:Tl}{a b:Fq}{k:Nat}{rf q:List Int} (e:a*fq F=b*fq G) (a0:a≠0) (dk:DL j a k) (hk:k+2<=q.length) (ef:plr j rf=fq (evO j o F)) (eg:plr j q=fq (evO j o G)) (g0:plr j q≠0) (r0:q≠ []):Shd j rf q:=by
 obtain⟨h1,h2,h3,h4⟩:=o12 J
 rw [Aiv J]at ef eg
 have v1:=Ael h1 (o (o1 j)) F
 have v2:=Ael h1 (o (o1 j)) G
 have v3:=Ael h2 (o (o2 j)) (evT (o1 j) (o (o1 j)) F)
 have L:=Ael h2 (o (o2 j)) (evT (o1 j) (o (o1 j)) G)
 rw [<-ef]at v3
 rw [<-eg]at L
 have g1:fq (evT (o1 j) (o (o1 j)) G)≠0:=fun z=>by
  rw [z]at L
  exact g0 (L.uniq ⟨DL.zero _,0,by grind⟩)
 obtain⟨N,hN⟩:=Qn (j:=o1 j) a
 obtain⟨a',b',e',M,O⟩:=desc h1 J h3 v1 v2 g1 N a b k hN.dl e a0 dk
 obtain⟨N',U⟩:=Qn (j:=o2 j) a'
 obtain⟨a2,b2,e2,W,Z⟩:=desc h2 J h4 v3 L g0 N' a' b' k U.dl e' M O
 exact⟨fun _=>⟨a2,b2,k,W,e2,Z,hk⟩,fun z=>absurd z r0⟩
end
open PySem L2
local macro_rules | `(tactic| done)=> `(tactic| simp only [Aor,Alm,Aog,Aoq,Ala,An5,Acj,Aoo,Als,Alu,z_c,Aqa,Aqg,Aqc,Aop,Aqd,An9,Aol,An8,Aok,Alr,Aqf,Aob,Aod,Aoa,Alb,Alc,Aon,An4,Aqb,Ak2,Aln,Ap9,Ak3,Aom,Ak5,Ap8,Aos,Aoj,Ak4,Alq,Ahz,Alj,Aoe,Aoh,Aoi,Aof,Aqe,Ad9,Alp,An6,Ap7,An7,Alo,Alh,Ale,Ald,Ali,Ak8,Aoc,Alf,Ah0,Ad8,Ack,Ahx,Alk,Ak7,Ak6,Ahw,Ahy,Ak9,cpσ,eT,List.getElem?_cons_succ,Option.join_some,List.set_cons_zero,List.set_cons_succ,cP,decide_eq_true_eq,Bool.not_eq_true',decide_eq_false_iff_not,Bool.not_not,ite_not,fF,Bool.true_eq_false,fY,gG,aI,bU,dX,gO,Nat.reduceAdd,Akp,Akq,true_and,and_true,L2.start,aU,jN,Bool.not_true,Bool.not_false,Nat.reduceSub,List.replicate_succ,List.replicate_zero,cons_append,nil_append])
noncomputable def top (i:Nat):Stmt:=PySem.Challenge.pw_rootcourt_k36_a_name_taken_out.main.body.getD i (.Pass ⟨0,0,0,0⟩)
theorem Dw {N P:List Str}{sc:Scope} (h1:sc.kind= .function:=by rfl) (h2:sc.isCoroutine=false:=by rfl) (q:sc.isGenerator=false:=by rfl) (G:N.Nodup:=by decide+kernel) (J:N.take P.length=P:=by rfl) (L:∀x∈P,sc.names.lookup x=some .local \/sc.names.lookup x=some .cell:=by decide+kernel) (M:∀y∈sc.names,y.2≠ .free:=by decide+kernel):Bo N P sc:=⟨h1,h2,q,G,J,L,M⟩
noncomputable abbrev K4:Stmt:=top 4
theorem U9:Bo zJ zJ (Ax K4):=Dw
noncomputable abbrev Ir:Stmt:=top 8
theorem Yd:Bo zJ zJ (Ax Ir):=Dw
noncomputable abbrev Kc:Stmt:=top 9
theorem La:Bo ["thing","powers","weight"] zJ (Ax Kc):=Dw
noncomputable abbrev Wm:Stmt:=top 10
theorem Ra:Bo ["terms","sums","powers","weight"] ["terms"] (Ax Wm):=Dw
noncomputable abbrev Q5:Stmt:=top 11
theorem Abj:Bo zE zE (Ax Q5):=Dw
noncomputable abbrev Nv:Stmt:=top 12
theorem Yc:Bo zE zE (Ax Nv):=Dw
noncomputable abbrev Je:Stmt:=top 13
theorem U8:Bo yE yE (Ax Je):=Dw
noncomputable abbrev Ny:Stmt:=top 14
theorem Er:Bo ["f","g","base","others","sums","one","weight","other","factor"] zE (Ax Ny):=Dw
noncomputable abbrev En:Stmt:=top 15
theorem K9:Bo ["f"] ["f"] (Ax En):=Dw
noncomputable abbrev Ms:Stmt:=top 16
theorem Abk:Bo yF yF (Ax Ms):=Dw
noncomputable abbrev K8:Stmt:=top 17
theorem Gz:Bo ["sums","base","found","key","upper","k"] yH (Ax K8):=Dw
noncomputable abbrev Wn:Stmt:=top 18
theorem Ahd:Bo zG zG (Ax Wn):=Dw
noncomputable abbrev K6:Stmt:=top 19
theorem Va:Bo yN yN (Ax K6):=Dw
noncomputable abbrev G8:Stmt:=top 20
theorem Rb:Bo yA yA (Ax G8):=Dw
noncomputable abbrev N8:Stmt:=top 21
theorem Yh:Bo yC yC (Ax N8):=Dw
noncomputable abbrev Ju:Stmt:=top 23
theorem Gb:Bo ["f","g","name","place","found","b","a"] yK (Ax Ju):=Dw
noncomputable abbrev Gk:Stmt:=top 24
theorem Ek:Bo yL zX (Ax Gk):=Dw
noncomputable abbrev Ej:Stmt:=top 25
theorem Ba:Bo ["f","g","place","first","second","lead","height","steps","known","third","found","a"] zN (Ax Ej):=Dw
noncomputable abbrev K5:Stmt:=top 26
theorem Gy:Bo ["first","second","known","place","a","scale","quotient","rest"] zP (Ax K5):=Dw
noncomputable abbrev K3:Stmt:=top 27
theorem Cp:Bo ["f","g","place","lead","scale","quotient","rest","many","top","term"] zN (Ax K3):=Dw
noncomputable abbrev N5:Stmt:=top 28
theorem Ye:Bo zG zG (Ax N5):=Dw
noncomputable abbrev Hw:Stmt:=top 29
theorem S5:Bo zR zR (Ax Hw):=Dw
noncomputable abbrev Nx:Stmt:=top 30
theorem Jg:Bo ["f","many","found","time"] yM (Ax Nx):=Dw
noncomputable abbrev Q0:Stmt:=top 31
theorem Dn:Bo ["f","g","base","terms","rest","found","last","lead","top","key","weight","here","left"] zE (Ax Q0):=Dw
noncomputable abbrev Js:Stmt:=top 33
theorem Sy:Bo zT zT (Ax Js):=Dw
noncomputable abbrev N6:Stmt:=top 34
theorem Ef:Bo ["_law_cell","_law_many","_law_found","_law_rest","_law_first","_law_mixed","_law_k"] zW (Ax N6):=Dw
noncomputable abbrev Q7:Stmt:=top 35
theorem Abl:Bo zF zF (Ax Q7):=Dw
noncomputable abbrev K7:Stmt:=top 36
theorem Oa:Bo ["_law_draws_here","_law_kind"] yG (Ax K7):=Dw
noncomputable abbrev N7:Stmt:=top 37
theorem Jh:Bo ["_law_draws_here","_law_many","_law_most","_law_found","_law_k","_law_powers"] zI (Ax N7):=Dw
noncomputable abbrev Q8:Stmt:=top 38
theorem Mt:Bo yJ zV (Ax Q8):=Dw
noncomputable abbrev Jt:Stmt:=top 39
theorem Es:Bo ["_law_f","_law_g","_law_found","_law_one","_law_weight_here","_law_two","_law_other"] zZ (Ax Jt):=Dw
noncomputable abbrev Sx:Stmt:=top 40
theorem Iv:Bo zD zK (Ax Sx):=Dw
noncomputable abbrev Jf:Stmt:=top 41
theorem Ea:Bo zY yB (Ax Jf):=Dw
noncomputable abbrev Q9:Stmt:=top 42
theorem Ad3:Bo zS zS (Ax Q9):=Dw
noncomputable abbrev Iu:Stmt:=top 43
theorem Yg:Bo zC zC (Ax Iu):=Dw
noncomputable abbrev Q6:Stmt:=top 44
theorem Gi:Bo zH yD (Ax Q6):=Dw
noncomputable def Ad4 (K:Frag):Sp:=fun vs H Q _=>∃(a:Addr) (ns:List Int),vs=[.ref a]/\SqL K H a (ns.map V.int)/\ns.length<=63/\∀H',Q (.bl true) H'
noncomputable def cell (ns:List Int) (k:Int):Int:=ns.getD k.toNat 0
noncomputable def Iz (K:Frag):Sp:=fun vs H Q _=>∃(a:Addr) (ns:List Int) (k:Int),vs=[.ref a,.int k]/\SqL K H a (ns.map V.int)/\0<=k/\Q (.int (cell ns k)) H
variable {H H' H1 H2:Hp}{a l p:Addr}{xs zs ys:List V}{v u:V}{X:Cx}{b i:Int}{g:TG}{ms ns:List Int}{Q:VK}{E:XK}{kvs:List (Key × V)}{S:Fq}{T:Int->Int}
section
variable {P:Program}{w:World}{K:Frag}{mg:Str->Option Value}{base:Heap}{f:Addr}{fd:FuncData}
theorem R6 (F:Df K mg "_law_cell_at" Js zT f fd)  (G:mg "len"=none)   :Cal P w K mg base 1 "_law_cell_at" zT (Iz K):=by
 refine F.cal (F.fn.ok Sy (fun M H Q E h=> ?_) (fun O A outer s H M Q E W h=> ?_))
 . obtain⟨a,ns,k,rfl,_⟩:=h
   rfl
 obtain⟨a,ns,k,rfl,L,U,q⟩:=h
 refine Bb ⟨_,(Ae (Bp (Av Agj (Af 1) (Bj Bt rfl G dC (Aa (Af 0) Ac)) (Bl _)) (Ah (Ar (Bf Ht (Af 0) (Af 1) (fun _ _=>rfl)))) Bc)
  (Ah (Ar Ad))),?_⟩
 done
 refine⟨a,_,rfl,.inl L,?_⟩
 rw [aB]
 split
 . rename_i h
   have J:k.toNat<ns.length:=by omega
   refine Li L (v:= .int (cell ns k)) ?_ q
   have e:=Gf (xs:=ns.map V.int) (j:=k.toNat) (v:= .int (cell ns k)) (by
    rw [aZ,aG J]
    unfold cell
    rw [aP,aG J]
    rfl)
   rw [jK U]at e
   exact e
 . rename_i h
   have e:cell ns k=0:=by
    unfold cell
    rw [aP,gD (by omega)]
    rfl
   rw [e]at q
   exact q
noncomputable def Aic (K:Frag) (a:Addr) (xs:List V):Prop:=∃(o:Obj) (its:Array Value) (n:Nat),K.lookup a=some o/\o.cls= .type "tuple"/\o.data= .seq its n/\its.size<=sizeLine/\Vals xs its.toList
theorem Aic.sq {K:Frag} (h:Aic K a xs):SqT K H a xs:= .inr h
noncomputable def Afi (K:Frag) (a:Addr):Prop:=∃b c,Aic K a [.ref b]/\Aic K b [.ref c,.int 1]/\Aic K c [.int 0,.int 0,.int 0]
noncomputable def Ah3 (K:Frag) (a:Addr) (xs:List V):Prop:=∃(o:Obj) (its:Array Value) (n:Nat),K.lookup a=some o/\o.cls= .type "tuple"/\o.data= .seq its n/\its.size<=sizeLine/\Vals xs its.toList/\o.dict=none
theorem Ah3.sq {K:Frag} (h:Ah3 K a xs):SqT K H a xs:=by
 obtain⟨o,q,n,h1,h2,G,J,L,_⟩:=h
 exact .inr ⟨o,q,n,h1,h2,G,J,L⟩
theorem Ah3.ty {K:Frag} (h:Ah3 K a xs):tyV K "tuple" (.ref a) H:=by
 obtain⟨o,q,n,h1,h2,J,L,M,G⟩:=h
 exact .inr (.inl ⟨rfl,o,h1,h2,G⟩)
inductive Wh (K:Frag) (H:Hp):V->Bool->Prop where
 | int (i:Int):Wh K H (.int i) true
 | bl (b:Bool):Wh K H (.bl b) false
 | non:Wh K H .non false
 | str (x:Str):Wh K H (.str x) false
 | tup {a:Addr}{xs:List V} (e:H a=some (.tup xs)):Wh K H (.ref a) false
 | lst {a:Addr}{xs:List V} (e:H a=some (.lst xs)):Wh K H (.ref a) false
noncomputable def Ap4 (K:Frag):Sp:=fun vs H Q _=>∃v b,vs=[v]/\Wh K H v b/\Q (.bl b) H
theorem isi {G:Bool->Prop}{t:Value}{T:String}{b:Bool} (O:Tg K H v t) (U:kitOne K t (.type T)=some b) (q:G b):
 ∃x J L M,[v,V.ty T]=[x,V.ty L]/\Tg K H x J/\kitOne K J (.type L)=some M/\G M:=⟨v,t,T,b,rfl,O,U,q⟩
theorem Ui {T U:String}{b:Bool} (h:(if(Value.type T==Value.type U)=true then some true else if PySem.W.kitMeta U=true then subIn [] (.type T) (.type U)else none)=some b):kitOne K (.type T) (.type U)=some b:=h
theorem Ajd:kitOne K (.type "int") (.type "int")=some true:=Ui (by decide+kernel)
theorem Ajc:kitOne K (.type "int") (.type "bool")=some false:=Ui (by decide+kernel)
theorem Aja:kitOne K (.type "bool") (.type "int")=some true:=Ui (by decide+kernel)
theorem Ai9:kitOne K (.type "bool") (.type "bool")=some true:=Ui (by decide+kernel)
theorem Ajf:kitOne K (.type "NoneType") (.type "int")=some false:=Ui (by decide+kernel)
theorem Ajg:kitOne K (.type "str") (.type "int")=some false:=Ui (by decide+kernel)
theorem Aji:kitOne K (.type "tuple") (.type "int")=some false:=Ui (by decide+kernel)
theorem Aje:kitOne K (.type "list") (.type "int")=some false:=Ui (by decide+kernel)
noncomputable def Oe (K:Frag):Sp:=Ap4 K
theorem Ut (F:Df K mg "is_whole" K4 zJ f fd)  (G:mg "isinstance"=none) (L:mg "int"=none) (J:mg "bool"=none)   :Cal P w K mg base 1 "is_whole" zJ (Oe K):=by
 refine F.cal (F.fn.ok U9 (fun M H Q E h=> ?_) (fun O A outer s H M Q E W h=> ?_))
 . obtain⟨v,b,rfl,_⟩:=h
   rfl
 obtain⟨v,b,rfl,U,q⟩:=h
 refine Bb ⟨_,(Ah (Ar (J1 (Bj Mp rfl G cV (Aa (Af 0) (Aa (Ep (v:= .ty "int") rfl L boot_int rfl) Ac))) (J2 (Yq (Bj Mp rfl G cV (Aa (Af 0) (Aa (Ep (v:= .ty "bool") rfl J boot_bool rfl) Ac)))))))),?_⟩
 done
 cases U with
 | int i=>
   refine isi (.int i) Ajd ?_
   done
   refine isi (.int i) Ajc ?_
   done
   exact q
 | bl b=>
   refine isi (.bl b) Aja ?_
   done
   refine isi (.bl b) Ai9 ?_
   done
   exact q
 | non=>
   refine isi .non Ajf ?_
   done
   exact q
 | str x=>
   refine isi (.str x) Ajg ?_
   done
   exact q
 | tup e=>
   refine isi (.tup e) Aji ?_
   done
   exact q
 | lst e=>
   refine isi (.lst e) Aje ?_
   done
   exact q
theorem Wh.mono {b:Bool} (h:Wh K H v b) (s:Same H H'):Wh K H' v b:=by
 cases h with
 | int i=>exact .int i
 | bl b=>exact .bl b
 | non=>exact .non
 | str x=>exact .str x
 | tup e=>exact .tup (s _ _ e)
 | lst e=>exact .lst (s _ _ e)
theorem Aer:kitOne K (.type "int") (.type "tuple")=some false:=Ui (by decide+kernel)
theorem Aes:kitOne K (.type "NoneType") (.type "tuple")=some false:=Ui (by decide+kernel)
theorem Aet:kitOne K (.type "str") (.type "tuple")=some false:=Ui (by decide+kernel)
theorem Aah:kitOne K (.type "list") (.type "tuple")=some false:=Ui (by decide+kernel)
theorem Ib:kitOne K (.type "tuple") (.type "tuple")=some true:=Ui (by decide+kernel)
inductive TyA (K:Frag) (H:Hp):V->Value->Prop where
 | of {v:V}{t:Value} (h:Tg K H v t):TyA K H v t
 | tup {a:Addr}{xs:List V} (h:SqT K H a xs):TyA K H (.ref a) (.type "tuple")
theorem J4:Gv X (.builtin "isinstance") (fun xs H Q=>∃x t T b,xs=[x,.ty T]/\TyA X.K H x t/\kitOne X.K t (.type T)=some b/\Q (.bl b) H):=by
 intro pins s σ H xs J Q I r h
 obtain⟨x,t,T,b,rfl,G,L,q⟩:=h
 cases G with
 | of G=>exact Mp pins s σ H _ J Q I r ⟨x,t,T,b,rfl,G,L,q⟩
 | tup M=>exact Acu pins s σ H _ J Q I r ⟨_,_,T,b,rfl,M,L,q⟩
theorem isa {G:Bool->Prop}{t:Value}{T:String}{b:Bool} (O:TyA K H v t) (U:kitOne K t (.type T)=some b) (q:G b):
 ∃x J L M,[v,V.ty T]=[x,V.ty L]/\TyA K H x J/\kitOne K J (.type L)=some M/\G M:=⟨v,t,T,b,rfl,O,U,q⟩
theorem at0 {α:Type} (x:α) (r:List α):atI (x::r) 0=some x:=Gf (j:=0) rfl
theorem at1 {α:Type} (x y:α) (r:List α):atI (x::y::r) 1=some y:=Gf (j:=1) rfl
theorem Agk (K:Frag) (q:X.A.units+64<cLine) (h:X.K=K:=by rfl):OpR X (compareOp .Lt) (Ao9 K):=by
 subst h
 exact Ajt (by omega)
theorem Aik (xs:List V):O2 xs (some 1) none=xs.drop 1:=by
 unfold O2
 rw [HT.Wj,show(some (1:Int))=some ((1:Nat):Int)from rfl,HT.Abi]
 cases xs with
 | nil=>rfl
 | cons x r=>
   rw [jF (by simp),eY (by simp)]
inductive Pw (K:Frag) (H:Hp):V->Bool->Prop where
 | int (i:Int):Pw K H (.int i) (decide (0<=i))
 | no {v:V} (h:Wh K H v false):Pw K H v false
theorem Pw.mono {H H':Hp}{v:V}{b:Bool} (h:Pw K H v b) (s:Same H H'):Pw K H' v b:=by
 cases h with
 | int i=>exact .int i
 | no h=>exact .no (h.mono s)
inductive Tm (K:Frag) (H:Hp):V->Bool->Prop where
 | int (i:Int):Tm K H (.int i) false
 | non:Tm K H .non false
 | str (x:Str):Tm K H (.str x) false
 | lst {a:Addr}{xs:List V} (e:H a=some (.lst xs)):Tm K H (.ref a) false
 | long {a:Addr}{xs:List V} (h:SqT K H a xs) (hl:xs.length≠2):Tm K H (.ref a) false
 | notT {a c:Addr}{w:V}{xs:List V} (h:SqT K H a [.ref c,w]) (e:H c=some (.lst xs)):Tm K H (.ref a) false
 | plen {a c:Addr}{w:V}{xs:List V} (h:SqT K H a [.ref c,w]) (hc:SqT K H c xs) (hl:xs.length≠3):Tm K H (.ref a) false
 | notw {a c:Addr}{w:V}{xs:List V} (h:SqT K H a [.ref c,w]) (hc:SqT K H c xs) (hl:xs.length=3) (hw:Wh K H w false):Tm K H (.ref a) false
 | gen {a c:Addr}{w:Int}{es:List (V × Bool)} (h:SqT K H a [.ref c,.int w]) (hc:SqT K H c (es.map (·.1))) (hl:es.length=3) (hp:∀e∈es,Pw K H e.1 e.2):Tm K H (.ref a) (decide (w≠0)&&(es.map (·.2)).all id)
theorem Tm.mono {H H':Hp}{v:V}{b:Bool} (h:Tm K H v b) (s:Same H H'):Tm K H' v b:=by
 cases h with
 | int i=>exact .int i
 | non=>exact .non
 | str x=>exact .str x
 | lst e=>exact .lst (s _ _ e)
 | long h q=>exact .long (s.tup h) q
 | notT h e=>exact .notT (s.tup h) (s _ _ e)
 | plen h G q=>exact .plen (s.tup h) (s.tup G) q
 | notw h G q J=>exact .notw (s.tup h) (s.tup G) q (J.mono s)
 | gen h G q hp=>exact .gen (s.tup h) (s.tup G) q fun e L=>(hp e L).mono s
noncomputable def Pr (K:Frag):Sp:=fun vs H Q _=>∃v b,vs=[v]/\Tm K H v b/\∀H',Same H H'->Q (.bl b) H'
theorem Xr (F:Df K mg "is_term" Kc zJ f fd)  (U:mg "all"=none) (q:mg "isinstance"=none) (J:mg "tuple"=none) (L:mg "len"=none)  (G:Cal P w K mg base 1 "is_whole" zJ (Oe K)):Cal P w K mg base 2 "is_term" zJ (Pr K):=by
 refine F.cal (F.fn.ok La (fun vs H Q E h=> ?_) (fun a1 A outer s H vs Q E hr h=> ?_))
 . obtain⟨v,b,rfl,_⟩:=h
   rfl
 obtain⟨v,b,rfl,hv,k⟩:=h
 refine Bb ⟨_,(Ae (Bp (Eb (Em (Dm (Cy (Bj J4 rfl q cV (Aa (Af 0) (Aa (Ep (v:= .ty "tuple") rfl J cI rfl) Ac))))) (Ga (Av Nk (Bj Bt rfl L dC (Aa (Af 0) Ac)) Ad (Bl _))))) (Ah (Ar Ec)) Bc)
  (Ae (Ew (Af 0) (Ca rfl (Ak (Ao 1 La.nd) (Ak (Ao 2 La.nd) Bh))))
  (Ae (Bp (Eb (Em (Dm (Cy (Bj J4 rfl q cV (Aa (Af 1) (Aa (Ep (v:= .ty "tuple") rfl J cI rfl) Ac))))) (Em (Av Nk (Bj Bt rfl L dC (Aa (Af 1) Ac)) Ad (Bl _)) (Em (Dm (Cy (Aj G hr (Aa (Af 2) Ac)))) (Ga (Av J7 (Af 2) Ad (Bl _))))))) (Ah (Ar Ec)) Bc)
  (Ah (Ar (Bj (J3 rfl) rfl U gB (Aa (Br (ts:=["power"]) (fs:=[]) rfl (Dy.of (sc:=Ax Kc) (N:=["thing","powers","weight"]) rfl rfl (by decide+kernel)) (Cu (Af 1)) (fun _ _ _=>(Ao 0 (show Nodup (["power"]:List Str)by decide+kernel))) (fun _ _ _=>Bx) (fun _ _ _=>(J1 (Aj G hr (Aa (Af 0) Ac)) (J2 (Dp Ajr (Af 0) Ad (Bl _)))))) Ac))))))),?_⟩
 done
 have M:=k _ (Same.refl _)
 cases hv with
 | int i=>
   refine isa (.of (.int i)) Aer ?_
   try done
   exact M
 | non=>
   refine isa (.of .non) Aes ?_
   try done
   exact M
 | str x=>
   refine isa (.of (.str x)) Aet ?_
   try done
   exact M
 | lst e=>
   refine isa (.of (.lst e)) Aah ?_
   try done
   exact M
 | @long a xs h Z=>
   refine isa (.tup h) Ib ?_
   try done
   refine⟨a,_,rfl,.inr h,?_⟩
   try done
   rw [aF (show ¬((xs.length:Nat):Int)=2 by omega)]
   exact M
 | @notT a c w xs h e=>
   refine isa (.tup h) Ib ?_
   try done
   refine⟨a,_,rfl,.inr h,?_⟩
   try done
   refine Dh h ?_
   try done
   refine isa (.of (.lst e)) Aah ?_
   try done
   exact M
 | @plen a c w xs h O Z=>
   refine isa (.tup h) Ib ?_
   try done
   refine⟨a,_,rfl,.inr h,?_⟩
   try done
   refine Dh h ?_
   try done
   refine isa (.tup O) Ib ?_
   try done
   refine⟨c,_,rfl,.inr O,?_⟩
   try done
   rw [aF (show ¬((xs.length:Nat):Int)=3 by omega)]
   exact M
 | @notw a c w xs h O Z W=>
   refine isa (.tup h) Ib ?_
   try done
   refine⟨a,_,rfl,.inr h,?_⟩
   try done
   refine Dh h ?_
   try done
   refine isa (.tup O) Ib ?_
   try done
   refine⟨c,_,rfl,.inr O,?_⟩
   try done
   rw [aI (show((xs.length:Nat):Int)=3 by omega)]
   refine⟨_,false,rfl,W,?_⟩
   try done
   exact M
 | @gen a c w es h O Z hp=>
   refine isa (.tup h) Ib ?_
   try done
   refine⟨a,_,rfl,.inr h,?_⟩
   try done
   refine Dh h ?_
   try done
   refine isa (.tup O) Ib ?_
   try done
   refine⟨c,_,rfl,.inr O,?_⟩
   try done
   rw [aB,aI (show((es.length:Nat):Int)=3 by omega)]
   refine⟨_,true,rfl,.int w,?_⟩
   try done
   by_cases w0:w=0
   . rw [aI w0]
     rw [bZ (fun z=>z w0),Bool.false_and]at M
     exact M
   rw [aF w0]
   rw [cD (show w≠0 from w0),Bool.true_and]at k
   refine⟨⟨_,O⟩,fun p1 a0=>Gg (es:=es) (inj:=(·.1)) (fun e=> .bl e.2) (by rw [Z];decide) a0 (Hq O) ?_ ?_⟩
   . intro e H2 R he s2 hR
     done
     have W:=(hp e he).mono s2
     obtain⟨v,b⟩:=e
     cases W with
     | int i=>
       refine⟨_,true,rfl,.int i,?_⟩
       try done
       exact hR _ (Same.refl _)
     | no W=>
       refine⟨_,false,rfl,W,?_⟩
       try done
       exact hR _ (Same.refl _)
   intro H2 s2 h2
   have em:es.map (fun e=>V.bl e.2)=(es.map (·.2)).map V.bl:=by rw [aK];rfl
   rw [em]at h2
   refine⟨p1,_,rfl,.of h2,?_⟩
   exact k _ s2
noncomputable def upT (ks:List (List Int)):Bool:=(List.range (ks.length-1)).all fun i=>HT.lexLt (ks.getD i []) (ks.getD (i+1) [])
structure Aib (K:Frag) (H:Hp) (t:Prt):Prop where
 pr:Ah7 K H t
 tm:Tm K H (.ref t.1) true
theorem Aib.mono {H H':Hp}{t:Prt} (h:Aib K H t) (s:Same H H'):Aib K H' t:=⟨⟨s.tup h.pr.pr,s.tup h.pr.tu⟩,h.tm.mono s⟩
inductive Fm (K:Frag) (H:Hp):V->Bool->Prop where
 | int (i:Int):Fm K H (.int i) false
 | bl (b:Bool):Fm K H (.bl b) false
 | non:Fm K H .non false
 | str (x:Str):Fm K H (.str x) false
 | lst {a:Addr}{xs:List V} (e:H a=some (.lst xs)):Fm K H (.ref a) false
 | bad {a:Addr}{es:List (V × Bool)} (h:SqT K H a (es.map (·.1))) (hl:es.length<=16000000) (hw:∀e∈es,Tm K H e.1 e.2) (hb:(es.map (·.2)).all id=false):Fm K H (.ref a) false
 | good {a:Addr}{ts:List Prt} (h:SqT K H a (ts.map fun t=>V.ref t.1)) (hl:ts.length<=16000000) (hw:∀t∈ts,Aib K H t):Fm K H (.ref a) (upT (ts.map Prt.ks))
theorem Ajb:kitOne K (.type "bool") (.type "tuple")=some false:=Ui (by decide+kernel)
noncomputable def Lb (K:Frag):Sp:=fun vs H Q _=>∃v b,vs=[v]/\Fm K H v b/\∀H',Same H H'->Q (.bl b) H'
theorem Xq (F:Df K mg "is_form" Ir zJ f fd)  (L:mg "all"=none) (G:mg "isinstance"=none) (M:mg "tuple"=none) (W:mg "zip"=none)  (J:Cal P w K mg base 2 "is_term" zJ (Pr K)):Cal P w K mg base 3 "is_form" zJ (Lb K):=by
 refine F.cal (F.fn.ok Yd (fun vs H Q E h=> ?_) (fun a1 A outer s H vs Q E hr h=> ?_))
 . obtain⟨v,b,rfl,_⟩:=h
   rfl
 obtain⟨v,b,rfl,hv,k⟩:=h
 refine Bb ⟨_,(Ae (Bp (Eb (Em (Dm (Cy (Bj J4 rfl G cV (Aa (Af 0) (Aa (Ep (v:= .ty "tuple") rfl M cI rfl) Ac))))) (Ga (Dm (Cy (Bj (J3 rfl) rfl L gB (Aa (Br (ts:=["term"]) (fs:=[]) rfl (Dy.of (sc:=Ax Ir) (N:=zJ) rfl rfl (by decide+kernel)) (Cu (Af 0)) (fun _ _ _=>(Ao 0 (show Nodup (["term"]:List Str)by decide+kernel))) (fun _ _ _=>Bx) (fun _ _ _=>(Aj J hr (Aa (Af 0) Ac)))) Ac))))))) (Ah (Ar Ec)) Bc)
  (Ah (Ar (Bj (J3 rfl) rfl L gB (Aa (Br (ts:=["one","other"]) (fs:=[]) rfl (Dy.of (sc:=Ax Ir) (N:=zJ) rfl rfl (by decide+kernel)) (W0 true true rfl W (Aa (Af 0) (Aa (Fj Ob (Af 0) (Gq Ad) Gp) Ac))) (fun _ _ _=>(Ds K 2 rfl rfl (Ak (Ao 0 (show Nodup (["one","other"]:List Str)by decide+kernel)) (Ak (Ao 1 (show Nodup (["one","other"]:List Str)by decide+kernel)) Bh)))) (fun _ _ _=>Bx) (fun _ _ _=>(Dp (Agk K hr.units) (Bf (Hu K) (Af 0) Ad (fun _ _=>rfl)) (Bf (Hu K) (Af 1) Ad (fun _ _=>rfl)) (Bl _)))) Ac))))),?_⟩
 done
 cases hv with
 | int i=>
   refine isa (.of (.int i)) Aer ?_
   try done
   exact k _ (Same.refl _)
 | bl b=>
   refine isa (.of (.bl b)) Ajb ?_
   try done
   exact k _ (Same.refl _)
 | non=>
   refine isa (.of .non) Aes ?_
   try done
   exact k _ (Same.refl _)
 | str x=>
   refine isa (.of (.str x)) Aet ?_
   try done
   exact k _ (Same.refl _)
 | lst e=>
   refine isa (.of (.lst e)) Aah ?_
   try done
   exact k _ (Same.refl _)
 | @bad a es h hl hw hb=>
   refine isa (.tup h) Ib ?_
   try done
   refine⟨⟨_,h⟩,fun p1 Z=>Gg (es:=es) (inj:=(·.1)) (fun e=> .bl e.2) (aO hl (by decide)) Z (Hq h) ?_ ?_⟩
   . intro e H2 R he U hR
     done
     exact⟨_,_,rfl,(hw e he).mono U,hR⟩
   intro H2 U h2
   have em:es.map (fun e=>V.bl e.2)=(es.map (·.2)).map V.bl:=by rw [aK];rfl
   rw [em]at h2
   refine⟨p1,_,rfl,.of h2,?_⟩
   rw [aI hb]
   exact k _ U
 | @good a ts h hl hw=>
   refine isa (.tup h) Ib ?_
   try done
   refine⟨⟨_,h⟩,fun p1 Z=>Gg (es:=ts) (inj:=fun t=>V.ref t.1) (fun _=> .bl true) (aO hl (by decide)) Z (Hq h) ?_ ?_⟩
   . intro e H2 R he U hR
     done
     exact⟨_,_,rfl,(hw e he).tm.mono U,hR⟩
   intro H2 U h2
   have em:ts.map (fun _=>V.bl true)=(ts.map fun _=>true).map V.bl:=by rw [aK];rfl
   rw [em]at h2
   refine⟨p1,_,rfl,.of h2,?_⟩
   rw [aF (by simp)]
   refine⟨a,_,rfl,U.tup h,fun z3 H3 s3 h3=> ?_⟩
   rw [Aik,<-map_drop]at h3
   have O:=U.trans s3
   refine⟨a,z3,rfl,⟨_,O.tup h⟩,⟨_,h3⟩,fun p4 n4=>Acv (xs:=ts.map fun t=>V.ref t.1) (ys:=(ts.drop 1).map fun t=>V.ref t.1) (ts.length-1) (by rw [aB,aB,iT];omega) (fun i=> .bl (HT.lexLt ((ts.map Prt.ks).getD i []) ((ts.map Prt.ks).getD (i+1) []))) (aO (show ts.length-1<=16000000 by omega) (by decide)) n4 (fun H' s'=>(O.trans s').tup h) (fun H' s'=>s'.tup h3) ?_ ?_⟩
   . intro i H4 q R hi s4 hq hR
     have e1:(ts.map fun t=>V.ref t.1).getD i .non= .ref (ts[i]'(by omega)).1:=by
      rw [aP,aZ,aG (by omega)]
      rfl
     have e2:((ts.drop 1).map fun t=>V.ref t.1).getD i .non= .ref (ts[i+1]'(by omega)).1:=by
      rw [aP,aZ,List.getElem?_drop,jM 1 i,aG (by omega)]
      rfl
     have e3:(ts.map Prt.ks).getD i []=(ts[i]'(by omega)).ks:=by
      rw [aP,aZ,aG (by omega)]
      rfl
     have e4:(ts.map Prt.ks).getD (i+1) []=(ts[i+1]'(by omega)).ks:=by
      rw [aP,aZ,aG (by omega)]
      rfl
     rw [e1,e2]at hq
     rw [e3,e4]at hR
     have t1:=((hw _ (cE (show i<ts.length by omega))).mono (O.trans s4)).pr
     have t2:=((hw _ (cE (show i+1<ts.length by omega))).mono (O.trans s4)).pr
     refine Dh (.of hq) ?_
     done
     refine El t1.pr (at0 _ _) (El t2.pr (at0 _ _) ?_)
     try done
     exact⟨_,_,_,_,rfl,rfl,t1.tu,t2.tu,hR _ (Same.refl _)⟩
   intro H4 s4 h4
   have a0:(List.range (ts.length-1)).map (fun i=>V.bl (HT.lexLt ((ts.map Prt.ks).getD i []) ((ts.map Prt.ks).getD (i+1) [])))=((List.range (ts.length-1)).map fun i=>HT.lexLt ((ts.map Prt.ks).getD i []) ((ts.map Prt.ks).getD (i+1) [])).map V.bl:=by rw [aK];rfl
   rw [a0]at h4
   have eu:((List.range (ts.length-1)).map fun i=>HT.lexLt ((ts.map Prt.ks).getD i []) ((ts.map Prt.ks).getD (i+1) [])).all id=upT (ts.map Prt.ks):=by
    unfold upT
    rw [all_map,aB]
    rfl
   refine⟨p4,_,rfl,.of h4,?_⟩
   rw [eu]
   exact k _ (O.trans s4)
noncomputable def Bv:List (List Int × Int)->List Int->Int
 | [],_=>0
 | e::r,k=>(if e.1=k then e.2 else 0)+Bv r k
theorem Rh (a b:List (List Int × Int)) (k:List Int):Bv (a++b) k=Bv a k+Bv b k:=by
 induction a with
 | nil=>show Bv b k=0+Bv b k;omega
 | cons e r q=>
   show _+Bv (r++b) k=(_+Bv r k)+Bv b k
   rw [q]
   omega
theorem Aby {a b:List (List Int × Int)} (h:a.Perm b) (k:List Int):Bv a k=Bv b k:=by
 induction h with
 | nil=>rfl
 | cons e _ q=>show _+Bv _ k=_+Bv _ k;rw [q]
 | swap x y l=>show _+(_+_)=_+(_+_);omega
 | trans _ _ G J=>exact G.trans J
theorem G5 {a:List (List Int × Int)}{k:List Int} (h:∀e∈a,e.1≠k):Bv a k=0:=by
 induction a with
 | nil=>rfl
 | cons e r q=>
   show(if e.1=k then e.2 else 0)+Bv r k=0
   rw [aF (h e (.head _)),q fun x G=>h x (.tail _ G)]
   rfl
noncomputable abbrev UpT (fs:List (List Int × Int)):Prop:=fs.Pairwise fun x y=>HT.lexLt x.1 y.1=true
theorem O8 {a b:List Int} (h:HT.lexLt a b=true):a≠b:=fun e=>by
 subst e
 have:∀ks:List Int,HT.lexLt ks ks=false:=fun ks=>by
  induction ks with
  | nil=>rfl
  | cons x r q=>rw [HT.Bu,aI rfl];exact q
 rw [this]at h
 cases h
theorem G4 {k:List Int}{w:Int}{r:List (List Int × Int)} (h:UpT ((k,w)::r)):Bv ((k,w)::r) k=w:=by
 show(if k=k then w else 0)+Bv r k=w
 rw [aI rfl,G5 fun e q z=> ?_]
 . omega
 . exact O8 ((cQ.mp h).1 e q) z.symm
theorem Uq:∀fs G:List (List Int × Int),UpT fs->UpT G->(∀e∈fs,e.2≠0)->(∀e∈G,e.2≠0)->(∀k,Bv fs k=Bv G k)->fs=G
 | [],[],_,_,_,_,_=>rfl
 | [],(k,w)::r,_,hg,_,ng,h=>by
   have:=h k
   rw [G4 hg]at this
   exact absurd this.symm (ng _ (.head _))
 | (k,w)::r,[],hf,_,nf,_,h=>by
   have:=h k
   rw [G4 hf]at this
   exact absurd this (nf _ (.head _))
 | (k,w)::r,(l,v)::t,hf,hg,nf,ng,h=>by
   have J:=cQ.mp hf
   have L:=cQ.mp hg
   by_cases e:k=l
   . subst e
     have M:=h k
     rw [G4 hf,G4 hg]at M
     subst M
     have O:=Uq r t J.2 L.2 (fun x q=>nf x (.tail _ q)) (fun x q=>ng x (.tail _ q)) fun m=>by
      have W:(if k=m then w else 0)+Bv r m=(if k=m then w else 0)+Bv t m:=h m
      omega
     rw [O]
   . exfalso
     cases lt:HT.lexLt k l with
     | true=>
       have:=h k
       rw [G4 hf,G5 fun x q=> ?_]at this
       . exact nf _ (.head _) this
       . rcases aQ.mp q with rfl | q
         . exact fun z=>e z.symm
         . exact fun z=>O8 (lex_trans _ _ _ lt (L.1 x q)) z.symm
     | false=>
       have U:HT.lexLt l k=true:=by
        have:=Qk k l e
        rw [lt]at this
        cases g:HT.lexLt l k
        . rw [g]at this
          cases this
        . rfl
       have:=h l
       rw [G4 hg,G5 fun x q=> ?_]at this
       . exact ng _ (.head _) this.symm
       . rcases aQ.mp q with rfl | q
         . exact e
         . exact fun z=>O8 (lex_trans _ _ _ U (J.1 x q)) z.symm
noncomputable def Vk (a b:List Int):List Int:=List.zipWith (· + ·) a b
noncomputable def Ii (f g:List (List Int × Int)):List (List Int × Int):=f.flatMap fun x=>g.map fun y=>(Vk x.1 y.1,x.2*y.2)
theorem Lf (c:Int):∀(f:List (List Int × Int)) (k:List Int),Bv (f.map fun e=>(e.1,e.2*c)) k=Bv f k*c
 | [],k=>by show 0=0*c;omega
 | e::r,k=>by
   show(if e.1=k then e.2*c else 0)+Bv (r.map fun e=>(e.1,e.2*c)) k=((if e.1=k then e.2 else 0)+Bv r k)*c
   rw [Lf c r k,kB]
   split
   . rfl
   . simp
noncomputable def pk (b:Int) (ks:List Int):Int:=(ks.getD 0 0*b+ks.getD 1 0)*b+ks.getD 2 0
theorem Aj8 {j k l m n:Int} (q:0<=j/\j<b) (G:0<=k/\k<b) (J:0<=m/\m<b) (L:0<=n/\n<b) (h:pk b [i,j,k]=pk b [l,m,n]):i=l/\j=m/\k=n:=by
 have h':(i*b+j)*b+k=(l*b+m)*b+n:=h
 have M:b≠0:=by omega
 have O:k=n:=by
  have:=bK (· %b) h'
  simp only [fA _ k,fA _ n,gI]at this
  rwa [gH G.1 G.2,gH L.1 L.2]at this
 subst O
 have h2:i*b+j=l*b+m:=Int.eq_of_mul_eq_mul_right M (by omega)
 have U:j=m:=by
  have:=bK (· %b) h2
  simp only [fA _ j,fA _ m,gI]at this
  rwa [gH q.1 q.2,gH J.1 J.2]at this
 subst U
 exact⟨Int.eq_of_mul_eq_mul_right M (by omega),rfl,rfl⟩
theorem Yb {kvs:List (List Key × V)}{k:List Key}{w:V} (h:Fe kvs k=some w):(putK kvs k v).map (·.1)=kvs.map (·.1):=by
 unfold putK
 rw [Gm,h,jQ,aI rfl,aK]
 refine bR fun p _=> ?_
 show(if p.1=k then(p.1,v)else p).1=p.1
 split<;>rfl
theorem V4 (ks:List Int):(ks.map Sum.inl:List Key).map kV=ks.map V.int:=by rw [aK];rfl
structure Te (K:Frag) (H:Hp) (v:V) (e:List Int × Int):Prop where
 at_:∃a b,v= .ref a/\SqT K H a [.ref b,.int e.2]/\H b=some (.tup (e.1.map V.int))
 ln:e.1.length=3
theorem Te.mono {e:List Int × Int} (h:Te K H v e) (s:Same H H'):Te K H' v e:=by
 obtain⟨⟨a,b,q,G,J⟩,l⟩:=h
 exact⟨⟨a,b,q,s.tup G,s _ _ J⟩,l⟩
theorem Te.put {e:List Int × Int} (h:Te K H v e) (q:H f=some (.lst zs)):Te K (upd H f (.lst ys)) v e:=by
 obtain⟨⟨a,b,J,L,G⟩,l⟩:=h
 refine⟨⟨a,b,J,?_,by rw [Bm (Ih G q (fun z=>nomatch z))];exact G⟩,l⟩
 rcases L with(e | ⟨o,e⟩) | h
 . exact .inl (.inl (by rw [Bm (Ih e q (fun z=>nomatch z))];exact e))
 . exact .inl (.inr ⟨o,by rw [Bm (Ih e q (fun z=>nomatch z))];exact e⟩)
 . exact .inr h
structure Sus (H H':Hp) (d:Addr) (kvs:List (List Key × V)) (ts:List (List Int × Int)):Prop where
 sm:Same H H'
 it:H' d=some (.dT kvs)
 le:kvs.length<=ts.length
 nd:(kvs.map (·.1)).Nodup
 ky:∀e∈kvs,∃ks:List Int,e.1=ks.map Sum.inl/\ks.length=3
 vl:∀ks:List Int,Fe kvs (ks.map Sum.inl)=some (.int (Bv ts ks))\/(Fe kvs (ks.map Sum.inl)=none/\Bv ts ks=0)
theorem Ug {a b:List Int} (h:(a.map Sum.inl:List Key)=b.map Sum.inl):a=b:=by
 have:=bK (List.map toI) h
 rwa [Jz,Jz]at this
theorem Sus.put {H H' H2:Hp}{d:Addr}{kvs:List (List Key × V)}{ts:List (List Int × Int)} (h:Sus H H' d kvs ts) (n:H d=none) {ks:List Int}{w:Int} (J:ks.length=3) (e2:H2=upd H' d (.dT (putK kvs (ks.map Sum.inl) (.int (Bv ts ks+w))))):Sus H H2 d (putK kvs (ks.map Sum.inl) (.int (Bv ts ks+w))) (ts++ [(ks,w)]):=by
 subst e2
 refine⟨h.sm.put n,Ag,?_,?_,fun e q=> ?_,fun G=> ?_⟩
 . rw [aL]
   exact aO (Jr _ _ _) (jB h.le 1)
 . cases e:Fe kvs (ks.map Sum.inl)with
   | none=>exact Agb _ h.nd e
   | some v=>
     rw [Yb e]
     exact h.nd
 . have:e∈kvs\/e.1=ks.map Sum.inl:=by
    unfold putK at q
    split at q
    . obtain⟨p,hp,rfl⟩:=aD.mp q
      split
      . rename_i c
        exact .inr c
      . exact .inl hp
    . rcases bG.mp q with q | q
      . exact .inl q
      . have:e=(ks.map Sum.inl,.int (Bv ts ks+w)):=by simpa using q
        exact .inr (by rw [this])
   rcases this with q | q
   . exact h.ky e q
   . exact⟨ks,q,J⟩
 . rw [Kh,Rh]
   by_cases e:G=ks
   . subst e
     rw [aI rfl]
     refine .inl ?_
     show some (V.int (Bv ts G+w))=some (V.int (Bv ts G+((if G=G then w else 0)+0)))
     rw [aI rfl,fM]
   . rw [aF fun z=>e (Ug z)]
     have L:Bv [(ks,w)] G=0:=by
      show(if ks=G then w else 0)+0=0
      rw [aF (cS e)]
      rfl
     rw [L,fM]
     exact h.vl G
structure Frm (K:Frag) (H:Hp) (a:Addr) (fs:List (V × (List Int × Int))):Prop where
 it:SqT K H a (fs.map (·.1))
 al:∀e∈fs,Te K H e.1 e.2
 up:UpT (fs.map (·.2))
 nn:∀e∈fs,e.2.2≠0
theorem Mv (T:List Int->Int) (k:List Int):∀q:List Tpt,(q.map fun t=>t.2).Nodup->Bv ((q.filter fun t=>decide (T t.2≠0)).map fun t=>(t.2,T t.2)) k=if k∈q.map (fun t=>t.2)then T k else 0
 | [],_=>rfl
 | u::r,h=>by
   have G:=cZ.mp h
   have L:=Mv T k r G.2
   by_cases J:T u.2=0
   . rw [cB (by simp [J]),L]
     by_cases e:k=u.2
     . subst e
       rw [aF G.1,aI (by simp),J]
     . have:(k∈(u::r).map fun t=>t.2)=(k∈r.map fun t=>t.2):=by simp [e]
       simp only [this]
   . rw [cJ (by simp [J])]
     show(if u.2=k then T u.2 else 0)+Bv ((r.filter fun t=>decide (T t.2≠0)).map fun t=>(t.2,T t.2)) k=_
     rw [L]
     by_cases e:u.2=k
     . subst e
       rw [aI rfl,aF G.1,aI (by simp),fM]
     . have:(k∈(u::r).map fun t=>t.2)=(k∈r.map fun t=>t.2):=by simp [cS e]
       rw [aF e,eK]
       simp only [this]
theorem Wv {kvs:List (List Key × V)}{k:List Key} (h:Fe kvs k=some v):k∈kvs.map (·.1):=by
 obtain⟨p,hp,_⟩:=iF.mp (show(kvs.find? fun q=>decide (q.1=k)).map (·.2)=some v from h)
 have:=List.find?_some hp
 exact aD.mpr ⟨p,List.mem_of_find?_eq_some hp,by simpa using this⟩
noncomputable def Abn (K:Frag):Sp:=fun vs H Q _=>∃(a:Addr) (es:List (V × (List Int × Int))),vs=[.ref a]/\(SqL K H a (es.map (·.1))\/SqT K H a (es.map (·.1)))/\(∀e∈es,Te K H e.1 e.2)/\es.length<16000000/\
 ∀z H' fs,Same H H'->Frm K H' z fs->(∀k,Bv (fs.map (·.2)) k=Bv (es.map (·.2)) k)->fs.length<=es.length->Q (.ref z) H'
theorem Aci {α:Type}{q:Hp}{es:List α}{inj:α->V}{tb:TS}{D:Ends}{σ:St} (h:SqL K q l (es.map inj)\/SqT K q l (es.map inj)) (s:Same q H) (k:∀J,(∀H',Same q H'->Aec J H' es inj)->FI J g tb D σ H):(∃xs,SqL K H l xs)/\FI (Itl K l) g tb D σ H\/(∃xs,SqT K H l xs)/\FI (Itt K l) g tb D σ H:=
 h.imp (fun h=>⟨⟨_,s.seq h⟩,k _ fun _ s=>Ho (s.seq h)⟩) (fun h=>⟨⟨_,s.tup h⟩,k _ fun _ s=>Mw (s.tup h)⟩)
theorem Agf (F:Df K mg "form" Wm ["terms"] f fd)  (M:mg "tuple"=none) (L:mg "sorted"=none)   :Cal P w K mg base 1 "form" ["terms"] (Abn K):=by
 refine F.cal (F.fn.ok Ra (fun vs H Q E h=> ?_) (fun a9 A outer s H vs Q E hr h=> ?_))
 . obtain⟨a,es,rfl,_⟩:=h
   rfl
 obtain⟨a,es,rfl,hS,hT,aa,k⟩:=h
 refine Bb ⟨_,(Ae (Ay 1 Ra.nd M4)
  (Ae (Ce bX rfl (Yt (Af 0)) (Ca rfl (Ak (Ao 2 Ra.nd) (Ak (Ao 3 Ra.nd) Bh))) (Ah (Gs (hu1 hr.units) (Af 1) (Af 2) (Al Cg (Fg (hu1 hr.units) (Af 1) (Af 2) Ad ⟨rfl,rfl,rfl,rfl⟩) (Af 3)) rfl)))
  (Ah (Ar (Eu Ed rfl M cI (Aa (Br (ts:=["powers"]) (fs:=[(1,"sums")]) rfl (Dy.of (sc:=Ax Wm) (N:=["terms","sums","powers","weight"]) rfl rfl (by decide+kernel)) (Fl (Bj (T4 rfl) rfl L kE (Aa (Af 1) Ac))) (fun _ _ _=>(Ao 0 (show Nodup (["powers","sums"]:List Str)by decide+kernel))) (fun _ _ _=>(Jc (Av Nk (Gn (hu1 hr.units) (Af 1) (Af 0) (fun _ _=>rfl)) Ad (Bl _)))) (fun _ _ _=>(Aw (Aa (Af 0) (Aa (Gn (hu1 hr.units) (Af 1) (Af 0) (fun _ _=>rfl)) Ac))))) Ac)))))),?_⟩
 done
 intro d hd
 have s1:=Same.upd hd (.dT [])
 refine Aci hS s1 fun J hJ=>Oq (es:=es) (inj:=(·.1)) (fun O a0 H'=>∃(kvs:List (List Key × V)) (o2 o3:Option V),a0=[some (.ref a),some (.ref d),o2,o3]/\Sus H H' d kvs (O.map (·.2))) ⟨[],_,_,rfl,⟨s1,Ag,aH _,by simp,by simp,fun _=> .inr ⟨rfl,rfl⟩⟩⟩ ?_ ?_ ?_
 . rintro O a0 H' ⟨kvs,o2,o3,rfl,G⟩
   exact hJ _ G.sm
 . rintro O e a8 a0 H' hE ⟨kvs,o2,o3,rfl,G⟩
   have hm:e∈es:=by rw [hE];simp
   obtain⟨⟨b,c,eb,hb,hc⟩,ln⟩:=(hT e hm).mono G.sm
   rw [eb]
   refine Dh hb ?_
   done
   have ek:H' c=some (.tup ((e.2.1.map Sum.inl:List Key).map kV)):=by rw [V4];exact hc
   refine⟨.inr ⟨kvs,.inl G.it⟩,_,Ro.t G.it ek,?_⟩
   have ev:(Fe kvs (e.2.1.map Sum.inl)).getD (.int 0)= .int (Bv (O.map (·.2)) e.2.1):=by
    rcases G.vl e.2.1 with h | ⟨h,h0⟩
    . rw [h]
      rfl
    . rw [h,h0]
      rfl
   rw [ev]
   try done
   refine⟨d,_,rfl,Aco.t G.it ek ?_,putK kvs (e.2.1.map Sum.inl) (.int (Bv (O.map (·.2)) e.2.1+e.2.2)),_,_,rfl,?_⟩
   . have l1:=G.le
     have l2:=bK length hE
     rw [aL]at l2
     rw [aB]at l1
     exact cY (show kvs.length<=16000000 by omega) (by decide)
   . rw [aJ]
     exact G.put hd ln rfl
 rintro a0 H' ⟨kvs,o2,o3,rfl,G⟩
 obtain⟨ts,a1⟩:∃ts:List (List Int × Int),es.map (·.2)=ts:=⟨_,rfl⟩
 have ab:ts.length=es.length:=by rw [<-a1,aB]
 rw [a1]at G
 rw [a1]at k
 done
 have a2:kvs.length<16000000:=by
  have l1:=G.le
  omega
 refine⟨d,kvs,3,rfl,G.it,G.ky,by decide,G.nd,a2,fun l U hl W a3 a5=> ?_⟩
 have sl:=Same.upd hl (.lst (U.map fun t=>V.ref t.1))
 refine⟨⟨_,.of Ag⟩,fun p hp=> ?_⟩
 have a6:(U.map fun t=>t.2).Nodup:=by
  have h1:(U.map fun t=>(t.2.map Sum.inl:List Key)).Nodup:=W.nodup_iff.mpr G.nd
  refine bC.mpr ((bC.mp h1).imp fun h z=>h ?_)
  rw [z]
 have lu:U.length=kvs.length:=by
  have:=W.length_eq
  simpa using this
 have ls:U.length<=sizeLine:=by rw [lu];exact aO (eR a2) (by decide)
 have vu:∀t∈U,Fe kvs (t.2.map Sum.inl)=some (.int (Bv ts t.2)):=fun t Z=>by
  rcases G.vl t.2 with h | ⟨h,_⟩
  . exact h
  . exact absurd (W.mem_iff.mp (aD.mpr ⟨t,Z,rfl⟩)) (Ww h)
 have l3:∀t∈U,t.2.length=3:=fun t Z=>by
  obtain⟨e,he,e1⟩:=aD.mp (W.mem_iff.mp (aD.mpr ⟨t,Z,rfl⟩))
  obtain⟨ks,e2,e3⟩:=G.ky e he
  rw [e2]at e1
  rw [<-Ug e1]
  exact e3
 refine Jm (es:=U) (inj:=fun t=>V.ref t.1) (fun t=>decide (Bv ts t.2≠0)) (fun t v H=>Te K H v (t.2,Bv ts t.2)) (fun t v H H' h s=>h.mono s) (fun t v H ys zs h hp=>h.put hp) ls hp (Vg (.of Ag)) ?_ ?_
 . intro t H3 R RF Z s3 k1 k2
   have s4:=sl.trans s3
   have ek:H3 t.1=some (.tup ((t.2.map Sum.inl:List Key).map kV)):=by rw [V4];exact s4 _ _ (a3 t Z)
   have dg:Ro H3 d (.ref t.1) (some (.int (Bv ts t.2))):=by
    have:=Ro.t (s4 _ _ G.it) ek
    rw [vu t Z]at this
    exact this
   done
   refine⟨d,_,rfl,dg,?_⟩
   try done
   by_cases w0:Bv ts t.2=0
   . rw [aI w0]
     exact k2 (by simp [w0]) _ (Same.refl _)
   . rw [aF w0]
     refine⟨d,_,rfl,dg,fun p2 a4=>k1 (by simp [w0]) _ _ (Same.upd a4 _) ⟨⟨p2,t.1,rfl,.of Ag,?_⟩,l3 t Z⟩⟩
     exact Same.upd a4 _ _ _ (s4 _ _ (a3 t Z))
 intro H3 vs s3 h3 hv a7
 have s4:=(G.sm.trans sl).trans s3
 refine⟨p,_,rfl,.inl ⟨.of h3,fun z hz=> ?_⟩⟩
 have sz:=Same.upd hz (.tup (vs.map (·.1)))
 have e1:(vs.map fun x=>(x.1,((x.2.2,Bv ts x.2.2):List Int × Int))).map (·.1)=vs.map (·.1):=by rw [aK];rfl
 have e2:(vs.map fun x=>(x.1,((x.2.2,Bv ts x.2.2):List Int × Int))).map (·.2)=(U.filter fun t=>decide (Bv ts t.2≠0)).map fun t=>(t.2,Bv ts t.2):=by
  rw [<-hv,aK,aK]
  rfl
 refine k z _ (vs.map fun x=>(x.1,(x.2.2,Bv ts x.2.2))) (s4.trans sz) ⟨by rw [e1];exact .of Ag,fun e he=> ?_,?_,fun e he=> ?_⟩ (fun q=> ?_) ?_
 . obtain⟨x,hx,rfl⟩:=aD.mp he
   exact(a7 x hx).mono sz
 . rw [e2]
   exact bC.mpr (a5.sublist jJ)
 . obtain⟨x,hx,rfl⟩:=aD.mp he
   have:x.2∈U.filter fun t=>decide (Bv ts t.2≠0):=by rw [<-hv];exact aD.mpr ⟨x,hx,rfl⟩
   simpa using(bQ.mp this).2
 . rw [e2,Mv (Bv ts) q U a6]
   split
   . rfl
   . rename_i hq
     rcases G.vl q with h | ⟨_,h⟩
     . obtain⟨t,Z,et⟩:=aD.mp (W.mem_iff.mpr (Wv h))
       exact absurd (aD.mpr ⟨t,Z,Ug et⟩) hq
     . exact h.symm
 . have e3:=bK length hv
   rw [aB]at e3
   rw [aB,e3]
   refine aO (dM _ _) ?_
   rw [lu]
   have:=G.le
   omega
structure Tw (K:Frag) (H:Hp) (v:V) (e:List Int × Int):Prop where
 at_:∃a b,v= .ref a/\SqT K H a [.ref b,.int e.2]/\SqT K H b (e.1.map V.int)
 ln:e.1.length=3
theorem Te.weak {e:List Int × Int} (h:Te K H v e):Tw K H v e:=by
 obtain⟨⟨a,b,q,G,J⟩,l⟩:=h
 exact⟨⟨a,b,q,G,.of J⟩,l⟩
theorem Tw.mono {e:List Int × Int} (h:Tw K H v e) (s:Same H H'):Tw K H' v e:=by
 obtain⟨⟨a,b,q,G,J⟩,l⟩:=h
 exact⟨⟨a,b,q,s.tup G,s.tup J⟩,l⟩
structure Ox (K:Frag) (H:Hp) (a:Addr) (fs:List (V × (List Int × Int))):Prop where
 it:SqT K H a (fs.map (·.1))
 al:∀e∈fs,Tw K H e.1 e.2
 up:UpT (fs.map (·.2))
 nn:∀e∈fs,e.2.2≠0
theorem Frm.weak {H:Hp}{a:Addr}{fs:List (V × (List Int × Int))} (h:Frm K H a fs):Ox K H a fs:=⟨h.it,fun e q=>(h.al e q).weak,h.up,h.nn⟩
theorem Ox.mono {H H':Hp}{a:Addr}{fs:List (V × (List Int × Int))} (h:Ox K H a fs) (s:Same H H'):Ox K H' a fs:=⟨s.tup h.it,fun e q=>(h.al e q).mono s,h.up,h.nn⟩
structure Tws (K:Frag) (H:Hp) (a:Addr) (fs:List (V × (List Int × Int))):Prop where
 it:SqT K H a (fs.map (·.1))
 al:∀e∈fs,Tw K H e.1 e.2
theorem Ox.ts {fs:List (V × (List Int × Int))} (h:Ox K H a fs):Tws K H a fs:=⟨h.it,h.al⟩
theorem Frm.mono {H H':Hp}{a:Addr}{fs:List (V × (List Int × Int))} (h:Frm K H a fs) (s:Same H H'):Frm K H' a fs:=⟨s.tup h.it,fun e q=>(h.al e q).mono s,h.up,h.nn⟩
noncomputable def fD3 (e:List Int × Int):PyData:= .tuple [.tuple (e.1.map .int),.int e.2]
theorem Aai:∀q:List (List Int × Int),PyData.canLayAll0 (q.map fD3)=true
 | []=>rfl
 | c::cs=>by simp [fD3,PyData.canLayAll0,PyData.canLay0,ke_canLayAll0,Aai cs]
theorem Zm:∀q:List (List Int × Int),PyData.depthAll (q.map fD3)<=8
 | []=>by simp [PyData.depthAll]
 | c::cs=>by
   have:=Zm cs
   simp only [aU,PyData.depthAll,PyData.depth,fD3,ke_depthAll]at this ⊢
   exact Nat.max_le.mpr ⟨by simp,this⟩
theorem Ph (us:List (List Int × Int)):SeqAt.shaped (.tuple (us.map fD3))=true:=by
 have h1:=Aai us
 have h2:=Zm us
 simp [SeqAt.shaped,PyData.canLay0,PyData.depth,h1]
 omega
theorem Zv:∀q G:List (List Int × Int),PyData.eqvAll (q.map fD3) (G.map fD3)=decide (q=G)
 | [],[]=>by simp [PyData.eqvAll]
 | [],_::_=>by simp [PyData.eqvAll]
 | _::_,[]=>by simp [PyData.eqvAll]
 | a::r,b::t=>by
   simp only [aU,PyData.eqvAll,PyData.eqv,fD3,Qg,Bool.and_true]
   rw [Zv r t]
   by_cases h':r=t
   . by_cases h1:a.1=b.1<;>by_cases h2:a.2=b.2<;>simp [h1,h2,h',Prod.ext_iff]
   . simp [h']
noncomputable def Iw (K:Frag):Sp:=fun vs H Q _=>∃(a b:Addr) (fs gs:List (V × (List Int × Int))),vs=[.ref a,.ref b]/\Frm K H a fs/\Frm K H b gs/\fs.length+gs.length<16000000/\
 ∀z H' hs,Same H H'->Frm K H' z hs->(∀k,Bv (hs.map (·.2)) k=Bv (fs.map (·.2)) k+Bv (gs.map (·.2)) k)->hs.length<=fs.length+gs.length->Q (.ref z) H'
theorem Aay (F:Df K mg "f_plus" Q5 zE f fd)    (G:Cal P w K mg base 1 "form" ["terms"] (Abn K)):Cal P w K mg base 2 "f_plus" zE (Iw K):=by
 refine F.cal (F.fn.ok Abj (fun Z H Q E h=> ?_) (fun a0 A outer s H Z Q E hr h=> ?_))
 . obtain⟨a,b,fs,M,rfl,_⟩:=h
   rfl
 obtain⟨a,b,fs,M,rfl,O,U,W,k⟩:=h
 refine Bb ⟨_,(Ah (Ar (Aj G hr (Aa (Al Qv (Af 0) (Af 1)) Ac)))),?_⟩
 done
 refine⟨a,b,_,_,rfl,rfl,O.it,U.it,?_,fun z H1 L h1=> ?_⟩
 . rw [aB,aB]
   exact aO (eR W) (by decide)
 rw [<-aJ]at h1
 refine⟨z,fs++M,rfl,.inr h1,fun e J=> ?_,by rw [aL];exact W,fun z2 H2 hs s2 fr et el=>k z2 H2 hs (L.trans s2) fr (fun q=> ?_) (by rw [aL]at el;exact el)⟩
 . rcases bG.mp J with J | J
   . exact(O.al e J).mono L
   . exact(U.al e J).mono L
 . rw [et q,aJ,Rh]
theorem Vm {H1:Hp}{p:Addr}{cσ:St}{g:TG}{te:TE}{Q:VK}{α:Type}{es:List α}{inj:α->V}{J:It} (q:α->V->Hp->Prop)
 (mono:∀e v H H',q e v H->Same H H'->q e v H') (put:∀e v H ys zs,q e v H->H p=some (.lst ys)->q e v (upd H p (.lst zs))) (O:es.length<=sizeLine) (hp:H1 p=none) (U:Wk J H1 es inj)
 (step:∀(e:α) (H':Hp) (R:VK),e∈es->Same H1 H'->(∀v M,Same H' M->q e v M->R v M)->g (inj e) cσ H' fun G W=>Kp cσ G/\te G W R)
 (L:∀H' (vs:List (V × α)),Same H1 H'->H' p=some (.lst (vs.map (·.1)))->vs.map (·.2)=es->(∀x∈vs,q x.2 x.1 H')->Q (.ref p) H'):cIn J cσ g Mj te Q H1 p:=
 Jm (fun _=>true) q mono put O hp U (fun e H' R RF Z s hR _=>step e H' R Z s (hR rfl)) (fun H' vs s h ev hr=>L H' vs s h (by rw [ev];exact List.filter_eq_self.mpr fun _ _=>rfl) hr)
noncomputable def Jv (K:Frag):Sp:=fun vs H Q _=>∃(a:Addr) (fs:List (V × (List Int × Int))) (n:Nat) (c:Int),vs=[.ref a,.int c]/\Frm K H a fs/\fs.length<16000000/\(∀e∈fs,Sz n e.2.2)/\Sz n c/\n<=60000000/\
 ∀z H' hs,Same H H'->Frm K H' z hs->(∀k,Bv (hs.map (·.2)) k=Bv (fs.map (·.2)) k*c)->hs.length<=fs.length->Q (.ref z) H'
theorem Us (F:Df K mg "f_scaled" Je yE f fd)  (G:mg "tuple"=none)   :Cal P w K mg base 1 "f_scaled" yE (Jv K):=by
 refine F.cal (F.fn.ok U8 (fun J H Q E h=> ?_) (fun a1 A outer s H J Q E hr h=> ?_))
 . obtain⟨a,fs,n,c,rfl,_⟩:=h
   rfl
 obtain⟨a,fs,n,c,rfl,M,hl,W,hc,hn,k⟩:=h
 refine Bb ⟨_,(Ae (Bp (Av J7 (Af 1) Ad (Bl _)) (Ah (Ar (Aw Ac))) Bc)
  (Ah (Ar (Eu Ed rfl G cI (Aa (Br (ts:=zU) (fs:=[(1,"number")]) rfl (Dy.of (sc:=Ax Je) (N:=yE) rfl rfl (by decide+kernel)) (Cu (Af 0)) (fun _ _ _=>(Ds K 2 rfl rfl (Ak (Ao 0 (show Nodup (["powers","weight","number"]:List Str)by decide+kernel)) (Ak (Ao 1 (show Nodup (["powers","weight","number"]:List Str)by decide+kernel)) Bh)))) (fun _ _ _=>Bx) (fun _ _ _=>(Aw (Aa (Af 0) (Aa (Al Fx (Af 1) (Af 2)) Ac))))) Ac))))),?_⟩
 done
 by_cases U:c=0
 . rw [aI U]
   refine⟨by decide,fun p hp=>k p _ [] (Same.upd hp _) ⟨.of Ag,by simp,.nil,by simp⟩ (fun q=> ?_) (bO _)⟩
   rw [U,Int.mul_zero]
   rfl
 rw [aF U]
 refine⟨⟨_,M.it⟩,fun p hp=>Vm (es:=fs) (inj:=fun e=>e.1) (fun e v H=>Te K H v (e.2.1,e.2.2*c)) (fun e v H H' h s=>h.mono s) (fun e v H ys zs h hp=>h.put hp) (aO (eR hl) (by decide)) hp (Hq M.it) ?_ ?_⟩
 . intro e H2 R L Z hR
   obtain⟨⟨b,d,eb,hb,hd⟩,ln⟩:=(M.al e L).mono Z
   rw [eb]
   refine Dh hb ?_
   done
   refine⟨(W e L).mulOk hc (by omega),fun p2 O=>hR _ _ (Same.upd O _) ⟨⟨p2,d,rfl,.of Ag,Same.upd O _ _ _ hd⟩,ln⟩⟩
 intro H2 J Z h2 hv a0
 refine⟨p,_,rfl,.inl ⟨.of h2,fun z W=> ?_⟩⟩
 have sz:=Same.upd W (.tup (J.map (·.1)))
 have e1:(J.map fun x=>(x.1,((x.2.2.1,x.2.2.2*c):List Int × Int))).map (·.1)=J.map (·.1):=by rw [aK];rfl
 have e2:(J.map fun x=>(x.1,((x.2.2.1,x.2.2.2*c):List Int × Int))).map (·.2)=(fs.map (·.2)).map fun e=>(e.1,e.2*c):=by
  rw [<-hv,aK,aK,aK]
  rfl
 refine k z _ (J.map fun x=>(x.1,(x.2.2.1,x.2.2.2*c))) (Z.trans sz) ⟨by rw [e1];exact .of Ag,fun e L=> ?_,?_,fun e L=> ?_⟩ (fun q=> ?_) ?_
 . obtain⟨x,hx,rfl⟩:=aD.mp L
   exact(a0 x hx).mono sz
 . rw [e2]
   exact bC.mpr M.up
 . obtain⟨x,hx,rfl⟩:=aD.mp L
   have:x.2∈fs:=by rw [<-hv];exact aD.mpr ⟨x,hx,rfl⟩
   exact lB (M.nn _ this) U
 . rw [e2,Lf]
 . rw [aB,<-hv,aB]
   exact aH _
theorem Vf {e:List Key × V}:∀ {kvs:List (List Key × V)},(kvs.map (·.1)).Nodup->e∈kvs->Fe kvs e.1=some e.2
 | [],_,h=>nomatch h
 | p::r,nd,h=>by
   have n:=cZ.mp nd
   rcases aQ.mp h with rfl | h
   . exact Cw rfl
   . rw [Cd fun z=>n.1 (aD.mpr ⟨e,h,z.symm⟩)]
     exact Vf n.2 h
structure Pn (H:Hp) (t:Prt) (e:List Key × V):Prop where
 pr:H t.1=some (.tup [.ref t.2.1,t.2.2.2])
 tu:H t.2.1=some (.tup (t.ks.map V.int))
 ky:(t.ks.map Sum.inl:List Key)=e.1
 vl:t.2.2.2=e.2
theorem Pn.mono {t:Prt}{e:List Key × V} (h:Pn H t e) (s:Same H H'):Pn H' t e:=⟨s _ _ h.pr,s _ _ h.tu,h.ky,h.vl⟩
theorem Pn.put {t:Prt}{e:List Key × V} (h:Pn H t e) (q:H f=some (.lst zs)):Pn (upd H f (.lst ys)) t e:=
 ⟨by rw [Bm (Ih h.pr q (fun z=>nomatch z))];exact h.pr,by rw [Bm (Ih h.tu q (fun z=>nomatch z))];exact h.tu,h.ky,h.vl⟩
theorem Aj6 {H:Hp}:∀q:List (V × (List Key × V)),(∀x∈q,∃t:Prt,x.1= .ref t.1/\Pn H t x.2)->
 ∃ts:List Prt,ts.map (fun t=>V.ref t.1)=q.map (·.1)/\(∀t∈ts,∃x∈q,Pn H t x.2)/\ts.map (fun t=>(t.ks.map Sum.inl:List Key))=(q.map (·.2)).map (·.1)
 | [],_=>⟨[],rfl,by simp,rfl⟩
 | x::r,h=>by
   obtain⟨t,a,b⟩:=h x (.head _)
   obtain⟨ts,L,M,O⟩:=Aj6 r fun y G=>h y (.tail _ G)
   refine⟨t::ts,by rw [aU,aU,L,a],fun u J=> ?_,by rw [aU,aU,aU,O,b.ky]⟩
   rcases aQ.mp J with rfl | J
   . exact⟨x,.head _,b⟩
   . obtain⟨y,G,p⟩:=M u J
     exact⟨y,.tail _ G,p⟩
noncomputable def Hy (K:Frag):Sp:=fun vs H Q _=>∃(a:Addr) (es:List (V × (List Int × Int))),vs=[.ref a]/\SqL K H a (es.map (·.1))/\(∀e∈es,Te K H e.1 e.2)/\es.length<16000000/\
 ∀z H' fs,Same H H'->Frm K H' z fs->(∀k,Bv (fs.map (·.2)) k=Bv (es.map (·.2)) k)->Q (.ref z) H'
theorem Adk (F:Df K mg "_law_sum" Q8 zV f fd)  (O:mg "tuple"=none) (L:mg "sorted"=none)   :Cal P w K mg base 1 "_law_sum" zV (Hy K):=by
 refine F.cal (F.fn.ok Mt (fun vs H Q E h=> ?_) (fun ag A outer s H vs Q E hr h=> ?_))
 . obtain⟨a,es,rfl,_⟩:=h
   rfl
 obtain⟨a,es,rfl,hS,hT,ah,k⟩:=h
 refine Bb ⟨_,(Ae (Ay 1 Mt.nd M4)
  (Ae (Ce bX rfl (Fl (Af 0)) (Ca rfl (Ak (Ao 2 Mt.nd) (Ak (Ao 3 Mt.nd) Bh))) (Ah (Gs (hu1 hr.units) (Af 1) (Af 2) (Al Cg (Fg (hu1 hr.units) (Af 1) (Af 2) Ad ⟨rfl,rfl,rfl,rfl⟩) (Af 3)) rfl)))
  (Ah (Ar (Eu Ed rfl O cI (Aa (Bj (T3 hr.units) rfl L kE (Aa (Br (ts:=zQ) (fs:=[]) rfl (Dy.of (sc:=Ax Q8) (N:=yJ) rfl rfl (by decide+kernel)) (Tn (Af 1) ⟨rfl,rfl,rfl,rfl⟩) (fun _ _ _=>(Ds K 2 rfl rfl (Ak (Ao 0 (show Nodup (zQ:List Str)by decide+kernel)) (Ak (Ao 1 (show Nodup (zQ:List Str)by decide+kernel)) Bh)))) (fun _ _ _=>(Jc (Av Nk (Af 1) Ad (Bl _)))) (fun _ _ _=>(Aw (Aa (Af 0) (Aa (Af 1) Ac))))) Ac)) Ac)))))),?_⟩
 done
 intro d hd
 have s1:=Same.upd hd (.dT [])
 refine⟨⟨_,s1.seq hS⟩,Oq (es:=es) (inj:=(·.1)) (fun U W H'=>∃(kvs:List (List Key × V)) (o2 o3:Option V),W=[some (.ref a),some (.ref d),o2,o3]/\Sus H H' d kvs (U.map (·.2))) ⟨[],_,_,rfl,⟨s1,Ag,aH _,by simp,by simp,fun _=> .inr ⟨rfl,rfl⟩⟩⟩ ?_ ?_ ?_⟩
 . rintro U W H' ⟨kvs,o2,o3,rfl,J⟩
   exact Ho (J.sm.seq hS)
 . rintro U e af W H' hE ⟨kvs,o2,o3,rfl,J⟩
   have hm:e∈es:=by rw [hE];simp
   obtain⟨⟨b,c,eb,hb,hc⟩,ln⟩:=(hT e hm).mono J.sm
   rw [eb]
   refine Dh hb ?_
   done
   have ek:H' c=some (.tup ((e.2.1.map Sum.inl:List Key).map kV)):=by rw [V4];exact hc
   refine⟨.inr ⟨kvs,.inl J.it⟩,_,Ro.t J.it ek,?_⟩
   have ev:(Fe kvs (e.2.1.map Sum.inl)).getD (.int 0)= .int (Bv (U.map (·.2)) e.2.1):=by
    rcases J.vl e.2.1 with h | ⟨h,h0⟩
    . rw [h]
      rfl
    . rw [h,h0]
      rfl
   rw [ev]
   try done
   refine⟨d,_,rfl,Aco.t J.it ek ?_,putK kvs (e.2.1.map Sum.inl) (.int (Bv (U.map (·.2)) e.2.1+e.2.2)),_,_,rfl,?_⟩
   . have l1:=J.le
     have l2:=bK length hE
     rw [aL]at l2
     rw [aB]at l1
     exact cY (show kvs.length<=16000000 by omega) (by decide)
   . rw [aJ]
     exact J.put hd ln rfl
 rintro W H' ⟨kvs,o2,o3,rfl,J⟩
 obtain⟨ts,a4⟩:∃ts:List (List Int × Int),es.map (·.2)=ts:=⟨_,rfl⟩
 have ai:ts.length=es.length:=by rw [<-a4,aB]
 rw [a4]at J
 rw [a4]at k
 have a7:kvs.length<16000000:=by
  have l1:=J.le
  omega
 have vk:∀e∈kvs,e.2= .int (Bv ts (e.1.map toI))/\(e.1.map toI).length=3/\((e.1.map toI).map Sum.inl:List Key)=e.1:=fun e M=>by
  obtain⟨ks,e1,e2⟩:=J.ky e M
  have e3:e.1.map toI=ks:=by rw [e1,Jz]
  rw [e3]
  refine⟨?_,e2,e1.symm⟩
  have v:=Vf J.nd M
  rw [e1]at v
  rcases J.vl ks with h | ⟨h,_⟩
  . rw [h]at v
    exact(bE v).symm
  . rw [h]at v
    cases v
 done
 refine⟨d,kvs,rfl,J.it,fun od p hp=> ?_⟩
 have a9:Same H (upd H' d (.frz od (.dT kvs))):=J.sm.put hd
 refine Za (fun e=>decide (e.2≠ .int 0)) (fun e v H=>∃t:Prt,v= .ref t.1/\Pn H t e) (fun e v H H' ⟨t,a,b⟩ s=>⟨t,a,b.mono s⟩) (fun e v H ys zs ⟨t,a,b⟩ h=>⟨t,a,b.put h⟩) (aO (eR a7) (by decide)) hp Ag ?_ ?_
 . intro e H3 b q R RF M s3 hb hq k1 k2
   obtain⟨Z,v2,v3⟩:=vk e M
   rw [Z]at hq
   refine Dh (.of hq) ?_
   done
   by_cases w0:Bv ts (e.1.map toI)=0
   . rw [aI w0]
     exact k2 (by rw [Z,w0];rfl) _ (Same.refl _)
   . rw [aF w0]
     rw [<-v3,V4]at hb
     exact fun p2 a8=>k1 (by rw [Z];exact cD fun z=>w0 (V.int.inj z)) _ _ (Same.upd a8 _) ⟨(p2,b,e.1.map toI,.int (Bv ts (e.1.map toI))),rfl,⟨Ag,Same.upd a8 _ _ _ hb,v3,Z.symm⟩⟩
 intro H3 vs s3 h3 hv aa
 obtain⟨G,e1,ab,e2⟩:=Aj6 vs aa
 rw [hv]at e2
 have nd3:(G.map Prt.ks).Nodup:=by
  have h1:((kvs.filter fun e=>decide (e.2≠ .int 0)).map (·.1)).Nodup:=J.nd.sublist (jJ.map _)
  rw [<-e2]at h1
  refine bC.mpr ((bC.mp h1).imp fun h z=>h ?_)
  rw [z]
 have l3:G.length<16000000:=by
  have h1:=bK length e2
  rw [aB,aB]at h1
  rw [h1]
  exact cY (dM _ _) a7
 have a5:∀t∈G,t.2.2.2= .int (Bv ts t.ks)/\Bv ts t.ks≠0/\t.ks.length=3/\H3 t.1=some (.tup [.ref t.2.1,.int (Bv ts t.ks)])/\H3 t.2.1=some (.tup (t.ks.map V.int)):=fun t ht=>by
  obtain⟨x,hx,pn⟩:=ab t ht
  have ac:x.2∈kvs.filter fun e=>decide (e.2≠ .int 0):=by rw [<-hv];exact aD.mpr ⟨x,hx,rfl⟩
  obtain⟨hk,hn⟩:=bQ.mp ac
  obtain⟨Z,v2,v3⟩:=vk x.2 hk
  have ek:x.2.1.map toI=t.ks:=by rw [<-pn.ky,Jz]
  rw [ek]at Z v2
  have pr:=pn.pr
  rw [pn.vl,Z]at pr
  refine⟨by rw [pn.vl,Z],fun z=> ?_,v2,pr,pn.tu⟩
  have:=cH hn
  exact this (by rw [Z,z])
 rw [<-e1]at h3
 refine⟨p,G,rfl,.of h3,fun t ht=> ?_,nd3,l3,fun l us hl a6 ad=>⟨l,_,rfl,.inl ⟨.of Ag,fun z hz=> ?_⟩⟩⟩
 . obtain⟨a1,_,_,a2,a3⟩:=a5 t ht
   exact⟨by rw [a1];exact .of a2,.of a3⟩
 have s4:=(Same.upd hl (.lst (us.map fun t=>V.ref t.1))).trans (Same.upd hz (.tup (us.map fun t=>V.ref t.1)))
 have f1:(us.map fun t=>((V.ref t.1,(t.ks,Bv ts t.ks)):V × (List Int × Int))).map (·.1)=us.map fun t=>V.ref t.1:=by rw [aK];rfl
 have f2:(us.map fun t=>((V.ref t.1,(t.ks,Bv ts t.ks)):V × (List Int × Int))).map (·.2)=us.map fun t=>(t.ks,Bv ts t.ks):=by rw [aK];rfl
 refine k z _ (us.map fun t=>(V.ref t.1,(t.ks,Bv ts t.ks))) ((a9.trans s3).trans s4) ⟨by rw [f1];exact .of Ag,fun e M=> ?_,?_,fun e M=> ?_⟩ (fun q=> ?_)
 . obtain⟨t,ht,rfl⟩:=aD.mp M
   obtain⟨_,_,a0,a2,a3⟩:=a5 t (a6.mem_iff.mp ht)
   exact⟨⟨t.1,t.2.1,rfl,.of (s4 _ _ a2),s4 _ _ a3⟩,a0⟩
 . rw [f2]
   exact bC.mpr ad
 . obtain⟨t,ht,rfl⟩:=aD.mp M
   exact(a5 t (a6.mem_iff.mp ht)).2.1
 . rw [f2,Aby (a6.map fun t=>(t.ks,Bv ts t.ks)) q]
   have g1:G.map (fun t=>t.ks)=(kvs.filter fun e=>decide (e.2≠ .int 0)).map fun e=>e.1.map toI:=by
    have:=bK (List.map (List.map toI)) e2
    rw [aK,aK]at this
    have h0:G.map (List.map toI ∘ fun t=>(t.ks.map Sum.inl:List Key))=G.map fun t=>t.ks:=bR fun t _=>Jz t.ks
    rw [h0]at this
    exact this
   have g2:G.map (fun t=>(t.ks,Bv ts t.ks))=((kvs.map fun e=>((0,e.1.map toI):Tpt)).filter fun t=>decide (Bv ts t.2≠0)).map fun t=>(t.2,Bv ts t.2):=by
    have h1:G.map (fun t=>(t.ks,Bv ts t.ks))=(G.map fun t=>t.ks).map fun q=>(q,Bv ts q):=by rw [aK];rfl
    rw [h1,g1,aK,filter_map,aK]
    have h2:(kvs.filter fun e=>decide (e.2≠ .int 0))=kvs.filter ((fun t:Tpt=>decide (Bv ts t.2≠0)) ∘ fun e=>((0,e.1.map toI):Tpt)):=by
     refine List.filter_congr fun e M=> ?_
     rw [(vk e M).1]
     show decide (V.int (Bv ts (e.1.map toI))≠ .int 0)=decide (Bv ts (e.1.map toI)≠0)
     simp
    rw [h2]
    rfl
   have ae:((kvs.map fun e=>((0,e.1.map toI):Tpt)).map fun t=>t.2).Nodup:=by
    rw [aK]
    refine bC.mpr ?_
    have:=bC.mp J.nd
    refine Pairwise.imp_of_mem (fun {x y} hx hy h z=>h ?_) this
    rw [<-(vk x hx).2.2,<-(vk y hy).2.2]
    exact bK (List.map Sum.inl) z
   rw [g2,Mv (Bv ts) q _ ae]
   split
   . rfl
   . rename_i hq
     rcases J.vl q with h | ⟨_,h⟩
     . obtain⟨e,M,ee⟩:=aD.mp (Wv h)
       refine absurd (aD.mpr ⟨(0,e.1.map toI),aD.mpr ⟨e,M,rfl⟩,?_⟩) hq
       show e.1.map toI=q
       rw [ee,Jz]
     . exact h.symm
theorem Yw {x:Int} (h:x.natAbs<2^60):Builtin.Int.intBits x<=64:=aO (lF.mpr h) (by decide)
structure Dr (l:Addr) (H H':Hp) (ms:List Int):Prop where
 sm:∀b u,b≠l->H b=some u->H' b=some u
 it:H' l=some (.lst (ms.map V.int))
theorem Dr.trans (a:Dr l H H1 ms) (b:Dr l H1 H2 ns):Dr l H H2 ns:=⟨fun c u n e=>b.sm c u n (a.sm c u n e),b.it⟩
theorem Dr.same (a:Dr l H H1 ms) (s:Same H1 H2):Dr l H H2 ms:=⟨fun c u n e=>s _ _ (a.sm c u n e),s _ _ a.it⟩
theorem Dr.of (e:H l=some (.lst (ms.map V.int))) (s:Same H H'):Dr l H H' ms:=⟨fun c u _ e=>s _ _ e,s _ _ e⟩
noncomputable def G3 (K:Frag):Sp:=fun vs H Q _=>∃(l:Addr) (m:Int) (ns:List Int),vs=[.ref l,.int m]/\H l=some (.lst (ns.map V.int))/\0<m/\∀r H' ms,0<=r->r<m->Dr l H H' ms->Q (.int r) H'
theorem Aa0 (F:Df K mg "_law_next" Q7 zF f fd)     :Cal P w K mg base 1 "_law_next" zF (G3 K):=by
 refine F.cal (F.fn.ok Abl (fun M H Q E h=> ?_) (fun O A outer s H M Q E U h=> ?_))
 . obtain⟨l,m,ns,rfl,_⟩:=h
   rfl
 obtain⟨l,m,ns,rfl,L,q,k⟩:=h
 refine Bb ⟨_,(Ae (Bp (Av (Jk U.units) (Af 0) (Dl Ac) (Bl _)) (Ah (Ar Ad)) Bc)
  (Ah (Ar (Al Nj (Hr eF slot_list_pop type_list_pop Adi (Af 0) (Aa Ad Ac)) (Af 1))))),?_⟩
 done
 refine⟨by decide,fun p hp=> ?_⟩
 have G:=Same.upd hp (.lst [])
 have J:=G _ _ L
 refine Qf (ms:=[]) (.of J) (.of Ag) ?_
 try done
 cases ns with
 | nil=>
   rw [aI rfl]
   exact k 0 _ [] (by omega) q (.of L G)
 | cons x r=>
   rw [aF (by simp)]
   refine⟨.inl ⟨rfl,_,.of J⟩,l,_,0,0,.int x,rfl,rfl,J,by decide,by decide,by simp [seqIndex?],rfl,?_⟩
   try done
   refine⟨q,k _ _ r (Int.emod_nonneg _ (by omega)) (Int.emod_lt_of_pos _ q) ⟨fun b u n e=> ?_,Ag⟩⟩
   rw [Bm n]
   exact G _ _ e
theorem Jb {m:Int} (h:H l=some (.lst (ns.map V.int))) (q:0<m) (k:∀r H' ms,0<=r->r<m->Dr l H H' ms->Q (.int r) H'):G3 K [.ref l,.int m] H Q E:=⟨l,m,ns,rfl,h,q,k⟩
noncomputable def Oj (K:Frag):Sp:=fun vs H Q _=>∃(l:Addr) (ns:List Int),vs=[.ref l]/\H l=some (.lst (ns.map V.int))/\∀(r:Int) H' ms,r.natAbs<=10^20->Dr l H H' ms->Q (.int r) H'
theorem Ux (F:Df K mg "_law_weight" K7 yG f fd)    (q:Cal P w K mg base 1 "_law_next" zF (G3 K)):Cal P w K mg base 2 "_law_weight" yG (Oj K):=by
 refine F.cal (F.fn.ok Oa (fun U H Q E h=> ?_) (fun W A outer s H U Q E J h=> ?_))
 . obtain⟨l,ns,rfl,_⟩:=h
   rfl
 obtain⟨l,ns,rfl,Z,k⟩:=h
 refine Bb ⟨_,(Ae (Ay 1 Oa.nd (Aj q J (Aa (Af 0) (Aa Ad Ac))))
  (Ae (Bp (Av J7 (Af 1) Ad (Bl _)) (Ah (Ar (Al G7 (Aj q J (Aa (Af 0) (Aa (Al Fx Ad (Al J8 Ad Ad)) Ac))) (Al J8 Ad Ad)))) Bc)
  (Ah (Ar (Al G7 (Aj q J (Aa (Af 0) (Aa Ad Ac))) Ad))))),?_⟩
 done
 refine Jb Z (by decide) fun r H1 ms r0 r1 G=> ?_
 try done
 split
 . refine⟨⟨by decide,by decide,by decide⟩,.of_left (Yw (by decide)),Jb G.it (by decide) fun r2 H2 L x0 x1 M=> ?_⟩
   try done
   have O:(10:Int)^toNat 20=100000000000000000000:=by decide
   rw [O]at x1 ⊢
   exact⟨⟨by decide,by decide,by decide⟩,k _ _ _ (by omega) (G.trans M)⟩
 . refine Jb G.it (by decide) fun r2 H2 L x0 x1 M=> ?_
   try done
   exact k _ _ _ (by omega) (G.trans M)
theorem Dr.tup {l a:Addr}{H H':Hp}{ms:List Int}{zs xs:List V} (d:Dr l H H' ms) (q:H l=some (.lst zs)) (e:H a=some (.tup xs)):H' a=some (.tup xs):=d.sm _ _ (Ih e q (fun z=>nomatch z)) e
theorem Dr.sqT (d:Dr l H H' ms) (q:H l=some (.lst zs)) (h:SqT K H a xs):SqT K H' a xs:=by
 rcases h with(e | ⟨o,e⟩) | h
 . exact .inl (.inl (d.tup q e))
 . exact .inl (.inr ⟨o,d.sm _ _ (Ih e q (fun z=>nomatch z)) e⟩)
 . exact .inr h
theorem Dr.back (d:Dr l H1 H2 ms) (n:H l=none) (s:Same H H1):Same H H2:=fun b u e=>d.sm b u (Bg e n) (s _ _ e)
theorem Te.dr {e:List Int × Int} (h:Te K H v e) (d:Dr l H H' ms) (q:H l=some (.lst zs)):Te K H' v e:=by
 obtain⟨⟨a,b,G,J,L⟩,n⟩:=h
 exact⟨⟨a,b,G,d.sqT q J,d.tup q L⟩,n⟩
noncomputable def Lo (q:Nat) (e:List Int × Int):Prop:=(∀x∈e.1,0<=x/\x<=(q:Int))/\e.2.natAbs<=10^20
structure TmJ (K:Frag) (q:Nat) (H H':Hp) (l f:Addr) (ms:List Int) (es:List (V × (List Int × Int))):Prop where
 dr:Dr l H H' ms
 it:H' f=some (.lst (es.map (·.1)))
 al:∀e∈es,Te K H' e.1 e.2
 lo:∀e∈es,Lo q e.2
noncomputable def Ji (K:Frag):Sp:=fun vs H Q _=>∃(l:Addr) (ns:List Int) (m q:Nat),vs=[.ref l,.int (m:Nat),.int (q:Nat)]/\H l=some (.lst (ns.map V.int))/\m<=20/\q<=20/\∀f H' ms es,H f=none->TmJ K q H H' l f ms es->es.length<=m->Q (.ref f) H'
theorem Xx (F:Df K mg "_law_terms" N7 zI f fd)  (L:mg "range"=none)  (G:Cal P w K mg base 1 "_law_next" zF (G3 K)) (J:Cal P w K mg base 2 "_law_weight" yG (Oj K)):Cal P w K mg base 3 "_law_terms" zI (Ji K):=by
 refine F.cal (F.fn.ok Jh (fun vs H Q E h=> ?_) (fun a6 A outer s H vs Q E hr h=> ?_))
 . obtain⟨l,ns,m,q,rfl,_⟩:=h
   rfl
 obtain⟨l,ns,m,q,rfl,hS,hm,hq,k⟩:=h
 refine Bb ⟨_,(Ae (Ay 3 Jh.nd (Dl Ac))
  (Ae (Ce bX rfl (Dg rfl L (Aa (Aj G hr (Aa (Af 0) (Aa (Al Cg (Af 1) Ad) Ac))) Ac)) (Ao 4 Jh.nd) (Ae (Ay 5 Jh.nd (Aw (Aa (Aj G hr (Aa (Af 0) (Aa (Al Cg (Af 2) Ad) Ac))) (Aa (Aj G hr (Aa (Af 0) (Aa (Al Cg (Af 2) Ad) Ac))) (Aa (Aj G hr (Aa (Af 0) (Aa (Al Cg (Af 2) Ad) Ac))) Ac)))))
  (Ah (Fp (Hr eF fP fO Hh (Af 3) (Aa (Aw (Aa (Af 5) (Aa (Aj J hr (Aa (Af 0) Ac)) Ac))) Ac))))))
  (Ah (Ar (Af 3))))),?_⟩
 done
 refine⟨by decide,fun f hf=> ?_⟩
 have s1:=Same.upd hf (.lst [])
 have g1:=s1 _ _ hS
 have nl:l≠f:=Bg hS hf
 refine Jb g1 (by omega) fun c H2 ms c0 c8 d2=> ?_
 try done
 have a2:Dr l H H2 ms:=⟨fun b u n e=>d2.sm b u n (s1 _ _ e),d2.it⟩
 have f2:H2 f=some (.lst []):=d2.sm _ _ (cS nl) Ag
 refine⟨by omega,by omega,?_⟩
 refine Ah4 c.toNat (fun i=> .int (0+(i:Nat))) (fun i O H'=>∃(ms:List Int) (es:List (V × (List Int × Int))) (o4 o5:Option V),O=[some (.ref l),some (.int (m:Nat)),some (.int (q:Nat)),some (.ref f),o4,o5]/\TmJ K q H H' l f ms es/\es.length=i) ⟨ms,[],_,_,rfl,⟨a2,f2,by simp,by simp⟩,rfl⟩ ?_ ?_ ?_
 . rintro i O H' _
   exact Gu
 . rintro i O H' hi ⟨ms,es,o4,o5,rfl,U,tl⟩
   done
   refine Jb U.dr.it (by omega) fun x1 H3 m3 a7 a8 d3=> ?_
   try done
   refine Jb d3.it (by omega) fun W H4 m4 a9 aa d4=> ?_
   try done
   refine Jb d4.it (by omega) fun Z H5 m5 ab ac d5=> ?_
   try done
   have a3:=(d3.trans d4).trans d5
   refine⟨by decide,fun p hp=> ?_⟩
   have sp:=Same.upd hp (.tup [V.int x1,V.int W,V.int Z])
   have gp:upd H5 p (.tup [V.int x1,V.int W,V.int Z]) p=some (.tup [V.int x1,V.int W,V.int Z]):=Ag
   generalize upd H5 p (.tup [V.int x1,V.int W,V.int Z])=H6 at sp gp
   have d6:=a3.same sp
   refine⟨.inl ⟨rfl,_,.of (d6.sm _ _ (cS nl) U.it)⟩,l,m5,rfl,d6.it,fun w H7 m7 wb d7 p1 a4=> ?_⟩
   have a0:=Same.upd a4 (.tup [V.ref p,V.int w])
   have a1:upd H7 p1 (.tup [V.ref p,V.int w]) p1=some (.tup [V.ref p,V.int w]):=Ag
   generalize upd H7 p1 (.tup [V.ref p,V.int w])=H8 at a0 a1
   have dd:Dr l H' H8 m7:=(d6.trans d7).same a0
   have f8:=dd.sm _ _ (cS nl) U.it
   have tn:Te K H8 (.ref p1) ([x1,W,Z],w):=⟨⟨p1,p,rfl,.of a1,a0 _ _ (d7.tup d6.it gp)⟩,rfl⟩
   refine⟨f,_,_,rfl,rfl,f8,?_,m7,es++ [(.ref p1,([x1,W,Z],w))],_,_,rfl,⟨⟨fun b u n e=> ?_,?_⟩,?_,fun t M=> ?_,fun t M=> ?_⟩,?_⟩
   . rw [aB]
     exact bH (show es.length<30 by omega) (by decide)
   . rw [Bm (Bg e hf)]
     exact dd.sm b u n (U.dr.sm b u n e)
   . rw [Bm nl]
     exact dd.it
   . rw [Ag,aJ]
     rfl
   . rcases bG.mp M with M | M
     . exact((U.al t M).dr dd U.dr.it).put f8
     . have e:t=(.ref p1,([x1,W,Z],w)):=by simpa using M
       rw [e]
       exact tn.put f8
   . rcases bG.mp M with M | M
     . exact U.lo t M
     . have e:t=(.ref p1,([x1,W,Z],w)):=by simpa using M
       rw [e]
       refine⟨fun x hx=> ?_,wb⟩
       have a5:x=x1\/x=W\/x=Z:=by simpa using hx
       rcases a5 with rfl | rfl | rfl<;>omega
   . rw [aL,tl]
     rfl
 . rintro O H' ⟨ms,es,o4,o5,rfl,U,tl⟩
   done
   exact k f H' ms es hf U (by omega)
structure Mst (fs:List (V × (List Int × Int))) (j:Nat) (M:Int):Prop where
 le:∀e∈fs,e.2.1.getD j 0<=M
 no:fs=[]->M=0
 is:fs≠ []->∃e∈fs,e.2.1.getD j 0=M
noncomputable def Jw (K:Frag):Sp:=fun vs H Q _=>∃(a:Addr) (fs:List (V × (List Int × Int))) (j:Nat),vs=[.ref a,.int (j:Nat)]/\Ox K H a fs/\fs.length<16000000/\j<3/\∀M H',Same H H'->Mst fs j M->Q (.int M) H'
theorem Agg (F:Df K mg "most" Wn zG f fd)  (q:mg "max"=none)   :Cal P w K mg base 1 "most" zG (Jw K):=by
 refine F.cal (F.fn.ok Ahd (fun U H Q E h=> ?_) (fun W A outer s H U Q E hr h=> ?_))
 . obtain⟨a,fs,j,rfl,_⟩:=h
   rfl
 obtain⟨a,fs,j,rfl,L,Z,hj,k⟩:=h
 refine Bb ⟨_,(Ah (Ar (Oz rfl rfl q (Aa (Br (ts:=zU) (fs:=[(1,"place")]) rfl (Dy.of (sc:=Ax Wn) (N:=zG) rfl rfl (by decide+kernel)) (Cu (Af 0)) (fun _ _ _=>(Ds K 2 rfl rfl (Ak (Ao 0 (show Nodup (["powers","weight","place"]:List Str)by decide+kernel)) (Ak (Ao 1 (show Nodup (["powers","weight","place"]:List Str)by decide+kernel)) Bh)))) (fun _ _ _=>Bx) (fun _ _ _=>(Bf (Hu K) (Af 0) (Af 2) (fun _ _=>rfl)))) Ac) Ad))),?_⟩
 done
 refine⟨⟨_,L.it⟩,fun p hp=>Gg (es:=fs) (inj:=(·.1)) (fun e=> .int (e.2.1.getD j 0)) (aO (eR Z) (by decide)) hp (Hq L.it) ?_ ?_⟩
 . intro e H2 R G J hR
   obtain⟨⟨b,d,eb,hb,hd⟩,ln⟩:=(L.al e G).mono J
   rw [eb]
   refine Dh hb ?_
   done
   refine El hd (v:= .int (e.2.1.getD j 0)) (Gf ?_) (hR _ (Same.refl _))
   rw [aZ,aP,aG (by omega)]
   rfl
 intro H2 J h2
 have em:fs.map (fun e=>V.int (e.2.1.getD j 0))=(fs.map fun e=>e.2.1.getD j 0).map V.int:=by rw [aK];rfl
 rw [em]at h2
 try done
 refine⟨p,_,rfl,.of h2,fun z=> ?_,fun z M hM hB=> ?_⟩
 . have O:fs=[]:=List.map_eq_nil_iff.mp z
   exact k 0 H2 J ⟨by simp [O],fun _=>rfl,fun n=>absurd O n⟩
 . refine k M H2 J ⟨fun e G=>hB _ (aD.mpr ⟨e,G,rfl⟩),fun n=>absurd (by rw [n];rfl) z,fun _=> ?_⟩
   obtain⟨e,G,ee⟩:=aD.mp hM
   exact⟨e,G,ee⟩
theorem Kr (K:Frag) (q:X.calm=true) (h:X.K=K:=by rfl):Gv X (.builtin "max") (fun xs H Q=>∃(a:Addr) (ns:List Int),xs=[.ref a]/\(SqL K H a (ns.map V.int)\/SqT K H a (ns.map V.int))/\ns≠ []/\∀M,M∈ns->(∀x∈ns,x<=M)->Q (.int M) H):=by
 subst h
 exact Y0 q
structure Gst (fs:List (V × (List Int × Int))) (M:Int):Prop where
 le:∀e∈fs,∀x∈e.2.1,x<=M
 no:fs=[]->M=0
 is:fs≠ []->∃e∈fs,M∈e.2.1
noncomputable def mx:List Int->Int
 | []=>0
 | [x]=>x
 | x::y::r=>max x (mx (y::r))
theorem Adj:∀ks:List Int,ks≠ []->mx ks∈ks/\∀x∈ks,x<=mx ks
 | [],h=>absurd rfl h
 | [x],_=>⟨by simp [mx],by simp [mx]⟩
 | x::y::r,_=>by
   obtain⟨a,b⟩:=Adj (y::r) (by simp)
   refine⟨?_,fun z q=> ?_⟩
   . show max x (mx (y::r))∈x::y::r
     by_cases h:x<=mx (y::r)
     . rw [Int.max_eq_right h]
       exact .tail _ a
     . rw [Int.max_eq_left (by omega)]
       exact .head _
   . show z<=max x (mx (y::r))
     rcases aQ.mp q with rfl | q
     . omega
     . have:=b z q
       omega
noncomputable def Fz (K:Frag):Sp:=fun vs H Q _=>∃(a:Addr) (fs:List (V × (List Int × Int))),vs=[.ref a]/\Tws K H a fs/\fs.length<16000000/\∀M H',Same H H'->Gst fs M->Q (.int M) H'
theorem Kz (F:Df K mg "greatest_power" En ["f"] f fd)  (q:mg "max"=none)   :Cal P w K mg base 1 "greatest_power" ["f"] (Fz K):=by
 refine F.cal (F.fn.ok K9 (fun W H Q E h=> ?_) (fun Z A outer s H W Q E hr h=> ?_))
 . obtain⟨a,fs,rfl,_⟩:=h
   rfl
 obtain⟨a,fs,rfl,J,hl,k⟩:=h
 refine Bb ⟨_,(Ah (Ar (Oz rfl rfl q (Aa (Br (ts:=zU) (fs:=[]) rfl (Dy.of (sc:=Ax En) (N:=["f"]) rfl rfl (by decide+kernel)) (Cu (Af 0)) (fun _ _ _=>(Ds K 2 rfl rfl (Ak (Ao 0 (show Nodup (zU:List Str)by decide+kernel)) (Ak (Ao 1 (show Nodup (zU:List Str)by decide+kernel)) Bh)))) (fun _ _ _=>Bx) (fun _ _ _=>(Bj (Kr K rfl) rfl q gA (Aa (Af 0) Ac)))) Ac) Ad))),?_⟩
 done
 refine⟨⟨_,J.it⟩,fun p hp=>Gg (es:=fs) (inj:=(·.1)) (fun e=> .int (mx e.2.1)) (aO (eR hl) (by decide)) hp (Hq J.it) ?_ ?_⟩
 . intro e H2 R G L hR
   obtain⟨⟨b,d,eb,hb,hd⟩,O⟩:=(J.al e G).mono L
   rw [eb]
   refine Dh hb ?_
   done
   have ne:e.2.1≠ []:=fun z=>by rw [z]at O;simp at O
   refine⟨d,e.2.1,rfl,.inr hd,ne,fun M h1 h2=> ?_⟩
   obtain⟨m1,m2⟩:=Adj e.2.1 ne
   have:M=mx e.2.1:=Int.le_antisymm (m2 M h1) (h2 _ m1)
   rw [this]
   exact hR _ (Same.refl _)
 intro H2 L h2
 have em:fs.map (fun e=>V.int (mx e.2.1))=(fs.map fun e=>mx e.2.1).map V.int:=by rw [aK];rfl
 rw [em]at h2
 try done
 have nz:∀e∈fs,e.2.1≠ []:=fun e G z=>by
  have:=(J.al e G).ln
  rw [z]at this
  simp at this
 refine⟨p,_,rfl,.of h2,fun z=> ?_,fun z M hM hB=> ?_⟩
 . have U:fs=[]:=List.map_eq_nil_iff.mp z
   exact k 0 H2 L ⟨by simp [U],fun _=>rfl,fun n=>absurd U n⟩
 . refine k M H2 L ⟨fun e G x hx=>le_trans ((Adj _ (nz e G)).2 x hx) (hB _ (aD.mpr ⟨e,G,rfl⟩)),fun n=>absurd (by rw [n];rfl) z,fun _=> ?_⟩
   obtain⟨e,G,ee⟩:=aD.mp hM
   exact⟨e,G,by rw [<-ee];exact(Adj _ (nz e G)).1⟩
noncomputable def Pk (K:Frag) (H:Hp) (v:V) (e:Int × Int):Prop:=∃a,v= .ref a/\SqT K H a [.int e.1,.int e.2]
theorem Pk.mono {e:Int × Int} (h:Pk K H v e) (s:Same H H'):Pk K H' v e:=by
 obtain⟨a,q,G⟩:=h
 exact⟨a,q,s.tup G⟩
theorem Vb (h:SqT K H a xs) (q:H f=some (.lst zs)):SqT K (upd H f (.lst ys)) a xs:=by
 rcases h with(e | ⟨o,e⟩) | h
 . exact .inl (.inl (by rw [Bm (Ih e q (fun z=>nomatch z))];exact e))
 . exact .inl (.inr ⟨o,by rw [Bm (Ih e q (fun z=>nomatch z))];exact e⟩)
 . exact .inr h
theorem Pk.put {e:Int × Int} (h:Pk K H v e) (q:H f=some (.lst zs)):Pk K (upd H f (.lst ys)) v e:=by
 obtain⟨a,G,J⟩:=h
 exact⟨a,G,Vb J q⟩
noncomputable def Oh (K:Frag):Sp:=fun vs H Q _=>∃(a:Addr) (fs:List (V × (List Int × Int))) (b:Int),vs=[.ref a,.int b]/\Ox K H a fs/\fs.length<16000000/\0<=b/\b<=250/\(∀e∈fs,∀x∈e.2.1,0<=x/\x<=120)/\
 ∀l H' (gs:List (V × (Int × Int))),Same H H'->H' l=some (.lst (gs.map (·.1)))->(∀e∈gs,Pk K H' e.1 e.2)->gs.map (·.2)=fs.map (fun e=>(pk b e.2.1,e.2.2))->Q (.ref l) H'
theorem Aaz (F:Df K mg "packed" Ms yF f fd)     :Cal P w K mg base 1 "packed" yF (Oh K):=by
 refine F.cal (F.fn.ok Abk (fun J H Q E h=> ?_) (fun Z A outer s H J Q E hr h=> ?_))
 . obtain⟨a,fs,b,rfl,_⟩:=h
   rfl
 obtain⟨a,fs,b,rfl,L,hl,b0,b1,hb,k⟩:=h
 refine Bb ⟨_,(Ah (Ar (Br (ts:=zU) (fs:=[(1,"base")]) rfl (Dy.of (sc:=Ax Ms) (N:=yF) rfl rfl (by decide+kernel)) (Cu (Af 0)) (fun _ _ _=>(Ds K 2 rfl rfl (Ak (Ao 0 (show Nodup (["powers","weight","base"]:List Str)by decide+kernel)) (Ak (Ao 1 (show Nodup (["powers","weight","base"]:List Str)by decide+kernel)) Bh)))) (fun _ _ _=>Bx) (fun _ _ _=>(Aw (Aa (Al Cg (Al Fx (Al Cg (Al Fx (Bf (Hu K) (Af 0) Ad (fun _ _=>rfl)) (Af 2)) (Bf (Hu K) (Af 0) Ad (fun _ _=>rfl))) (Af 2)) (Bf (Hu K) (Af 0) Ad (fun _ _=>rfl))) (Aa (Af 1) Ac))))))),?_⟩
 done
 refine⟨⟨_,L.it⟩,fun p hp=>Vm (es:=fs) (inj:=fun e=>e.1) (fun e v H=>Pk K H v (pk b e.2.1,e.2.2)) (fun e v H H' h s=>h.mono s) (fun e v H ys zs h hp=>h.put hp) (aO (eR hl) (by decide)) hp (Hq L.it) ?_ ?_⟩
 . intro e H2 R q M W
   obtain⟨⟨c,d,eb,hc,G⟩,ln⟩:=(L.al e q).mono M
   have lo:=hb e q
   obtain⟨⟨i,j,m,ek⟩⟩:Nonempty (∃i j m,e.2.1=[i,j,m]):=by
    match h:e.2.1,ln with
    | [i,j,m],_=>exact⟨i,j,m,rfl⟩
   rw [ek]at G W lo
   have hi:=lo i (by simp)
   rw [eb]
   refine Dh hc ?_
   done
   refine El G (v:= .int i) rfl ?_
   try done
   refine⟨.of_left (Yw (by omega)),El G (v:= .int j) rfl ?_⟩
   try done
   refine⟨.of_right (Yw (by omega)),El G (v:= .int m) rfl ?_⟩
   try done
   exact fun p2 O=>W _ _ (Same.upd O _) ⟨p2,rfl,.of Ag⟩
 intro H2 J M h2 hv U
 refine k p H2 (J.map fun x=>(x.1,(pk b x.2.2.1,x.2.2.2))) M ?_ (fun e q=> ?_) ?_
 . rw [aK]
   exact h2
 . obtain⟨x,hx,rfl⟩:=aD.mp q
   exact U x hx
 . rw [<-hv,aK,aK]
   rfl
theorem Aa8 {u v k n:Int} (G:0<=k/\k<b) (J:0<=n/\n<b):(u*b+k<v*b+n)=(u<v\/(u=v/\k<n)):=by
 refine propext ⟨fun h=> ?_,fun h=> ?_⟩
 . by_cases e:u=v
   . subst e
     exact .inr ⟨rfl,by omega⟩
   . refine .inl (Int.not_le.mp fun z=> ?_)
     have q:v+1<=u:=by omega
     have:=dY q (show 0<=b by omega)
     rw [kB,Int.one_mul]at this
     omega
 . rcases h with h | ⟨rfl,h⟩
   . have q:u+1<=v:=by omega
     have:=dY q (show 0<=b by omega)
     rw [kB,Int.one_mul]at this
     omega
   . omega
theorem Ae3 {j k l m n:Int} (q:0<=j/\j<b) (M:0<=k/\k<b) (G:0<=m/\m<b) (O:0<=n/\n<b):HT.lexLt [i,j,k] [l,m,n]=decide (pk b [i,j,k]<pk b [l,m,n]):=by
 have e:(pk b [i,j,k]<pk b [l,m,n])=(i*b+j<l*b+m\/(i*b+j=l*b+m/\k<n)):=Aa8 (u:=i*b+j) (v:=l*b+m) M O
 have J:(i*b+j<l*b+m)=(i<l\/(i=l/\j<m)):=Aa8 q G
 rw [HT.Bu,HT.Bu,HT.Bu]
 by_cases h1:i=l
 . subst h1
   rw [aI rfl]
   by_cases h2:j=m
   . subst h2
     rw [aI rfl]
     by_cases L:k=n
     . rw [aI L]
       refine(bZ ?_).symm
       rw [e]
       omega
     . rw [aF L]
       refine kK.mpr ?_
       rw [e]
       omega
   . rw [aF h2]
     refine kK.mpr ?_
     rw [e,J]
     constructor
     . exact fun h=> .inl (.inr ⟨rfl,h⟩)
     . rintro((h | ⟨_,h⟩) | ⟨h,_⟩)
       . omega
       . exact h
       . omega
 . rw [aF h1]
   refine kK.mpr ?_
   rw [e,J]
   constructor
   . exact fun h=> .inl (.inl h)
   . rintro((h | ⟨h,_⟩) | ⟨h,_⟩)
     . exact h
     . exact absurd h h1
     . exfalso
       have:=bK (· /b) h
       have U:b≠0:=by omega
       simp only [fA _ j,fA _ m,kU _ _ U,iK q.1 q.2,iK G.1 G.2]at this
       omega
theorem Agw {j k:Int} (q:0<=j/\j<b) (G:0<=k/\k<b):pk b [i,j,k]/b/b=i/\pk b [i,j,k]/b%b=j/\pk b [i,j,k]%b=k:=by
 have J:b≠0:=by omega
 have L:pk b [i,j,k]/b=i*b+j:=by
  show((i*b+j)*b+k)/b=_
  rw [fA,kU _ _ J,iK G.1 G.2,eK]
 rw [L]
 refine⟨?_,?_,?_⟩
 . rw [fA,kU _ _ J,iK q.1 q.2,eK]
 . rw [fA,gI,gH q.1 q.2]
 . show((i*b+j)*b+k)%b=k
   rw [fA,gI,gH G.1 G.2]
noncomputable def Dt:List (Int × Int)->Int->Int
 | [],_=>0
 | e::r,k=>(if e.1=k then e.2 else 0)+Dt r k
theorem Ia (a b:List (Int × Int)) (k:Int):Dt (a++b) k=Dt a k+Dt b k:=by
 induction a with
 | nil=>show Dt b k=0+Dt b k;omega
 | cons e r q=>
   show _+Dt (r++b) k=(_+Dt r k)+Dt b k
   rw [q]
   omega
noncomputable def Rg (b:Int) (ks:List Int):Prop:=∃i j k,ks=[i,j,k]/\(0<=i/\i<b)/\(0<=j/\j<b)/\0<=k/\k<b
theorem Rg.inj {b:Int}{x y:List Int} (q:Rg b x) (G:Rg b y) (h:pk b x=pk b y):x=y:=by
 obtain⟨i,j,k,rfl,_,h1,h2⟩:=q
 obtain⟨l,m,n,rfl,_,J,L⟩:=G
 obtain⟨rfl,rfl,rfl⟩:=Aj8 h1 h2 J L h
 rfl
theorem O5:∀(m:Nat) (l:List Int),l.Nodup->(∀x∈l,0<=x/\x<(m:Int))->l.length<=m
 | 0,[],_,_=>aH _
 | 0,x::_,_,h=>by have:=h x (.head _);omega
 | m+1,l,nd,h=>by
   have q:=O5 m (l.erase (m:Int)) (nd.erase _) fun x G=>by
    have h1:=h x (List.mem_of_mem_erase G)
    have h2:=(nd.mem_erase_iff.mp G).1
    omega
   rw [List.length_erase]at q
   split at q<;>omega
theorem Rg.pkb {x:List Int} (G:Rg b x) (h:b<=250):0<=pk b x/\pk b x<((15625000:Nat):Int):=by
 obtain⟨i,j,k,rfl,q,h1,h2⟩:=G
 show 0<=(i*b+j)*b+k/\(i*b+j)*b+k<_
 have J:0<=i*b:=lG q.1 (by omega)
 have L:i*b<=249*250:=le_trans (Int.mul_le_mul_of_nonneg_left h q.1) (dY (by omega) (by decide))
 have M:0<=(i*b+j)*b:=lG (by omega) (by omega)
 have O:(i*b+j)*b<=(249*250+249)*250:=le_trans (Int.mul_le_mul_of_nonneg_left h (by omega)) (dY (by omega) (by decide))
 omega
noncomputable def Aca (b p:Int):List Int:=[p/b/b,p/b%b,p%b]
theorem Rg.back {x:List Int} (q:Rg b x):Aca b (pk b x)=x:=by
 obtain⟨i,j,k,rfl,_,h1,h2⟩:=q
 obtain⟨G,J,L⟩:=Agw (i:=i) h1 h2
 unfold Aca
 rw [G,J,L]
theorem Rg.lex {x y:List Int} (q:Rg b x) (G:Rg b y) (h:pk b x<pk b y):HT.lexLt x y=true:=by
 obtain⟨i,j,k,rfl,_,h1,h2⟩:=q
 obtain⟨l,m,n,rfl,_,J,L⟩:=G
 rw [Ae3 h1 h2 J L]
 exact cD h
theorem Vd {b:Int}{q:List Int} (G:Rg b q):∀ {P:List (List Int × Int)},(∀e∈P,Rg b e.1)->Dt (P.map fun e=>(pk b e.1,e.2)) (pk b q)=Bv P q
 | [],_=>rfl
 | e::r,h=>by
   show(if pk b e.1=pk b q then e.2 else 0)+Dt (r.map fun e=>(pk b e.1,e.2)) (pk b q)=(if e.1=q then e.2 else 0)+Bv r q
   rw [Vd G fun x J=>h x (.tail _ J)]
   by_cases z:e.1=q
   . rw [aI z,aI (by rw [z])]
   . rw [aF z,aF fun y=>z ((h e (.head _)).inj G y)]
structure SuN (kvs:List (Key × V)) (ks:List Int) (ts:List (Int × Int)):Prop where
 ky:kvs.map (·.1)=ks.map Sum.inl
 nd:ks.Nodup
 le:ks.length<=ts.length
 mem:∀i∈ks,∃e∈ts,e.1=i
 vl:∀k,Fe kvs (.inl k)=some (.int (Dt ts k))/\k∈ks\/(Fe kvs (.inl k)=none/\Dt ts k=0/\¬k∈ks)
theorem Abx (T:List Int->Int) (k:List Int) (us:List (List Int)) (h:us.Nodup):Bv ((us.filter fun t=>decide (T t≠0)).map fun t=>(t,T t)) k=if k∈us then T k else 0:=by
 have e:=Mv T k (us.map fun u=>((0,u):Tpt)) (by rw [aK];exact(map_id us).symm▸h)
 have q:(us.map fun u=>((0,u):Tpt)).map (fun t=>t.2)=us:=by rw [aK];exact map_id us
 rw [q,filter_map,aK]at e
 exact e
theorem Apw (q:0<b) (G:b<=250):b.natAbs.log2<9000:=by
 have:b.natAbs.log2<=b.natAbs:=Nat.log2_le_self _
 omega
noncomputable def Jy (K:Frag):Sp:=fun vs H Q _=>∃(d:Addr) (b:Int) (kvs:List (Key × V)) (ks:List Int) (P:List (List Int × Int)),vs=[.ref d,.int b]/\H d=some (.dK kvs)/\0<b/\b<=250/\(∀e∈P,Rg b e.1)/\SuN kvs ks (P.map fun e=>(pk b e.1,e.2))/\
 ∀z H' fs,Same H H'->Frm K H' z fs->(∀q,Bv (fs.map (·.2)) q=Bv P q)->Q (.ref z) H'
structure Unp (K:Frag) (H H':Hp) (f:Addr) (es:List (V × (List Int × Int))) (ts:List (List Int × Int)):Prop where
 sm:Same H H'
 it:H' f=some (.lst (es.map (·.1)))
 al:∀e∈es,Te K H' e.1 e.2
 eq:es.map (·.2)=ts
theorem Uy (F:Df K mg "unpacked" K8 yH f fd)  (J:mg "sorted"=none) (O:mg "tuple"=none) (L:mg "divmod"=none)   :Cal P w K mg base 1 "unpacked" yH (Jy K):=by
 refine F.cal (F.fn.ok Gz (fun vs H Q E h=> ?_) (fun aa A outer s H vs Q E hr h=> ?_))
 . obtain⟨d,b,kvs,ks,P,rfl,_⟩:=h
   rfl
 obtain⟨d,b,kvs,ks,P,rfl,hd,b0,b1,hP,si,k⟩:=h
 have kl:ks.length<16000000:=by
  have:=O5 15625000 ks si.nd fun x hx=>by
   obtain⟨e,G,rfl⟩:=si.mem x hx
   obtain⟨y,hy,rfl⟩:=aD.mp G
   exact(hP y hy).pkb b1
  omega
 refine Bb ⟨_,(Ae (Ay 2 Gz.nd (Dl Ac))
  (Ae (Ce bX rfl (Fl (Bj (Tz rfl) rfl J kE (Aa (Af 0) Ac))) (Ao 3 Gz.nd) (Ah (Bp (Av Nk (Gn (hu1 hr.units) (Af 0) (Af 3) (fun _ _=>rfl)) Ad (Bl _)) (Ae (Ew (Bj Tv rfl L boot_divmod (Aa (Af 3) (Aa (Af 1) Ac))) (Ca rfl (Ak (Ao 4 Gz.nd) (Ak (Ao 5 Gz.nd) Bh))))
  (Ah (Fp (Hr eF fP fO Hh (Af 2) (Aa (Aw (Aa (Aw (Aa (Al Mq (Af 4) (Af 1)) (Aa (Al Nj (Af 4) (Af 1)) (Aa (Af 5) Ac)))) (Aa (Gn (hu1 hr.units) (Af 0) (Af 3) (fun _ _=>rfl)) Ac))) Ac))))) Bc)))
  (Ah (Ar (Eu Ed rfl O cI (Aa (Af 2) Ac)))))),?_⟩
 done
 refine⟨by decide,fun f hf=> ?_⟩
 have s1:=Same.upd hf (.lst [])
 refine⟨d,kvs,ks,rfl,s1 _ _ hd,si.ky,si.nd,kl,fun l ms hl U a3=> ?_⟩
 have s2:=Same.upd hl (.lst (ms.map V.int))
 have g2:upd (upd H f (.lst [])) l (.lst (ms.map V.int)) l=some (.lst (ms.map V.int)):=Ag
 have f2:=s2 _ _ (Ag:upd H f (.lst []) f=some (.lst []))
 have nf:l≠f:=cS (Bg (Ag:upd H f (.lst []) f=some (.lst [])) hl)
 have a1:=s1.trans s2
 generalize upd (upd H f (.lst [])) l (.lst (ms.map V.int))=H2 at s2 g2 f2 a1
 clear s2 s1 hl
 have rg:∀p∈ms,∃e∈P,pk b e.1=p:=fun p hp=>by
  obtain⟨e,G,ee⟩:=si.mem p (U.mem_iff.mp hp)
  obtain⟨e',a4,rfl⟩:=aD.mp G
  exact⟨e',a4,ee⟩
 refine⟨⟨_,.of g2⟩,Oq (es:=ms) (inj:=V.int) (fun M Z H'=>∃(es:List (V × (List Int × Int))) (o3 o4 o5:Option V),Z=[some (.ref d),some (.int b),some (.ref f),o3,o4,o5]/\H' l=some (.lst (ms.map V.int))/\Unp K H H' f es (((M.map (Aca b)).filter fun q=>decide (Bv P q≠0)).map fun q=>(q,Bv P q))) ⟨[],_,_,_,rfl,g2,⟨a1,f2,by simp,rfl⟩⟩ ?_ ?_ ?_⟩
 . rintro M Z H' ⟨es,o3,o4,o5,rfl,W,un⟩
   exact Ho (.of W)
 . rintro M p a9 Z H' hE ⟨es,o3,o4,o5,rfl,W,un⟩
   have hm:p∈ms:=by rw [hE];simp
   obtain⟨e,G,ep⟩:=rg p hm
   have re:=hP e G
   have eb:Aca b p=e.1:=by rw [<-ep];exact re.back
   have vp:Fe kvs (.inl p)=some (.int (Bv P e.1)):=by
    rcases si.vl p with⟨h,_⟩ | ⟨_,_,h⟩
    . rw [h,<-ep,Vd re hP]
    . exact absurd (U.mem_iff.mp hm) h
   have dg:∀ {H3},Same H H3->Ro H3 d (.int p) (some (.int (Bv P e.1))):=fun s=>Afs (s _ _ hd) vp
   have ex:((M++ [p]).map (Aca b)).filter (fun q=>decide (Bv P q≠0))=(M.map (Aca b)).filter (fun q=>decide (Bv P q≠0))++(if Bv P e.1=0 then []else [e.1]):=by
    rw [aJ,fE,aU,jN,eb]
    by_cases w0:Bv P e.1=0
    . rw [aI w0,cB (by simp [w0])]
      rfl
    . rw [aF w0,cJ (by simp [w0])]
      rfl
   rw [ex,aJ]
   done
   refine⟨d,_,rfl,dg un.sm,?_⟩
   try done
   by_cases w0:Bv P e.1=0
   . rw [aI w0,aI w0]
     exact⟨es,_,_,_,rfl,W,by rw [jN,cP];exact un⟩
   . rw [aF w0,aF w0]
     refine⟨⟨b0,by omega⟩,fun c hc=>Dh (.of Ag) ?_⟩
     have s3:=Same.upd hc (.tup [V.int (p/b),V.int (p%b)])
     generalize upd H' c (.tup [V.int (p/b),V.int (p%b)])=H3 at s3
     done
     refine⟨.inl ⟨rfl,_,.of (s3 _ _ un.it)⟩,⟨b0,Apw b0 b1⟩,b0,by decide,fun c2 a5=> ?_⟩
     have s4:=Same.upd a5 (.tup [V.int (p/b/b),V.int (p/b%b),V.int (p%b)])
     have g4:upd H3 c2 (.tup [V.int (p/b/b),V.int (p/b%b),V.int (p%b)]) c2=some (.tup ((Aca b p).map V.int)):=Ag
     generalize upd H3 c2 (.tup [V.int (p/b/b),V.int (p/b%b),V.int (p%b)])=H4 at s4 g4
     have a6:=(un.sm.trans s3).trans s4
     refine⟨d,_,rfl,dg a6,fun c3 a7=> ?_⟩
     have s5:=Same.upd a7 (.tup [V.ref c2,V.int (Bv P e.1)])
     have g5:upd H4 c3 (.tup [V.ref c2,V.int (Bv P e.1)]) c3=some (.tup [V.ref c2,V.int (Bv P e.1)]):=Ag
     generalize upd H4 c3 (.tup [V.ref c2,V.int (Bv P e.1)])=H5 at s5 g5
     have a0:=(s3.trans s4).trans s5
     have f5:=a0 _ _ un.it
     rw [eb]at g4
     have tn:Te K H5 (.ref c3) (e.1,Bv P e.1):=⟨⟨c3,c2,rfl,.of g5,s5 _ _ g4⟩,by obtain⟨i,j,m,e3,_⟩:=re;rw [e3];rfl⟩
     refine⟨f,_,_,rfl,rfl,f5,?_,es++ [(.ref c3,(e.1,Bv P e.1))],_,_,_,rfl,?_,⟨?_,?_,fun t ht=> ?_,?_⟩⟩
     . rw [aB]
       have l1:=bK length un.eq
       rw [aB,aB]at l1
       have l2:=dM (fun q=>decide (Bv P q≠0)) (M.map (Aca b))
       rw [aB]at l2
       have l3:=bK length hE
       rw [aL]at l3
       have l4:=U.length_eq
       exact bH (show es.length<16000000 by omega) (by decide)
     . rw [Bm nf]
       exact a0 _ _ W
     . exact(un.sm.trans a0).put hf
     . rw [Ag,aJ]
       rfl
     . rcases bG.mp ht with ht | ht
       . exact((un.al t ht).mono a0).put f5
       . have e:t=(.ref c3,(e.1,Bv P e.1)):=by simpa using ht
         rw [e]
         exact tn.put f5
     . rw [aJ,un.eq]
       rfl
 rintro Z H' ⟨es,o3,o4,o5,rfl,W,un⟩
 done
 refine⟨f,_,rfl,.inl ⟨.of un.it,fun z hz=> ?_⟩⟩
 have sz:=Same.upd hz (.tup (es.map (·.1)))
 have rm:∀p∈ms,Rg b (Aca b p)/\pk b (Aca b p)=p:=fun p hp=>by
  obtain⟨e,G,rfl⟩:=rg p hp
  rw [(hP e G).back]
  exact⟨hP e G,rfl⟩
 have ab:ms.Nodup:=U.nodup_iff.mpr si.nd
 have a8:ms.Pairwise (· < ·):=a3
 have a2:(ms.map (Aca b)).Pairwise fun x y=>HT.lexLt x y=true:=by
  refine bC.mpr (Pairwise.imp_of_mem (fun {x y} hx hy h=> ?_) a8)
  refine(rm x hx).1.lex (rm y hy).1 ?_
  rw [(rm x hx).2,(rm y hy).2]
  exact h
 refine k z _ es (un.sm.trans sz) ⟨.of Ag,fun e G=>(un.al e G).mono sz,?_,fun e G=> ?_⟩ (fun q=> ?_)
 . rw [un.eq]
   exact bC.mpr (a2.sublist jJ)
 . have hm:e.2∈es.map (·.2):=aD.mpr ⟨e,G,rfl⟩
   rw [un.eq]at hm
   obtain⟨q,hq,eq⟩:=aD.mp hm
   rw [<-eq]
   simpa using(bQ.mp hq).2
 . rw [un.eq,Abx (Bv P) q _ (a2.imp fun h=>O8 h)]
   split
   . rfl
   . rename_i hq
     by_cases rq:Rg b q
     . rcases si.vl (pk b q)with⟨_,h⟩ | ⟨_,h0,_⟩
       . exact absurd (aD.mpr ⟨pk b q,U.mem_iff.mpr h,rq.back⟩) hq
       . rw [Vd rq hP]at h0
         exact h0.symm
     . exact(G5 fun e G ee=>rq (by rw [<-ee];exact hP e G)).symm
theorem Pb {k:Key}{w:V} (h:Fe kvs k=some w):(putK kvs k v).map (·.1)=kvs.map (·.1):=by
 unfold putK
 rw [Gm,h,jQ,aI rfl,aK]
 refine bR fun p _=> ?_
 show(if p.1=k then(p.1,v)else p).1=p.1
 split<;>rfl
theorem SuN.put {ks:List Int}{ts:List (Int × Int)} (h:SuN kvs ks ts) (k w:Int):∃q,SuN (putK kvs (.inl k) (.int (Dt ts k+w))) q (ts++ [(k,w)]):=by
 have tk:Dt (ts++ [(k,w)]) k=Dt ts k+w:=by
  rw [Ia]
  show Dt ts k+((if k=k then w else 0)+0)=_
  rw [aI rfl,fM]
 have J:∀i,i≠k->Dt (ts++ [(k,w)]) i=Dt ts i:=fun i n=>by
  rw [Ia]
  show Dt ts i+((if k=i then w else 0)+0)=_
  rw [aF (cS n),fM,fM]
 rcases h.vl k with⟨e,m⟩ | ⟨e,z,m⟩
 . refine⟨ks,by rw [Pb e];exact h.ky,h.nd,by rw [aL];exact Nat.le_add_right_of_le h.le,fun i hi=> ?_,fun i=> ?_⟩
   . obtain⟨x,G,rfl⟩:=h.mem i hi
     exact⟨x,bD _ G,rfl⟩
   . rw [Kh]
     by_cases hi:i=k
     . subst hi
       rw [aI rfl,tk]
       exact .inl ⟨rfl,m⟩
     . rw [aF fun z=>hi (fJ z),J i hi]
       exact h.vl i
 . refine⟨ks++ [k],?_,Qs h.nd m,by rw [aL,aL];exact jB h.le 1,fun i hi=> ?_,fun i=> ?_⟩
   . rw [Qz _ e,aJ,aJ,h.ky]
     rfl
   . rcases bG.mp hi with hi | hi
     . obtain⟨x,G,rfl⟩:=h.mem i hi
       exact⟨x,bD _ G,rfl⟩
     . have:i=k:=by simpa using hi
       exact⟨(k,w),by simp,this.symm⟩
   . rw [Kh]
     by_cases hi:i=k
     . subst hi
       rw [aI rfl,tk]
       exact .inl ⟨rfl,by simp⟩
     . rw [aF fun z=>hi (fJ z),J i hi]
       rcases h.vl i with⟨a,b⟩ | ⟨a,b,c⟩
       . exact .inl ⟨a,bD _ b⟩
       . refine .inr ⟨a,b,fun z=> ?_⟩
         rcases bG.mp z with z | z
         . exact c z
         . exact hi (by simpa using z)
structure Sud (H H':Hp) (d:Addr) (kvs:List (Key × V)) (ks:List Int) (ts:List (Int × Int)):Prop where
 kp:∀b u,b≠d->H b=some u->H' b=some u
 it:H' d=some (.dK kvs)
 su:SuN kvs ks ts
theorem Sud.put {H H':Hp}{d:Addr}{kvs:List (Key × V)}{ks:List Int}{ts:List (Int × Int)} (h:Sud H H' d kvs ks ts) (k w:Int):∃G q,Sud H (upd H' d (.dK (putK kvs (.inl k) (.int (Dt ts k+w))))) d G q (ts++ [(k,w)]):=by
 obtain⟨q,s⟩:=h.su.put k w
 exact⟨_,q,fun b u n e=>by rw [Bm n];exact h.kp b u n e,Ag,s⟩
theorem Pk.kd {d:Addr}{J:List (Key × V)}{e:Int × Int} (h:Pk K H v e) (q:∀b u,b≠d->H b=some u->H' b=some u) (G:H d=some (.dK J)):Pk K H' v e:=by
 obtain⟨a,L,M⟩:=h
 refine⟨a,L,?_⟩
 rcases M with(e | ⟨o,e⟩) | h
 . exact .inl (.inl (q _ _ (Ih e G (fun z=>nomatch z)) e))
 . exact .inl (.inr ⟨o,q _ _ (Ih e G (fun z=>nomatch z)) e⟩)
 . exact .inr h
noncomputable def Pa (x:Int × Int) (g:List (Int × Int)):List (Int × Int):=g.map fun y=>(x.1+y.1,x.2*y.2)
noncomputable def Et (f g:List (Int × Int)):List (Int × Int):=f.flatMap fun x=>Pa x g
theorem X7 (f g:List (Int × Int)) (x:Int × Int):Et (f++ [x]) g=Et f g++Pa x g:=by
 unfold Et
 rw [jI]
 simp
theorem Aj7 {x y:List Int} (q:x.length=3) (G:y.length=3):pk b (Vk x y)=pk b x+pk b y:=by
 match x,q,y,G with
 | [i,j,k],_,[l,m,n],_=>
   show((i+l)*b+(j+m))*b+(k+n)=((i*b+j)*b+k)+((l*b+m)*b+n)
   grind
noncomputable def pkE (b:Int) (e:List Int × Int):Int × Int:=(pk b e.1,e.2)
theorem Aa7 {b:Int}{G:List (List Int × Int)} (q:∀e∈G,e.1.length=3):∀ {F:List (List Int × Int)},(∀e∈F,e.1.length=3)->(Ii F G).map (fun e=>(pk b e.1,e.2))=Et (F.map (pkE b)) (G.map (pkE b))
 | [],_=>rfl
 | x::r,hF=>by
   show((G.map fun y=>(Vk x.1 y.1,x.2*y.2))++Ii r G).map (fun e=>(pk b e.1,e.2))=Pa (pkE b x) (G.map (pkE b))++Et (r.map (pkE b)) (G.map (pkE b))
   rw [aJ,Aa7 q fun e J=>hF e (.tail _ J)]
   congr 1
   unfold Pa
   rw [aK,aK]
   refine bR fun y L=> ?_
   show(pk b (Vk x.1 y.1),x.2*y.2)=(pk b x.1+pk b y.1,x.2*y.2)
   rw [Aj7 (hF x (.head _)) (q y L)]
noncomputable def Fy (K:Frag):Sp:=fun vs H Q _=>∃(a c:Addr) (fs gs:List (V × (List Int × Int))) (n:Nat),vs=[.ref a,.ref c]/\Ox K H a fs/\Ox K H c gs/\fs.length<16000000/\gs.length<16000000/\n<=60000000/\(∀e∈fs,Sz n e.2.2)/\(∀e∈gs,Sz n e.2.2)/\(∀e∈fs,∀x∈e.2.1,0<=x/\x<=120)/\(∀e∈gs,∀x∈e.2.1,0<=x/\x<=120)/\
 ∀z H' hs,Same H H'->Frm K H' z hs->(∀q,Bv (hs.map (·.2)) q=Bv (Ii (fs.map (·.2)) (gs.map (·.2))) q)->Q (.ref z) H'
theorem Gst.bd {fs:List (V × (List Int × Int))}{M:Int} (h:Gst fs M) (q:∀e∈fs,∀x∈e.2.1,0<=x/\x<=120):0<=M/\M<=120:=by
 by_cases z:fs=[]
 . have:=h.no z
   omega
 . obtain⟨e,G,m⟩:=h.is z
   exact q e G M m
theorem Xp (F:Df K mg "f_times" Ny zE f fd)    (L:Cal P w K mg base 1 "packed" yF (Oh K)) (W:Cal P w K mg base 1 "unpacked" yH (Jy K)) (G:Cal P w K mg base 1 "greatest_power" ["f"] (Fz K)):Cal P w K mg base 2 "f_times" zE (Fy K):=by
 refine F.cal (F.fn.ok Er (fun vs H Q E h=> ?_) (fun aq A outer s H vs Q E hr h=> ?_))
 . obtain⟨a,c,fs,gs,n,rfl,_⟩:=h
   rfl
 obtain⟨a,c,fs,gs,n,rfl,hf,hg,lf,lg,hn,zf,zg,bf,bg,k⟩:=h
 refine Bb ⟨_,(Ae (Ay 2 Er.nd (Al Cg (Al Cg (Aj G hr (Aa (Af 0) Ac)) (Aj G hr (Aa (Af 1) Ac))) Ad))
  (Ae (Ay 3 Er.nd (Aj L hr (Aa (Af 1) (Aa (Af 2) Ac))))
  (Ae (Ay 4 Er.nd Kq)
  (Ae (Ce bX rfl (Fl (Aj L hr (Aa (Af 0) (Aa (Af 2) Ac)))) (Ca rfl (Ak (Ao 5 Er.nd) (Ak (Ao 6 Er.nd) Bh))) (Ah (Ce bX rfl (Fl (Af 3)) (Ca rfl (Ak (Ao 7 Er.nd) (Ak (Ao 8 Er.nd) Bh))) (Ah (Gs (hu1 hr.units) (Af 4) (Al Cg (Af 5) (Af 7)) (Al Cg (Fg (hu1 hr.units) (Af 4) (Al Cg (Af 5) (Af 7)) Ad ⟨rfl,rfl,rfl,rfl⟩) (Al Fx (Af 6) (Af 8))) rfl)))))
  (Ah (Ar (Aj W hr (Aa (Af 4) (Aa (Af 2) Ac))))))))),?_⟩
 done
 refine⟨a,fs,rfl,hf.ts,lf,fun M H1 s1 gM=> ?_⟩
 refine⟨c,gs,rfl,(hg.mono s1).ts,lg,fun N H2 s2 gN=> ?_⟩
 have bM:=gM.bd bf
 have bN:=gN.bd bg
 try done
 have aa:=s1.trans s2
 obtain⟨b,eb⟩:∃b,b=M+N+1:=⟨_,rfl⟩
 rw [<-eb]
 refine⟨c,gs,b,rfl,hg.mono aa,lg,by omega,by omega,bg,fun o H3 go s3 ho ao eo d hd=> ?_⟩
 have s4:=Same.upd hd (.dK [])
 refine⟨a,fs,b,rfl,hf.mono ((aa.trans s3).trans s4),lf,by omega,by omega,bf,fun l H4 gl s5 hl al el=> ?_⟩
 have d4:=s5 _ _ (Ag:upd H3 d (.dK []) d=some (.dK []))
 have a8:=s4.trans s5
 have o4:=a8 _ _ ho
 have ag:∀e∈go,Pk K H4 e.1 e.2:=fun e he=>(ao e he).mono a8
 have sH:Same H H3:=aa.trans s3
 have nd:H d=none:=by
  cases e:H d with
  | none=>rfl
  | some u=>rw [sH _ _ e]at hd;cases hd
 generalize upd H3 d (.dK [])=HD at s4 s5 a8
 clear s5 s4 ao ho
 have ar:gl.length=fs.length:=by simpa using bK length el
 have as:go.length=gs.length:=by simpa using bK length eo
 have tF:∀e∈fs.map (·.2),e.1.length=3:=fun x Z=>by
  obtain⟨y,O,rfl⟩:=aD.mp Z
  exact(hf.al y O).ln
 have tG:∀e∈gs.map (·.2),e.1.length=3:=fun x Z=>by
  obtain⟨y,O,rfl⟩:=aD.mp Z
  exact(hg.al y O).ln
 have ep:Et (gl.map (·.2)) (go.map (·.2))=(Ii (fs.map (·.2)) (gs.map (·.2))).map fun e=>(pk b e.1,e.2):=by
  rw [Aa7 tG tF,el,eo,aK,aK]
  rfl
 have rP:∀e∈Ii (fs.map (·.2)) (gs.map (·.2)),Rg b e.1:=fun e he=>by
  obtain⟨x,Z,he⟩:=gP.mp he
  obtain⟨y,O,rfl⟩:=aD.mp he
  obtain⟨x,ah,rfl⟩:=aD.mp Z
  obtain⟨y,ai,rfl⟩:=aD.mp O
  replace Z:=ah
  replace O:=ai
  have gx:=gM.le x Z
  have gy:=gN.le y O
  have bx:=bf x Z
  have a9:=bg y O
  have lx:=(hf.al x Z).ln
  have ly:=(hg.al y O).ln
  match h1:x.2.1,h2:y.2.1,lx,ly with
  | [i,j,m],[i2,j2,m2],_,_=>
    rw [h1]at gx bx
    rw [h2]at gy a9
    have a1:=gx i (by simp)
    have a2:=gx j (by simp)
    have a3:=gx m (by simp)
    have a4:=gy i2 (by simp)
    have a5:=gy j2 (by simp)
    have a6:=gy m2 (by simp)
    have c1:=bx i (by simp)
    have c2:=bx j (by simp)
    have c3:=bx m (by simp)
    have c4:=a9 i2 (by simp)
    have c5:=a9 j2 (by simp)
    have c6:=a9 m2 (by simp)
    refine⟨i+i2,j+j2,m+m2,?_,by omega,by omega,by omega⟩
    rfl
 have aj:∀x∈Et (gl.map (·.2)) (go.map (·.2)),0<=x.1/\x.1<((15625000:Nat):Int):=fun x Z=>by
  rw [ep]at Z
  obtain⟨y,O,rfl⟩:=aD.mp Z
  exact(rP y O).pkb (by omega)
 refine⟨l,rfl,⟨_,.of hl⟩,Oq (es:=gl) (inj:=(·.1)) (fun a7 U H'=>∃(kvs:List (Key × V)) (ks:List Int) (o5 o6 o7 o8:Option V),U=[some (.ref a),some (.ref c),some (.int b),some (.ref o),some (.ref d),o5,o6,o7,o8]/\Sud H4 H' d kvs ks (Et (a7.map (·.2)) (go.map (·.2)))) ⟨[],[],_,_,_,_,rfl,⟨fun _ _ _ e=>e,d4,⟨rfl,.nil,aH _,by simp,fun _=> .inr ⟨rfl,rfl,by simp⟩⟩⟩⟩ ?_ ?_ ?_⟩
 . rintro a7 U H' ⟨kvs,ks,o5,o6,o7,o8,rfl,J⟩
   exact Ho (.of (J.kp _ _ (Ih hl d4 (fun z=>nomatch z)) hl))
 . rintro a7 e ap U H' hE ⟨kvs,ks,o5,o6,o7,o8,rfl,J⟩
   have hm:e∈gl:=by rw [hE];simp
   obtain⟨p,ep,hp⟩:=(al e hm).kd J.kp d4
   rw [ep]
   refine Dh hp ?_
   done
   refine⟨⟨_,.of (J.kp _ _ (Ih o4 d4 (fun z=>nomatch z)) o4)⟩,Oq (es:=go) (inj:=(·.1)) (fun a0 U H'=>∃(kvs:List (Key × V)) (ks:List Int) (o7 o8:Option V),U=[some (.ref a),some (.ref c),some (.int b),some (.ref o),some (.ref d),some (.int e.2.1),some (.int e.2.2),o7,o8]/\Sud H4 H' d kvs ks (Et (a7.map (·.2)) (go.map (·.2))++Pa e.2 (a0.map (·.2)))) ⟨kvs,ks,_,_,rfl,by
    show Sud _ _ _ _ _ (_++ [])
    rw [cP]
    exact J⟩ ?_ ?_ ?_⟩
   . rintro a0 U H5 ⟨kvs,ks,o7,o8,rfl,J⟩
     exact Ho (.of (J.kp _ _ (Ih o4 d4 (fun z=>nomatch z)) o4))
   . rintro a0 x ak U H5 ac ⟨kvs,ks,o7,o8,rfl,J⟩
     have Z:x∈go:=by rw [ac];simp
     obtain⟨q,eq,hq⟩:=(ag x Z).kd J.kp d4
     rw [eq]
     refine Dh hq ?_
     done
     obtain⟨ts,ab⟩:∃ts,Et (a7.map (·.2)) (go.map (·.2))++Pa e.2 (a0.map (·.2))=ts:=⟨_,rfl⟩
     have ad:Et (a7.map (·.2)) (go.map (·.2))++Pa e.2 ((a0++ [x]).map (·.2))=ts++ [(e.2.1+x.2.1,e.2.2*x.2.2)]:=by
      rw [<-ab,cK,aJ]
      unfold Pa
      rw [aJ]
      rfl
     rw [ad]
     rw [ab]at J
     have ae:∀z∈ts,z∈Et (gl.map (·.2)) (go.map (·.2)):=fun z hz=>by
      rw [<-ab]at hz
      rcases bG.mp hz with h | h
      . rw [hE,aJ]
        unfold Et at h ⊢
        rw [jI]
        exact bD _ h
      . refine gP.mpr ⟨e.2,aD.mpr ⟨e,hm,rfl⟩,?_⟩
        unfold Pa at h ⊢
        obtain⟨y,O,rfl⟩:=aD.mp h
        refine aD.mpr ⟨y,?_,rfl⟩
        rw [ac,aJ]
        exact bD _ O
     have ze:Sz n e.2.2:=by
      have:e.2∈fs.map fun e=>(pk b e.2.1,e.2.2):=by rw [<-el];exact aD.mpr ⟨e,hm,rfl⟩
      obtain⟨y,O,ey⟩:=aD.mp this
      rw [<-ey]
      exact zf y O
     have zx:Sz n x.2.2:=by
      have:x.2∈gs.map fun e=>(pk b e.2.1,e.2.2):=by rw [<-eo];exact aD.mpr ⟨x,Z,rfl⟩
      obtain⟨y,O,ey⟩:=aD.mp this
      rw [<-ey]
      exact zg y O
     refine⟨.inl ⟨kvs,.inl J.it⟩,_,Aft J.it,?_⟩
     have ev:(Fe kvs (.inl (e.2.1+x.2.1))).getD (.int 0)= .int (Dt ts (e.2.1+x.2.1)):=by
      rcases J.su.vl (e.2.1+x.2.1)with⟨h,_⟩ | ⟨h,h0,_⟩
      . rw [h]
        rfl
      . rw [h,h0]
        rfl
     rw [ev]
     try done
     obtain⟨af,am,an⟩:=J.put (e.2.1+x.2.1) (e.2.2*x.2.2)
     refine⟨ze.mulOk zx (by omega),d,_,rfl,Ac3 J.it ?_,af,am,_,_,rfl,an⟩
     have h1:=bK length J.su.ky
     rw [aB,aB]at h1
     have h2:=O5 15625000 ks J.su.nd fun x Z=>by
      obtain⟨y,O,rfl⟩:=J.su.mem x Z
      exact aj y (ae y O)
     exact cY (show kvs.length<=15625000 by omega) (by decide)
   . rintro U H5 ⟨kvs,ks,o7,o8,rfl,J⟩
     refine⟨kvs,ks,_,_,_,_,rfl,?_⟩
     rw [aJ]
     show Sud _ _ _ _ _ (Et (a7.map (·.2)++ [e.2]) _)
     rw [X7]
     exact J
 rintro U H' ⟨kvs,ks,o5,o6,o7,o8,rfl,J⟩
 done
 rw [ep]at J
 refine⟨d,b,kvs,ks,_,rfl,J.it,by omega,by omega,rP,J.su,fun z H6 hs s6 fr et=>k z H6 hs (Same.trans (fun x u e=> ?_) s6) fr et⟩
 exact J.kp _ _ (Bg e nd) (a8 _ _ (sH _ _ e))
noncomputable def Aga (x:List Int × Int) (g:List (List Int × Int)):List (List Int × Int):=g.map fun y=>(Vk x.1 y.1,x.2*y.2)
theorem X8 (f g:List (List Int × Int)) (x:List Int × Int):Ii (f++ [x]) g=Ii f g++Aga x g:=by
 unfold Ii Aga
 rw [jI]
 simp
theorem Ni (g:List (List Int × Int)):∀f,(Ii f g).length=f.length*g.length
 | []=>by simp [Ii]
 | x::r=>by
   show(Aga x g++Ii r g).length=_
   rw [aL,Ni g r,bU,fK,jM]
   simp [Aga]
theorem tri {ks:List Int} (h:ks.length=3):∃i j m,ks=[i,j,m]:=by
 match ks,h with
 | [i,j,m],_=>exact⟨i,j,m,rfl⟩
noncomputable def G9 (K:Frag):Sp:=fun vs H Q _=>∃(a c:Addr) (fs gs:List (V × (List Int × Int))) (n:Nat),vs=[.ref a,.ref c]/\Ox K H a fs/\Ox K H c gs/\fs.length*gs.length<16000000/\n<=60000000/\(∀e∈fs,Sz n e.2.2)/\(∀e∈gs,Sz n e.2.2)/\
 ∀z H' hs,Same H H'->Frm K H' z hs->(∀q,Bv (hs.map (·.2)) q=Bv (Ii (fs.map (·.2)) (gs.map (·.2))) q)->Q (.ref z) H'
theorem R7 (F:Df K mg "_law_product" Jt zZ f fd)    (L:Cal P w K mg base 1 "_law_sum" zV (Hy K)):Cal P w K mg base 2 "_law_product" zZ (G9 K):=by
 refine F.cal (F.fn.ok Es (fun vs H Q E h=> ?_) (fun ab A outer s H vs Q E hr h=> ?_))
 . obtain⟨a,c,fs,O,n,rfl,_⟩:=h
   rfl
 obtain⟨a,c,fs,O,n,rfl,hf,hg,ac,hn,zf,zg,k⟩:=h
 refine Bb ⟨_,(Ae (Ay 2 Es.nd (Dl Ac))
  (Ae (Ce bX rfl (Cu (Af 0)) (Ca rfl (Ak (Ao 3 Es.nd) (Ak (Ao 4 Es.nd) Bh))) (Ah (Ce bX rfl (Cu (Af 1)) (Ca rfl (Ak (Ao 5 Es.nd) (Ak (Ao 6 Es.nd) Bh))) (Ah (Fp (Hr eF fP fO Hh (Af 2) (Aa (Aw (Aa (Aw (Aa (Al Cg (Bf Du (Af 3) Ad (fun _ _=>rfl)) (Bf Du (Af 5) Ad (fun _ _=>rfl))) (Aa (Al Cg (Bf Du (Af 3) Ad (fun _ _=>rfl)) (Bf Du (Af 5) Ad (fun _ _=>rfl))) (Aa (Al Cg (Bf Du (Af 3) Ad (fun _ _=>rfl)) (Bf Du (Af 5) Ad (fun _ _=>rfl))) Ac)))) (Aa (Al Fx (Af 4) (Af 6)) Ac))) Ac)))))))
  (Ah (Ar (Aj L hr (Aa (Af 2) Ac)))))),?_⟩
 done
 refine⟨by decide,fun f hF=> ?_⟩
 have s1:=Same.upd hF (.lst [])
 refine⟨⟨_,s1.tup hf.it⟩,Oq (es:=fs) (inj:=(·.1)) (fun J G H'=>∃(es:List (V × (List Int × Int))) (o3 o4 U W:Option V),G=[some (.ref a),some (.ref c),some (.ref f),o3,o4,U,W]/\Unp K H H' f es (Ii (J.map (·.2)) (O.map (·.2)))) ⟨[],_,_,_,_,rfl,⟨s1,Ag,by simp,rfl⟩⟩ ?_ ?_ ?_⟩
 . rintro J G H' ⟨es,o3,o4,U,W,rfl,un⟩
   exact Mw (un.sm.tup hf.it)
 . rintro J e aa G H' hE ⟨es,o3,o4,U,W,rfl,un⟩
   have hm:e∈fs:=by rw [hE];simp
   obtain⟨⟨p,q,ep,hp,hq⟩,ln⟩:=hf.al e hm
   rw [ep]
   refine Dh (un.sm.tup hp) ?_
   done
   refine⟨⟨_,un.sm.tup hg.it⟩,Oq (es:=O) (inj:=(·.1)) (fun M G H'=>∃(es:List (V × (List Int × Int))) (U W:Option V),G=[some (.ref a),some (.ref c),some (.ref f),some (.ref q),some (.int e.2.2),U,W]/\Unp K H H' f es (Ii (J.map (·.2)) (O.map (·.2))++Aga e.2 (M.map (·.2)))) ⟨es,_,_,rfl,by
    show Unp _ _ _ _ _ (_++ [])
    rw [cP]
    exact un⟩ ?_ ?_ ?_⟩
   . rintro M G H5 ⟨es,U,W,rfl,un⟩
     exact Mw (un.sm.tup hg.it)
   . rintro M x a3 G H5 a2 ⟨es,U,W,rfl,un⟩
     have hx:x∈O:=by rw [a2];simp
     obtain⟨⟨p2,q2,a4,a5,a6⟩,a7⟩:=hg.al x hx
     rw [a4]
     refine Dh (un.sm.tup a5) ?_
     have ad:es.length<fs.length*O.length:=by
      have h1:=bK length un.eq
      rw [aL,Ni]at h1
      unfold Aga at h1
      simp only [aB]at h1
      have h2:=bK length hE
      have h3:=bK length a2
      rw [aL,bU]at h2 h3
      have h4:J.length*O.length+O.length<=fs.length*O.length:=by
       rw [<-fK]
       exact bS _ (by omega)
      omega
     have s5:=un.sm
     have gq:=s5.tup hq
     have Z:=s5.tup a6
     obtain⟨i1,i2,i3,ek⟩:=tri ln
     obtain⟨j1,j2,j3,a0⟩:=tri a7
     rw [ek]at gq
     rw [a0]at Z
     done
     refine⟨.inl ⟨rfl,_,.of un.it⟩,El gq (v:= .int i1) rfl ?_⟩
     try done
     refine El Z (v:= .int j1) rfl ?_
     try done
     refine El gq (v:= .int i2) rfl ?_
     try done
     refine El Z (v:= .int j2) rfl ?_
     try done
     refine El gq (v:= .int i3) rfl ?_
     try done
     refine El Z (v:= .int j3) rfl ?_
     try done
     refine⟨by decide,fun c2 a8=> ?_⟩
     have s6:=Same.upd a8 (.tup [V.int (i1+j1),V.int (i2+j2),V.int (i3+j3)])
     have g6:upd H5 c2 (.tup [V.int (i1+j1),V.int (i2+j2),V.int (i3+j3)]) c2=some (.tup ((Vk e.2.1 x.2.1).map V.int)):=by
      rw [ek,a0]
      exact Ag
     generalize upd H5 c2 (.tup [V.int (i1+j1),V.int (i2+j2),V.int (i3+j3)])=H6 at s6 g6
     refine⟨(zf e hm).mulOk (zg x hx) (by omega),fun c3 a9=> ?_⟩
     have s7:=Same.upd a9 (.tup [V.ref c2,V.int (e.2.2*x.2.2)])
     have g7:upd H6 c3 (.tup [V.ref c2,V.int (e.2.2*x.2.2)]) c3=some (.tup [V.ref c2,V.int (e.2.2*x.2.2)]):=Ag
     generalize upd H6 c3 (.tup [V.ref c2,V.int (e.2.2*x.2.2)])=H7 at s7 g7
     have a1:=s6.trans s7
     have f7:=a1 _ _ un.it
     have tn:Te K H7 (.ref c3) (Vk e.2.1 x.2.1,e.2.2*x.2.2):=⟨⟨c3,c2,rfl,.of g7,s7 _ _ g6⟩,by rw [ek,a0];rfl⟩
     refine⟨f,_,_,rfl,rfl,f7,?_,es++ [(.ref c3,(Vk e.2.1 x.2.1,e.2.2*x.2.2))],_,_,rfl,⟨(un.sm.trans a1).put hF,?_,fun t ht=> ?_,?_⟩⟩
     . rw [aB]
       exact bH (show es.length<16000000 by omega) (by decide)
     . rw [Ag,aJ]
       rfl
     . rcases bG.mp ht with ht | ht
       . exact((un.al t ht).mono a1).put f7
       . have e:t=(.ref c3,(Vk e.2.1 x.2.1,e.2.2*x.2.2)):=by simpa using ht
         rw [e]
         exact tn.put f7
     . rw [aJ,un.eq,aJ,cK]
       unfold Aga
       rw [aJ]
       rfl
   . rintro G H5 ⟨es,U,W,rfl,un⟩
     refine⟨es,_,_,_,_,rfl,?_⟩
     rw [aJ]
     show Unp _ _ _ _ _ (Ii (J.map (·.2)++ [e.2]) _)
     rw [X8]
     exact un
 rintro G H' ⟨es,o3,o4,U,W,rfl,un⟩
 done
 refine⟨f,es,rfl,.of un.it,un.al,?_,fun z H2 hs s2 fr et=>k z H2 hs (un.sm.trans s2) fr (by rw [<-un.eq];exact et)⟩
 have h1:=bK length un.eq
 rw [Ni,aB,aB,aB]at h1
 omega
noncomputable def c3 (ks:List Int):M3:=((ks.getD 0 0).toNat,(ks.getD 1 0).toNat,(ks.getD 2 0).toNat)
noncomputable def cvl (l:List (List Int × Int)):Tl:=l.map fun e=>(c3 e.1,e.2)
noncomputable def Np (ks:List Int):Prop:=ks.length=3/\∀x∈ks,0<=x
theorem Np.ex {ks:List Int} (h:Np ks):∃i j k:Nat,ks=[(i:Int),(j:Int),(k:Int)]/\c3 ks=(i,j,k):=by
 obtain⟨l,p⟩:=h
 match ks,l,p with
 | [a,b,c],_,p=>
   have q:=p a (by simp)
   have G:=p b (by simp)
   have J:=p c (by simp)
   refine⟨a.toNat,b.toNat,c.toNat,?_,rfl⟩
   rw [jK q,jK G,jK J]
theorem Aed {a b:List Int} (q:Np a) (G:Np b) (h:c3 a=c3 b):a=b:=by
 obtain⟨i,j,k,rfl,e⟩:=q.ex
 obtain⟨L,M,O,rfl,J⟩:=G.ex
 rw [e,J]at h
 simp only [iX]at h
 obtain⟨rfl,rfl,rfl⟩:=h
 rfl
theorem Ol:∀ {l:List (List Int × Int)},(∀e∈l,Np e.1)->∀ {q:List Int},Np q->Bv l q=tot (cvl l) (c3 q)
 | [],_,_,_=>rfl
 | e::r,h,q,hq=>by
   show(if e.1=q then e.2 else 0)+Bv r q=(if c3 e.1=c3 q then e.2 else 0)+tot (cvl r) (c3 q)
   rw [Ol (fun x G=>h x (.tail _ G)) hq]
   by_cases c:e.1=q
   . rw [aI c,aI (by rw [c])]
   . rw [aF c,aF fun z=>c (Aed (h e (.head _)) hq z)]
theorem Aif {a b:List Int} (L:Np a) (M:Np b):c3 (Vk a b)=m3 (c3 a) (c3 b):=by
 obtain⟨i,j,k,rfl,e⟩:=L.ex
 obtain⟨q,G,J,rfl,O⟩:=M.ex
 rw [e,O]
 show(((i:Int)+q).toNat,((j:Int)+G).toNat,((k:Int)+J).toNat)=(i+q,j+G,k+J)
 simp only [iX]
 omega
theorem Np.add {a b:List Int} (q:Np a) (G:Np b):Np (Vk a b):=by
 obtain⟨i,j,k,rfl,_⟩:=q.ex
 obtain⟨J,L,M,rfl,_⟩:=G.ex
 refine⟨rfl,fun x O=> ?_⟩
 have:x=(i:Int)+J\/x=(j:Int)+L\/x=(k:Int)+M:=by simpa [Vk]using O
 omega
theorem Zc (a b:List (List Int × Int)):cvl (a++b)=cvl a++cvl b:=aJ
theorem T7 {b:List (List Int × Int)} (q:∀e∈b,Np e.1):∀ {a:List (List Int × Int)},(∀e∈a,Np e.1)->cvl (Ii a b)=mt (cvl a) (cvl b)
 | [],_=>rfl
 | x::r,ha=>by
   show cvl ((b.map fun y=>(Vk x.1 y.1,x.2*y.2))++Ii r b)=mt1 (c3 x.1,x.2) (cvl b)++mt (cvl r) (cvl b)
   rw [Zc,T7 q fun e G=>ha e (.tail _ G)]
   congr 1
   unfold cvl mt1
   rw [aK,aK]
   refine bR fun y J=> ?_
   show(c3 (Vk x.1 y.1),x.2*y.2)=(m3 (c3 x.1) (c3 y.1),x.2*y.2)
   rw [Aif (ha x (.head _)) (q y J)]
theorem Aau {a b:List (List Int × Int)} (G:∀e∈a,Np e.1) (J:∀e∈b,Np e.1):∀e∈Ii a b,Np e.1:=fun e q=>by
 obtain⟨x,L,q⟩:=gP.mp q
 obtain⟨y,M,rfl⟩:=aD.mp q
 exact(G x L).add (J y M)
theorem Am0 (k:M3):∃q,Np q/\c3 q=k:=⟨[(k.1:Int),(k.2.1:Int),(k.2.2:Int)],⟨rfl,fun x G=>by
 have:x=(k.1:Int)\/x=(k.2.1:Int)\/x=(k.2.2:Int):=by simpa using G
 omega⟩,by
 show(toNat _,toNat _,toNat _)=_
 simp⟩
theorem Ai1 {a b:List (List Int × Int)} (J:∀e∈a,Np e.1) (L:∀e∈b,Np e.1) (h:∀q,Bv a q=Bv b q):fq (cvl a)=fq (cvl b):=Gh fun k=>by
 obtain⟨q,G,rfl⟩:=Am0 k
 rw [<-Ol J G,<-Ol L G,h]
theorem Aku {a b:List (List Int × Int)} (L:∀e∈a,Np e.1) (M:∀e∈b,Np e.1) (h:fq (cvl a)=fq (cvl b)) (q:List Int):Bv a q=Bv b q:=by
 by_cases G:Np q
 . rw [Ol L G,Ol M G,Nf h]
 . have h1:∀e∈a,e.1≠q:=fun e J z=>G (by rw [<-z];exact L e J)
   have h2:∀e∈b,e.1≠q:=fun e J z=>G (by rw [<-z];exact M e J)
   rw [G5 h1,G5 h2]
theorem Abw {x:List Int × Int}:∀ {q:List (List Int × Int)},UpT q->x∈q->Bv q x.1=x.2
 | [],_,h=>by cases h
 | y::r,up,h=>by
   have G:=cQ.mp up
   rcases aQ.mp h with rfl | h
   . exact G4 up
   . show(if y.1=x.1 then y.2 else 0)+Bv r x.1=x.2
     rw [aF (O8 (G.1 x h)),Abw G.2 h]
     omega
noncomputable abbrev Ft:=List (V × (List Int × Int))
theorem Fb {fs:Ft} (h:∀e∈fs,Np e.2.1):∀e∈fs.map (·.2),Np e.1:=fun e q=>by
 obtain⟨x,G,rfl⟩:=aD.mp q
 exact h x G
structure Fo (K:Frag) (H:Hp) (st:Bool) (v:V) (S:Fq) (d n:Nat):Prop where
 ex:∃a,∃fs:Ft,v= .ref a/\Ox K H a fs/\(st=true->Frm K H a fs)/\(∀e∈fs,Np e.2.1)/\fq (cvl (fs.map (·.2)))=S
 bd:Bd S d n
theorem Fo.mono {H H':Hp}{st:Bool}{v:V}{S:Fq}{d n:Nat} (h:Fo K H st v S d n) (s:Same H H'):Fo K H' st v S d n:=by
 obtain⟨⟨a,fs,e,w,t,np,q⟩,b⟩:=h
 exact⟨⟨a,fs,e,w.mono s,fun z=>(t z).mono s,np,q⟩,b⟩
theorem Fo.wk {st:Bool} (h:Fo K H st v S d n):Fo K H false v S d n:=by
 obtain⟨⟨a,fs,e,w,_,np,q⟩,b⟩:=h
 exact⟨⟨a,fs,e,w,(fun z=>absurd z (by decide)),np,q⟩,b⟩
theorem Fo.up {st:Bool}{q:Nat} (h:Fo K H st v S d n) (G:d<=d') (J:n<=q):Fo K H st v S d' q:=⟨h.ex,h.bd.mono G J⟩
theorem Ws {l:List (List Int × Int)} (h:UpT l):(l.map (·.1)).Nodup:=bC.mpr (h.imp fun h=>O8 h)
theorem Ng {l:List (List Int × Int)} (up:UpT l) (q:∀e∈l,e.2≠0) (np:∀e∈l,Np e.1):Nz (cvl l):=by
 refine⟨?_,fun e G=> ?_⟩
 . unfold cvl
   rw [aK]
   have:=bC.mp (Ws up)
   refine bC.mpr ((gE.mp this).imp fun {x y} z e=>z.2.2 (Aed (np x z.1) (np y z.2.1) e))
 . obtain⟨x,J,rfl⟩:=aD.mp G
   exact q x J
theorem Amg {l:List (List Int × Int)} (up:UpT l) (J:∀e∈l,e.2≠0) (np:∀e∈l,Np e.1) (e:fq (cvl l)=S) (b:Bd S d n):∀x∈l,(∀y∈x.1,0<=y/\y<=(d:Int))/\Sz (n+1) x.2:=fun x q=>by
 subst e
 obtain⟨h1,h2⟩:=b.nz (Ng up J np) (c3 x.1,x.2) (aD.mpr ⟨x,q,rfl⟩)
 refine⟨fun y G=>⟨(np x q).2 y G,?_⟩,?_⟩
 . obtain⟨i,j,k,L,M⟩:=(np x q).ex
   rw [L]at G
   have O:y=(i:Int)\/y=(j:Int)\/y=(k:Int):=by simpa using G
   rw [M]at h1
   unfold le3 at h1
   dsimp only at h1
   omega
 . show x.2.natAbs<2^(n+1)
   have:=Nat.two_pow_pos n
   rw [iG]
   dsimp only at h2
   omega
theorem Ae2:∀ {x:List Int},x.length=3->(∀y∈x,0<=y/\y<(D:Int))->0<=pk D x/\pk D x<((D*D*D:Nat):Int)
 | [i,j,k],_,h=>by
   have q:=h i (by simp)
   have h1:=h j (by simp)
   have h2:=h k (by simp)
   show 0<=(i*D+j)*D+k/\(i*D+j)*D+k<_
   have L:0<=i*D:=lG q.1 (by omega)
   have G:(i+1)*D<=D*(D:Int):=dY (by omega) (by omega)
   have M:0<=(i*D+j)*D:=lG (by omega) (by omega)
   rw [kB,Int.one_mul]at G
   have J:(i*D+j+1)*D<=D*D*(D:Int):=dY (by omega) (by omega)
   rw [kB,Int.one_mul]at J
   rw [Int.natCast_mul,Int.natCast_mul]
   omega
theorem Aal {l:List (List Int × Int)} (L:(l.map (·.1)).Nodup) (h:∀x∈l,x.1.length=3/\∀y∈x.1,0<=y/\y<=(d:Int)):l.length<=(d+1)*(d+1)*(d+1):=by
 have G:∀x∈l,Rg ((d+1:Nat):Int) x.1:=fun x q=>by
  obtain⟨M,b⟩:=h x q
  match e:x.1,M with
  | [i,j,k],_=>
    rw [e]at b
    have:=b i (by simp)
    have:=b j (by simp)
    have:=b k (by simp)
    exact⟨i,j,k,rfl,by omega,by omega,by omega⟩
 have:=O5 ((d+1)*(d+1)*(d+1)) (l.map fun x=>pk ((d+1:Nat):Int) x.1) (bC.mpr ((gE.mp (bC.mp L)).imp fun {x y} z e=>z.2.2 ((G x z.1).inj (G y z.2.1) e))) fun x q=>by
  obtain⟨y,J,rfl⟩:=aD.mp q
  exact Ae2 (h y J).1 fun z O=>by have:=(h y J).2 z O;omega
 rwa [aB]at this
theorem Ox.at {fs:Ft} (h:Ox K H a fs):UpT (fs.map (·.2))/\(∀e∈fs.map (·.2),e.2≠0):=
 ⟨h.up,fun e q=>by obtain⟨x,G,rfl⟩:=aD.mp q;exact h.nn x G⟩
theorem Fo.at {H:Hp}{st:Bool}{v:V}{S:Fq}{d n:Nat} (h:Fo K H st v S d n):∃a,∃fs:Ft,v= .ref a/\Ox K H a fs/\(st=true->Frm K H a fs)/\(∀e∈fs,Np e.2.1)/\fq (cvl (fs.map (·.2)))=S/\
 (∀e∈fs,∀y∈e.2.1,0<=y/\y<=(d:Int))/\(∀e∈fs,Sz (n+1) e.2.2)/\fs.length<=(d+1)*(d+1)*(d+1):=by
 obtain⟨⟨a,fs,e,w,t,np,q⟩,b⟩:=h
 have L:=Amg w.at.1 w.at.2 (Fb np) q b
 have G:∀e∈fs,∀y∈e.2.1,0<=y/\y<=(d:Int):=fun x J=>(L x.2 (aD.mpr ⟨x,J,rfl⟩)).1
 refine⟨a,fs,e,w,t,np,q,G,fun x J=>(L x.2 (aD.mpr ⟨x,J,rfl⟩)).2,?_⟩
 have:=Aal (Ws w.at.1) (d:=d) fun x J=>by
  obtain⟨y,M,rfl⟩:=aD.mp J
  exact⟨(np y M).1,G y M⟩
 rwa [aB]at this
theorem cube (h:d<=D):(d+1)*(d+1)*(d+1)<=(D+1)*(D+1)*(D+1):=fS (fS (by omega) (by omega)) (by omega)
theorem Fo.of {fs:Ft}{l:List (List Int × Int)} (h:Frm K H a fs) (np:∀e∈fs,Np e.2.1) (G:∀e∈l,Np e.1) (e:∀q,Bv (fs.map (·.2)) q=Bv l q) (es:fq (cvl l)=S) (b:Bd S d n):Fo K H true (.ref a) S d n:=
 ⟨⟨a,fs,rfl,h.weak,fun _=>h,np,by rw [<-es];exact Ai1 (Fb np) G e⟩,b⟩
theorem Xm {fs:Ft}{l:List (List Int × Int)} (h:Ox K H a fs) (J:∀e∈l,Np e.1) (e:∀q,Bv (fs.map (·.2)) q=Bv l q):∀x∈fs,Np x.2.1:=fun x G=>by
 have h1:Bv (fs.map (·.2)) x.2.1≠0:=by
  rw [Abw h.at.1 (aD.mpr ⟨x,G,rfl⟩)]
  exact h.nn x G
 rw [e]at h1
 by_cases z:Np x.2.1
 . exact z
 . have h2:∀e∈l,e.1≠x.2.1:=fun y L w=>z (by rw [<-w];exact J y L)
   exact absurd (G5 h2) h1
theorem Ey (h:d<=120) {k:Nat} (l:k<=(d+1)*(d+1)*(d+1)):k<=1771561:=aO l (cube h)
theorem Yn {Q:VK}{E:XK}{Z s2:Bool}{T:Fq}{L:Nat} (h:Fo K H Z v S d n) (g:Fo K H s2 u T d' L) (hd:d<=120) (M:d'<=120) (hn:n<=25000000) (a0:L<=25000000)
 (k:∀z H',Same H H'->Fo K H' true (.ref z) (S*T) (d+d') (n+L)->Q (.ref z) H'):Fy K [v,u] H Q E:=by
 obtain⟨a,fs,rfl,w1,_,G,e1,b1,z1,l1⟩:=h.at
 obtain⟨c,gs,rfl,w2,_,J,e2,b2,z2,l2⟩:=g.at
 have a1:=Ey hd l1
 have a2:=Ey M l2
 refine⟨a,c,fs,gs,(n+1)+(L+1),rfl,w1,w2,by omega,by omega,by omega,fun e q=>(z1 e q).mono (by omega),fun e q=>(z2 e q).mono (by omega),fun e q x O=>by have:=b1 e q x O;omega,fun e q x O=>by have:=b2 e q x O;omega,fun z H' hs s fr U=>k z H' s ?_⟩
 have W:=Aau (Fb G) (Fb J)
 exact .of fr (Xm fr.weak W U) W U (by rw [T7 (Fb J) (Fb G),<-O6,e1,e2]) (h.bd.mul g.bd)
theorem Anu {Q:VK}{E:XK}{T:Fq} (h:Fo K H true v S d n) (g:Fo K H true u T d n) (U:d<=120)
 (k:∀z H',Same H H'->Fo K H' true (.ref z) (S+T) d (n+1)->Q (.ref z) H'):Iw K [v,u] H Q E:=by
 obtain⟨a,fs,rfl,w1,Z,L,e1,b1,z1,l1⟩:=h.at
 obtain⟨c,M,rfl,w2,t2,O,e2,b2,z2,l2⟩:=g.at
 have a0:=Ey U l1
 have a1:=Ey U l2
 refine⟨a,c,fs,M,rfl,Z rfl,t2 rfl,by omega,fun z H' hs s fr et _=>k z H' s ?_⟩
 have W:∀e∈fs.map (·.2)++M.map (·.2),Np e.1:=fun e G=>by
  rcases bG.mp G with G | G
  . exact Fb L e G
  . exact Fb O e G
 have J:∀q,Bv (hs.map (·.2)) q=Bv (fs.map (·.2)++M.map (·.2)) q:=fun q=>by rw [et,Rh]
 exact .of fr (Xm fr.weak W J) W J (by rw [Zc,<-Vq,e1,e2]) (h.bd.add g.bd)
theorem Ap5 {Q:VK}{E:XK} (h:Fo K H true v S d n) (O:d<=120) (hn:n<=25000000)
 (k:∀z H',Same H H'->Fo K H' true (.ref z) (-S) d n->Q (.ref z) H'):Jv K [v,.int (-1)] H Q E:=by
 obtain⟨a,fs,rfl,w1,U,J,W,b1,Z,l1⟩:=h.at
 have a0:=Ey O l1
 refine⟨a,fs,n+1,-1,rfl,U rfl,by omega,Z,?_,by omega,fun z H' hs s fr et _=>k z H' s ?_⟩
 . show(1:Nat)<2^(n+1)
   have:=Nat.two_pow_pos n
   rw [iG]
   omega
 have M:∀e∈(fs.map (·.2)).map (fun e=>(e.1,e.2* -1)),Np e.1:=fun e he=>by
  obtain⟨x,hx,rfl⟩:=aD.mp he
  exact Fb J x hx
 have G:∀q,Bv (hs.map (·.2)) q=Bv ((fs.map (·.2)).map fun e=>(e.1,e.2* -1)) q:=fun q=>by rw [et,Lf]
 refine .of fr (Xm fr.weak M G) M G ?_ h.bd.neg
 rw [<-W,Z1]
 congr 1
 unfold cvl ngT
 generalize fs.map (·.2)=L
 rw [aK,aK]
 refine bR fun x _=> ?_
 show(c3 x.1,x.2* -1)=(c3 x.1,-x.2)
 rw [Int.mul_neg,jE]
theorem Lr (q:j<3) {ks:List Int} (h:Np ks):((pw3 j (c3 ks):Nat):Int)=ks.getD j 0:=by
 obtain⟨a,b,c,rfl,e⟩:=h.ex
 rw [e]
 match j,q with
 | 0,_=>rfl
 | 1,_=>rfl
 | 2,_=>rfl
theorem Uc {fs:Ft} (w:Ox K H a fs) (np:∀e∈fs,Np e.2.1):fq (cvl (fs.map (·.2)))=0↔fs=[]:=by
 constructor
 . intro h
   cases hf:fs with
   | nil=>rfl
   | cons x r=>
     exfalso
     have nz:=Ng w.at.1 w.at.2 (Fb np)
     have q:(c3 x.2.1,x.2.2)∈cvl (fs.map (·.2)):=aD.mpr ⟨x.2,aD.mpr ⟨x,by rw [hf];exact .head _,rfl⟩,rfl⟩
     have h1:=nz.at _ q
     have h2:=nz.nn _ q
     rw [<-G6]at h
     have G:=Nf h (c3 x.2.1)
     rw [show tot (cvl (fs.map (·.2))) (c3 x.2.1)=x.2.2 from h1]at G
     exact h2 G
 . intro h
   rw [h]
   exact G6
theorem Ig {st:Bool} (h:Fo K H st v S d n) (Z:d<=120) (J:j<3) (k:∀(m:Nat) H',Same H H'->Mo j S m->m<=d->(S=0->m=0)->Q (.int (m:Nat)) H'):Jw K [v,.int (j:Nat)] H Q E:=by
 obtain⟨a,fs,rfl,w,_,np,e,b,z,l⟩:=h.at
 have l':=Ey Z l
 refine⟨a,fs,j,rfl,w,by omega,J,fun M H' s ms=> ?_⟩
 have M0:0<=M/\M<=d:=by
  by_cases c:fs=[]
  . have:=ms.no c
    omega
  . obtain⟨x,q,e⟩:=ms.is c
    have hl:=(np x q).1
    have L:x.2.1.getD j 0∈x.2.1:=by
     rw [aP,aG (by omega)]
     exact cE _
    have:=b x q _ L
    omega
 obtain⟨m,rfl⟩:∃m:Nat,M=m:=⟨M.toNat,by omega⟩
 refine k m H' s ⟨⟨cvl (fs.map (·.2)),e.symm,fun x q=> ?_⟩,fun m' O=> ?_⟩ (by omega) fun W=> ?_
 . obtain⟨y0,U,rfl⟩:=aD.mp q
   obtain⟨y,G,rfl⟩:=aD.mp U
   have h1:=ms.le y G
   rw [<-Lr J (np y G)]at h1
   show pw3 j (c3 y.2.1)<=m
   omega
 . by_cases c:fs=[]
   . have:=ms.no c
     omega
   . obtain⟨x,q,ex⟩:=ms.is c
     obtain⟨l2,e2,b2⟩:=O
     have nz:=Ng w.at.1 w.at.2 (Fb np)
     have L:(c3 x.2.1,x.2.2)∈cvl (fs.map (·.2)):=aD.mpr ⟨x.2,aD.mpr ⟨x,q,rfl⟩,rfl⟩
     have h1:=nz.at _ L
     have h2:=Nf (e.trans e2) (c3 x.2.1)
     rw [show tot (cvl (fs.map (·.2))) (c3 x.2.1)=x.2.2 from h1]at h2
     obtain⟨y,G,ey⟩:=Om (a:=l2) (k:=c3 x.2.1) (by rw [<-h2];exact w.nn x q)
     have h3:=b2 y G
     rw [ey]at h3
     have h4:=Lr J (np x q)
     omega
 . rw [<-e,Uc w np]at W
   have:=ms.no W
   omega
theorem Ahb {H:Hp}:∀fs:Ft,(∀e∈fs,Tw K H e.1 e.2)->Vh K H (fs.map (·.1)) ((fs.map (·.2)).map fD3)
 | [],_=> .nil
 | t::r,h=>by
   obtain⟨⟨a,b,q,G,J⟩,_⟩:=h t (.head _)
   refine .cons ?_ (Ahb r fun u L=>h u (.tail _ L))
   show RdD K H t.1 (fD3 t.2)
   rw [q]
   exact .tup G (.cons (RdD.ints J) (.cons (.int _) .nil))
theorem Ma {g:Bool->Bool}{W Z:Bool}{T:Fq}{n':Nat} (h:Fo K H W v S d n) (k:Fo K H Z u T d' n') (q1:S=T->Q (.bl (g true)) H) (q2:S≠T->Q (.bl (g false)) H):Al4 K g v u H Q:=by
 obtain⟨⟨a,fs,rfl,q,_,J,O⟩,_⟩:=h
 obtain⟨⟨b,L,rfl,G,_,M,U⟩,_⟩:=k
 refine⟨_,_,.tup q.it (Ahb fs q.al),.tup G.it (Ahb L G.al),Ph _,Ph _,?_⟩
 rw [PyData.eqv,Zv]
 by_cases c:S=T
 . have:fs.map (·.2)=L.map (·.2):=Uq _ _ q.at.1 G.at.1 q.at.2 G.at.2 (Aku (Fb J) (Fb M) (by rw [O,U,c]))
   rw [cD this]
   exact q1 c
 . have:fs.map (·.2)≠L.map (·.2):=fun z=>c (by rw [<-O,<-U,z])
   rw [bZ this]
   exact q2 c
theorem Ei (h:SqT K H a []):Fo K H true (.ref a) 0 0 0:=
 ⟨⟨a,[],rfl,⟨h,by simp,.nil,by simp⟩,fun _=>⟨h,by simp,.nil,by simp⟩,by simp,G6⟩,.zero⟩
noncomputable def Hi (K:Frag):Sp:=fun vs H Q _=>∃(v u:V) (sa sb:Fq) (d n:Nat),vs=[v,u]/\Fo K H true v sa d n/\Fo K H true u sb d n/\d<=120/\n<=25000000/\∀z H',Same H H'->Fo K H' true (.ref z) (sa-sb) d (n+1)->Q (.ref z) H'
theorem Xn (F:Df K mg "f_minus" Nv zE f fd)    (G:Cal P w K mg base 2 "f_plus" zE (Iw K)) (q:Cal P w K mg base 1 "f_scaled" yE (Jv K)):Cal P w K mg base 3 "f_minus" zE (Hi K):=by
 refine F.cal (F.fn.ok Yc (fun O H Q E h=> ?_) (fun U A outer s H O Q E J h=> ?_))
 . obtain⟨v,u,W,Z,d,n,rfl,_⟩:=h
   rfl
 obtain⟨v,u,W,Z,d,n,rfl,hv,hu,L,hn,k⟩:=h
 refine Bb ⟨_,(Ah (Ar (Aj G J (Aa (Af 0) (Aa (Aj q J (Aa (Af 1) (Aa (Gj Kg Ad) Ac))) Ac))))),?_⟩
 done
 refine Ap5 hu L hn fun z H1 M h1=> ?_
 refine Anu (hv.mono M) h1 L fun z2 H2 s2 h2=> ?_
 exact k z2 H2 (M.trans s2) h2
theorem Ant {Q:VK}{E:XK} (h:Fo K H true v q d n) (g:Fo K H true u G d n) (J:d<=120) (L:n<=25000000)
 (k:∀z H',Same H H'->Fo K H' true (.ref z) (q-G) d (n+1)->Q (.ref z) H'):Hi K [v,u] H Q E:=⟨v,u,q,G,d,n,rfl,h,g,J,L,k⟩
theorem Ajh:kitOne K (.type "str") (.type "str")=some true:=Ui (by decide+kernel)
noncomputable def nmS:Nat->Str
 | 0=>"x"
 | 1=>"y"
 | _=>"z"
noncomputable def Jx (K:Frag):Sp:=fun vs H Q _=>∃j:Nat,j<3/\vs=[.str (nmS j)]/\∀H',Same H H'->Q (.int (j:Nat)) H'
theorem Uv (F:Df K mg "place_of" K6 yN f fd)  (G:mg "isinstance"=none) (L:mg "str"=none) (J:mg "NAMES"=some (.ref (cA K "NAMES"))) (q:Ah3 K (cA K "NAMES") [.str "x",.str "y",.str "z"])  :Cal P w K mg base 1 "place_of" yN (Jx K):=by
 refine F.cal (F.fn.ok Va (fun O H Q E h=> ?_) (fun U A outer s H O Q E Z h=> ?_))
 . obtain⟨j,_,rfl,_⟩:=h
   rfl
 obtain⟨j,W,rfl,k⟩:=h
 refine Bb ⟨_,(Ae (Bp (Eb (Em (Dm (Cy (Bj Mp rfl G cV (Aa (Af 0) (Aa (Ep (v:= .ty "str") rfl L boot_str rfl) Ac))))) (Ga (Av Sh (Af 0) (Dq (v:= .ref (cA K "NAMES")) rfl J rfl) rfl)))) (Ah Tp) Bc)
  (Ah (Ar (Hr PySem.F.plainAttrs_tuple PySem.F.slot_tuple_index PySem.F.type_tuple_index Aaq (Dq (v:= .ref (cA K "NAMES")) rfl J rfl) (Aa (Af 0) Ac))))),?_⟩
 done
 refine⟨_,_,_,true,rfl,.str _,Ajh,?_⟩
 try done
 refine⟨_,_,rfl,.inr q.sq,rfl,rfl,?_⟩
 have M:=k H (Same.refl _)
 match j,W,M with
 | 0,_,M=>
   try done
   exact⟨q.ty,_,_,_,0,rfl,rfl,q.sq,rfl,rfl,⟨_,rfl,by decide+kernel⟩,fun i z hi=>by omega,M⟩
 | 1,_,M=>
   try done
   exact⟨q.ty,_,_,_,1,rfl,rfl,q.sq,rfl,rfl,⟨_,rfl,by decide+kernel⟩,fun i z hi e=>by
    have:i=0:=by omega
    subst this
    cases e
    decide+kernel,M⟩
 | 2,_,M=>
   try done
   exact⟨q.ty,_,_,_,2,rfl,rfl,q.sq,rfl,rfl,⟨_,rfl,by decide+kernel⟩,fun i z hi e=>by
    have:i=0\/i=1:=by omega
    rcases this with rfl | rfl<;>(cases e;decide+kernel),M⟩
noncomputable def pwI (j m:Nat):List Int:=match j with | 0=>[(m:Int),0,0] | 1=>[0,(m:Int),0] | _=>[0,0,(m:Int)]
theorem Afa (m:Nat):∀j,Np (pwI j m)
 | 0=>⟨rfl,fun x q=>by simp [pwI]at q;omega⟩
 | 1=>⟨rfl,fun x q=>by simp [pwI]at q;omega⟩
 | _+2=>⟨rfl,fun x q=>by simp [pwI]at q;omega⟩
theorem Akd (m:Nat):∀j,c3 (pwI j m)=ej j m
 | 0=>rfl
 | 1=>rfl
 | _+2=>rfl
noncomputable def Kd (K:Frag):Sp:=fun vs H Q _=>∃j m:Nat,j<3/\vs=[.int (j:Nat),.int (m:Nat)]/\∀z H',Same H H'->H z=none->H' z=some (.tup ((pwI j m).map V.int))->Q (.ref z) H'
theorem Qu (F:Df K mg "name_power" G8 yA f fd)  (q:mg "tuple"=none) (G:mg "range"=none)   :Cal P w K mg base 1 "name_power" yA (Kd K):=by
 refine F.cal (F.fn.ok Rb (fun M H Q E h=> ?_) (fun O A outer s H M Q E Z h=> ?_))
 . obtain⟨j,m,_,rfl,_⟩:=h
   rfl
 obtain⟨j,m,U,rfl,k⟩:=h
 refine Bb ⟨_,(Ah (Ar (Eu Ed rfl q cI (Aa (Br (ts:=["other"]) (fs:=[(1,"many"),(0,"place")]) rfl (Dy.of (sc:=Ax G8) (N:=yA) rfl rfl (by decide+kernel)) (Dg rfl G (Aa Ad Ac)) (fun _ _ _=>(Ao 0 (show Nodup (["other","many","place"]:List Str)by decide+kernel))) (fun _ _ _=>Bx) (fun _ _ _=>(Tj (Av J7 (Af 2) (Af 0) (Bl _)) (Af 1) Ad))) Ac)))),?_⟩
 done
 refine⟨by decide,by decide,fun p hp=>Gg (es:=List.range 3) (inj:=fun i=> .int (0+(i:Nat))) (fun i=>if j=i then .int (m:Nat)else .int 0) (by decide) hp Rm ?_ ?_⟩
 . intro i H2 R hi J W
   done
   have:=W H2 (Same.refl _)
   by_cases c:j=i
   . rw [aI (by omega)]
     rwa [aI c]at this
   . rw [aF (by omega)]
     rwa [aF c]at this
 intro H2 J h2
 refine⟨p,_,rfl,.inl ⟨.of h2,fun z L=> ?_⟩⟩
 have e:(List.range 3).map (fun i=>if j=i then V.int (m:Nat)else V.int 0)=(pwI j m).map V.int:=by
  match j,U with
  | 0,_=>rfl
  | 1,_=>rfl
  | 2,_=>rfl
 rw [e]
 refine k z _ (J.trans (Same.upd L _)) ?_ Ag
 cases e:H z with
 | none=>rfl
 | some u=>rw [J _ _ e]at L;cases L
theorem Ail:∀ {j:Nat},j<3->∀q x1 G:Int,(O2 ([q,x1,G].map V.int) none (some (j:Int))).length<=3/\(O2 ([q,x1,G].map V.int) (some ((j:Int)+1)) none).length<=3/\O2 ([q,x1,G].map V.int) none (some (j:Int))++ [V.int 0]++O2 ([q,x1,G].map V.int) (some ((j:Int)+1)) none=([q,x1,G].set j 0).map V.int
 | 0,_,_,_,_=>⟨fG rfl,fG rfl,rfl⟩
 | 1,_,_,_,_=>⟨fG rfl,fG rfl,rfl⟩
 | 2,_,_,_,_=>⟨fG rfl,fG rfl,rfl⟩
noncomputable def Px (K:Frag):Sp:=fun vs H Q _=>∃(a:Addr) (ks:List Int) (j:Nat),j<3/\ks.length=3/\vs=[.ref a,.int (j:Nat)]/\SqT K H a (ks.map V.int)/\∀z H',Same H H'->SqT K H' z ((ks.set j 0).map V.int)->Q (.ref z) H'
theorem Xy (F:Df K mg "without" N8 yC f fd)     :Cal P w K mg base 1 "without" yC (Px K):=by
 refine F.cal (F.fn.ok Yh (fun Z H Q E h=> ?_) (fun a0 A outer s H Z Q E hr h=> ?_))
 . obtain⟨a,ks,j,_,_,rfl,_⟩:=h
   rfl
 obtain⟨a,ks,j,hj,hl,rfl,L,k⟩:=h
 refine Bb ⟨_,(Ah (Ar (Al Qv (Al Qv (Fj Ob (Af 0) Gp (Gq (Af 1))) (Aw (Aa Ad Ac))) (Fj Ob (Af 0) (Gq (Al Cg (Af 1) Ad)) Gp)))),?_⟩
 done
 refine⟨a,_,rfl,L,fun z1 H1 s1 h1 p hp=> ?_⟩
 have sp:=Same.upd hp (.tup [V.int 0])
 have M:upd H1 p (.tup [V.int 0]) p=some (.tup [V.int 0]):=Ag
 generalize upd H1 p (.tup [V.int 0])=a1 at sp M
 obtain⟨q,x1,G,rfl⟩:∃q x1 G,ks=[q,x1,G]:=by
  match ks,hl with
  | [q,x1,G],_=>exact⟨q,x1,G,rfl⟩
 obtain⟨O,l2,l3⟩:=Ail hj q x1 G
 refine⟨z1,p,_,_,rfl,rfl,sp.tup h1,.of M,aO (show _+1<=4 from jB O 1) (by decide),fun z2 H2 s2 h2=> ?_⟩
 have J:=(s1.trans sp).trans s2
 refine⟨a,_,rfl,J.tup L,fun z3 H3 U h3=> ?_⟩
 refine⟨z2,z3,_,_,rfl,rfl,U.tup h2,h3,aO (show _<=7 by rw [aL];exact Nat.add_le_add (jB O 1) l2) (by decide),fun z4 H4 s4 W=> ?_⟩
 refine k z4 H4 ((J.trans U).trans s4) ?_
 rw [l3]at W
 exact W
theorem Afb:∀ {j:Nat},j<3->∀ {ks:List Int},Np ks->Np (ks.set j 0)/\c3 (ks.set j 0)=zj j (c3 ks):=by
 intro j G ks h
 obtain⟨a,b,c,rfl,e⟩:=h.ex
 rw [e]
 match j,G with
 | 0,_=>exact⟨⟨rfl,fun x q=>by simp at q;omega⟩,rfl⟩
 | 1,_=>exact⟨⟨rfl,fun x q=>by simp at q;omega⟩,rfl⟩
 | 2,_=>exact⟨⟨rfl,fun x q=>by simp at q;omega⟩,rfl⟩
theorem Anx (G:j<3) {fs:Ft} (np:∀e∈fs,Np e.2.1) {ts:List (List Int × Int)} (e:ts=(fs.filter fun e=>decide (e.2.1.getD j 0=(m:Int))).map fun e=>(e.2.1.set j 0,e.2.2)):cvl ts=wtT j m (cvl (fs.map (·.2))):=by
 subst e
 unfold cvl wtT
 rw [aK,aK,filter_map,aK]
 have J:fs.filter (fun e=>decide (e.2.1.getD j 0=(m:Int)))=fs.filter ((fun e:M3 × Int=>decide (pw3 j e.1=m)) ∘ ((fun e:List Int × Int=>(c3 e.1,e.2)) ∘ fun x=>x.2)):=List.filter_congr fun x q=>by
  have:=Lr G (np x q)
  show decide _=decide (pw3 j (c3 x.2.1)=m)
  rw [<-this]
  exact kK.mpr ⟨fun h=>by omega,fun h=>by omega⟩
 rw [J]
 refine bR fun x q=> ?_
 show(c3 (x.2.1.set j 0),x.2.2)=(zj j (c3 x.2.1),x.2.2)
 rw [(Afb G (np x (bQ.mp q).1)).2]
theorem Af7 (G:j<3) {x y:List Int} (J:x.length=3) (L:y.length=3) (e:x.getD j 0=y.getD j 0) (h:HT.lexLt x y=true):HT.lexLt (x.set j 0) (y.set j 0)=true:=by
 match x,y,J,L with
 | [a,b,c],[a',b',c'],_,_=>
   match j,G with
   | 0,_=>
     have e:a=a':=e
     subst e
     rw [HT.Bu,aI rfl]at h
     show HT.lexLt [0,b,c] [0,b',c']=true
     rw [HT.Bu,aI rfl]
     exact h
   | 1,_=>
     have e:b=b':=e
     subst e
     show HT.lexLt [a,0,c] [a',0,c']=true
     rw [HT.Bu]at h ⊢
     split
     . rename_i z
       rw [aI z,HT.Bu,aI rfl]at h
       rw [HT.Bu,aI rfl]
       exact h
     . rename_i z
       rw [aF z]at h
       exact h
   | 2,_=>
     have e:c=c':=e
     subst e
     show HT.lexLt [a,b,0] [a',b',0]=true
     rw [HT.Bu]at h ⊢
     split
     . rename_i z
       rw [aI z,HT.Bu]at h
       rw [HT.Bu]
       split
       . rename_i q
         rw [aI q,HT.Bu,aI rfl]at h
         cases h
       . rename_i q
         rw [aF q]at h
         exact h
     . rename_i z
       rw [aF z]at h
       exact h
noncomputable def Ja (K:Frag):Sp:=fun vs H Q _=>∃(v:V) (st:Bool) (sa:Fq) (d n j m:Nat),j<3/\vs=[v,.int (j:Nat),.int (m:Nat)]/\Fo K H st v sa d n/\d<=120/\DL j sa m/\∀z H' lo wt,Same H H'->Fo K H' false (.ref z) wt d n->Wt j m sa lo wt->Q (.ref z) H'
theorem R9 (F:Df K mg "weight_of" Hw zR f fd)  (J:mg "tuple"=none)  (G:Cal P w K mg base 1 "without" yC (Px K)):Cal P w K mg base 2 "weight_of" zR (Ja K):=by
 refine F.cal (F.fn.ok S5 (fun U H Q E h=> ?_) (fun a3 A outer s H U Q E hr h=> ?_))
 . obtain⟨v,st,sa,d,n,j,m,_,rfl,_⟩:=h
   rfl
 obtain⟨v,st,sa,d,n,j,m,hj,rfl,hv,hd,dl,k⟩:=h
 obtain⟨a,fs,rfl,W,_,np,es,b,z1,l1⟩:=hv.at
 have a0:=Ey hd l1
 have bd:=hv.bd
 refine Bb ⟨_,(Ah (Ar (Eu Ed rfl J cI (Aa (Br (ts:=zU) (fs:=[(1,"place"),(2,"many")]) rfl (Dy.of (sc:=Ax Hw) (N:=zR) rfl rfl (by decide+kernel)) (Cu (Af 0)) (fun _ _ _=>(Ds K 2 rfl rfl (Ak (Ao 0 (show Nodup (["powers","weight","place","many"]:List Str)by decide+kernel)) (Ak (Ao 1 (show Nodup (["powers","weight","place","many"]:List Str)by decide+kernel)) Bh)))) (fun _ _ _=>(Jc (Av J7 (Bf (Hu K) (Af 0) (Af 2) (fun _ _=>rfl)) (Af 3) (Bl _)))) (fun _ _ _=>(Aw (Aa (Aj G hr (Aa (Af 0) (Aa (Af 2) Ac))) (Aa (Af 1) Ac))))) Ac)))),?_⟩
 done
 refine⟨⟨_,W.it⟩,fun p hp=>Jm (es:=fs) (inj:=fun e=>e.1) (fun e=>decide (e.2.1.getD j 0=(m:Int))) (fun e v H=>Tw K H v (e.2.1.set j 0,e.2.2)) (fun e v H H' h s=>h.mono s) (fun e v H ys zs h hp=> ?_) (aO a0 (by decide)) hp (Hq W.it) ?_ ?_⟩
 . obtain⟨⟨x,y,e1,e2,e3⟩,l⟩:=h
   exact⟨⟨x,y,e1,Vb e2 hp,Vb e3 hp⟩,l⟩
 . intro e H2 R RF O s2 k1 k2
   obtain⟨⟨x,y,eb,L,hy⟩,ln⟩:=(W.al e O).mono s2
   rw [eb]
   refine Dh L ?_
   done
   refine El hy (v:= .int (e.2.1.getD j 0)) (Gf ?_) ?_
   . rw [aZ,aP,aG (by omega)]
     rfl
   try done
   by_cases c:e.2.1.getD j 0=(m:Int)
   . rw [aI (by simpa using c)]
     refine⟨y,e.2.1,j,hj,ln,rfl,hy,fun z H3 s3 h3 p3 a1=> ?_⟩
     have s4:=Same.upd a1 (.tup [V.ref z,V.int e.2.2])
     exact k1 (cD c) _ _ (s3.trans s4) ⟨⟨p3,z,rfl,.of Ag,s4.tup h3⟩,by rw [length_set];exact ln⟩
   . rw [aF (by simpa using c)]
     exact k2 (bZ c) _ (Same.refl _)
 intro H2 U s2 h2 Z a2
 try done
 refine⟨p,_,rfl,.inl ⟨.of h2,fun z hz=> ?_⟩⟩
 have sz:=Same.upd hz (.tup (U.map (·.1)))
 obtain⟨hs,M⟩:∃hs:Ft,hs=U.map fun x=>(x.1,(x.2.2.1.set j 0,x.2.2.2)):=⟨_,rfl⟩
 have e1:hs.map (·.1)=U.map (·.1):=by rw [M,aK];rfl
 have e2:hs.map (·.2)=(fs.filter fun e=>decide (e.2.1.getD j 0=(m:Int))).map fun e=>(e.2.1.set j 0,e.2.2):=by rw [M,<-Z,aK,aK];rfl
 have ec:=Anx hj np e2
 have nz:=Ng W.at.1 W.at.2 (Fb np)
 have hw:=Ahv (Agd nz (by rw [es];exact dl))
 rw [es]at hw
 refine k z _ _ _ (s2.trans sz) ⟨⟨z,hs,rfl,⟨by rw [e1];exact .of Ag,fun e O=> ?_,?_,fun e O=> ?_⟩,(fun w=>absurd w (by decide)),fun e O=> ?_,by rw [ec]⟩,(hw.bd bd).2⟩ hw
 . rw [M]at O
   obtain⟨x,L,rfl⟩:=aD.mp O
   exact(a2 x L).mono sz
 . rw [e2]
   refine bC.mpr ((gE.mp ((bC.mp W.up).filter _)).imp fun {x y} q=> ?_)
   obtain⟨L,hy,lt⟩:=q
   obtain⟨L,cx⟩:=bQ.mp L
   obtain⟨hy,cy⟩:=bQ.mp hy
   exact Af7 hj (np x L).1 (np y hy).1 ((cH cx).trans (cH cy).symm) lt
 . rw [M]at O
   obtain⟨x,L,rfl⟩:=aD.mp O
   have:x.2∈U.map (·.2):=aD.mpr ⟨x,L,rfl⟩
   rw [Z]at this
   exact W.nn x.2 (bQ.mp this).1
 . rw [M]at O
   obtain⟨x,L,rfl⟩:=aD.mp O
   have:x.2∈U.map (·.2):=aD.mpr ⟨x,L,rfl⟩
   rw [Z]at this
   exact(Afb hj (np x.2 (bQ.mp this).1)).1
theorem Mo.ne (h:Mo j s m) (q:0<m):s≠0:=fun z=>by
 have:=h.le 0 (by rw [z];exact DL.zero j)
 omega
noncomputable def Ld (K:Frag):Sp:=fun vs H Q _=>∃(v:V) (st:Bool) (sa:Fq) (d n j:Nat),j<3/\vs=[v,.int (j:Nat)]/\Fo K H st v sa d n/\d<=120/\∀m z H' lo wt,Same H H'->Mo j sa m->Fo K H' false (.ref z) wt d n->Wt j m sa lo wt->Q (.ref z) H'
theorem Xu (F:Df K mg "lead_of" N5 zG f fd)    (q:Cal P w K mg base 2 "weight_of" zR (Ja K)) (G:Cal P w K mg base 1 "most" zG (Jw K)):Cal P w K mg base 3 "lead_of" zG (Ld K):=by
 refine F.cal (F.fn.ok Ye (fun Z H Q E h=> ?_) (fun a0 A outer s H Z Q E J h=> ?_))
 . obtain⟨v,st,L,d,n,j,_,rfl,_⟩:=h
   rfl
 obtain⟨v,st,L,d,n,j,M,rfl,O,U,k⟩:=h
 refine Bb ⟨_,(Ah (Ar (Aj q J (Aa (Af 0) (Aa (Af 1) (Aa (Aj G J (Aa (Af 0) (Aa (Af 1) Ac))) Ac)))))),?_⟩
 done
 refine Ig O U M fun m H1 W mo _ _=> ?_
 exact⟨v,st,L,d,n,j,m,M,rfl,O.mono W,U,mo.dl,fun z H' lo wt s2 h2 w2=>k m z H' lo wt (W.trans s2) mo h2 w2⟩
theorem Lq (h:Afi K a):Fo K H false (.ref a) 1 0 0:=by
 obtain⟨b,c,h1,h2,G⟩:=h
 refine⟨⟨a,[(.ref b,([0,0,0],1))],rfl,⟨h1.sq,fun e q=> ?_,fU _ _,fun e q=> ?_⟩,(fun z=>absurd z (by decide)),fun e q=> ?_,rfl⟩,.one⟩
 . rw [aS.mp q]
   exact⟨⟨b,c,rfl,h2.sq,G.sq⟩,rfl⟩
 . rw [aS.mp q]
   show(1:Int)≠0
   decide
 . rw [aS.mp q]
   exact⟨rfl,fun x J=>by
    have:x=0:=by simpa using J
    omega⟩
noncomputable def Pq (K:Frag):Sp:=fun vs H Q _=>∃(v:V) (st:Bool) (sa:Fq) (d n k:Nat),vs=[v,.int (k:Nat)]/\Fo K H st v sa d n/\k<=20/\k*d<=120/\d<=120/\n<=1000000/\∀z st' H',Same H H'->(0<k->st'=true)->Fo K H' st' z (pwF sa k) (k*d) (k*n)->Q z H'
theorem Xo (F:Df K mg "f_power" Nx yM f fd)  (G:mg "range"=none) (L:mg "ONE"=some (.ref (cA K "ONE"))) (M:Afi K (cA K "ONE")) (q:Cal P w K mg base 2 "f_times" zE (Fy K)):Cal P w K mg base 3 "f_power" yM (Pq K):=by
 refine F.cal (F.fn.ok Jg (fun Z H Q E h=> ?_) (fun a0 A outer s H Z Q E hr h=> ?_))
 . obtain⟨v,st,W,d,n,k,rfl,_⟩:=h
   rfl
 obtain⟨v,st,W,d,n,m,rfl,hv,hm,a1,hd,hn,k⟩:=h
 refine Bb ⟨_,(Ae (Ay 2 Jg.nd (Dq (v:= .ref (cA K "ONE")) rfl L rfl))
  (Ae (Ce bX rfl (Dg rfl G (Aa (Af 1) Ac)) (Ao 3 Jg.nd) (Ah (Ay 2 Jg.nd (Aj q hr (Aa (Af 2) (Aa (Af 0) Ac))))))
  (Ah (Ar (Af 2))))),?_⟩
 done
 refine⟨by omega,by omega,?_⟩
 rw [show((m:Nat):Int).toNat=m from rfl]
 refine Ah4 m (fun i=> .int (0+(i:Nat))) (fun i O H'=>Same H H'/\∃(z:V) (J:Bool) (o:Option V),O=[some v,some (.int (m:Nat)),some z,o]/\(0<i->J=true)/\Fo K H' J z (pwF W i) (i*d) (i*n)) ⟨Same.refl _,_,false,_,rfl,by omega,by rw [Nat.zero_mul,Nat.zero_mul];exact Lq M⟩ ?_ ?_ ?_
 . intro i O H' _
   exact Gu
 . rintro i O H1 hi ⟨U,z,J,o,rfl,h1,h2⟩
   done
   have a2:i*d<=m*d:=bS _ (eR hi)
   have a3:i*n<=20*n:=bS _ (by omega)
   refine Yn h2 (hv.mono U) (by omega) hd (by omega) (by omega) fun z2 H2 s2 h3=> ?_
   refine⟨U.trans s2,_,true,_,rfl,fun _=>rfl,?_⟩
   rw [fK,fK]
   exact h3
 rintro O H1 ⟨U,z,J,o,rfl,h1,h2⟩
 done
 exact k z J H1 U h1 h2
theorem Hl (k j:Key):∀kvs:List (Key × V),Fe (Jp kvs k) j=if j=k then none else Fe kvs j
 | []=>by
   show(none:Option V)=if j=k then none else none
   split<;>rfl
 | p::r=>by
   by_cases c:p.1=k
   . rw [Zr c,Hl k j r]
     by_cases d:j=k
     . rw [aI d,aI d]
     . rw [aF d,aF d,Cd fun z=>d (z.symm.trans c)]
   . rw [Zq c]
     by_cases d:j=k
     . rw [aI d,Cd fun z=>c (z.trans d),Hl k j r,aI d]
     . rw [aF d]
       by_cases z:p.1=j
       . rw [Cw z,Cw z]
       . rw [Cd z,Cd z,Hl k j r,aF d]
structure Rs (kvs:List (Key × V)) (ns:List Int) (T:Int->Int):Prop where
 ky:kvs.map (·.1)=ns.map Sum.inl
 nd:ns.Nodup
 yes:∀k,T k≠0->k∈ns/\Fe kvs (.inl k)=some (.int (T k))
 no:∀k,T k=0->¬k∈ns/\Fe kvs (.inl k)=none
theorem Rs.congr {G:Int->Int} (h:Rs kvs ns T) (e:∀k,T k=G k):Rs kvs ns G:=
 ⟨h.ky,h.nd,fun k q=>by rw [<-e k]at q ⊢;exact h.yes k q,fun k q=>by rw [<-e k]at q;exact h.no k q⟩
theorem Rs.get {kvs:List (Key × V)}{ns:List Int}{T:Int->Int} (h:Rs kvs ns T) (k:Int):(Fe kvs (.inl k)).getD (.int 0)= .int (T k):=by
 by_cases c:T k=0
 . rw [(h.no k c).2,c]
   rfl
 . rw [(h.yes k c).2]
   rfl
theorem Rs.put (h:Rs kvs ns T) (k w:Int) (J:w≠0):∃G,Rs (putK kvs (.inl k) (.int w)) G (fun i=>if i=k then w else T i):=by
 have q:∀i,i≠k->∀x,Fe (putK kvs (.inl k) (.int w)) (.inl i)=x↔Fe kvs (.inl i)=x:=fun i hi x=>by rw [Kh,aF fun z=>hi (fJ z)]
 have L:Fe (putK kvs (.inl k) (.int w)) (.inl k)=some (.int w):=by rw [Kh,aI rfl]
 by_cases c:T k=0
 . obtain⟨m,e⟩:=h.no k c
   refine⟨ns++ [k],by rw [Qz _ e,aJ,aJ,h.ky];rfl,Qs h.nd m,fun i hi=> ?_,fun i hi=> ?_⟩
   . by_cases z:i=k
     . subst z
       rw [aI rfl]
       exact⟨by simp,L⟩
     . rw [aF z]at hi ⊢
       obtain⟨h1,h2⟩:=h.yes i hi
       exact⟨bD _ h1,(q i z _).mpr h2⟩
   . by_cases z:i=k
     . rw [aI z]at hi
       exact absurd hi J
     . rw [aF z]at hi
       obtain⟨h1,h2⟩:=h.no i hi
       refine⟨fun y=> ?_,(q i z _).mpr h2⟩
       rcases bG.mp y with y | y
       . exact h1 y
       . exact z (by simpa using y)
 . obtain⟨m,e⟩:=h.yes k c
   refine⟨ns,by rw [Pb e];exact h.ky,h.nd,fun i hi=> ?_,fun i hi=> ?_⟩
   . by_cases z:i=k
     . subst z
       rw [aI rfl]
       exact⟨m,L⟩
     . rw [aF z]at hi ⊢
       obtain⟨h1,h2⟩:=h.yes i hi
       exact⟨h1,(q i z _).mpr h2⟩
   . by_cases z:i=k
     . rw [aI z]at hi
       exact absurd hi J
     . rw [aF z]at hi
       obtain⟨h1,h2⟩:=h.no i hi
       exact⟨h1,(q i z _).mpr h2⟩
theorem Rs.drop (h:Rs kvs ns T) (k:Int):∃G,Rs (Jp kvs (.inl k)) G (fun i=>if i=k then 0 else T i):=by
 refine⟨ns.filter fun i=>decide (i≠k),?_,h.nd.filter _,fun i hi=> ?_,fun i hi=> ?_⟩
 . have e:=h.ky
   unfold Jp
   clear h
   induction kvs generalizing ns with
   | nil=>
     cases ns with
     | nil=>rfl
     | cons _ _=>cases e
   | cons p r q=>
     cases ns with
     | nil=>cases e
     | cons x xs=>
       rw [aU,aU]at e
       obtain⟨J,L⟩:=kF e
       have q:=q L
       by_cases c:x=k
       . rw [cB (by simp [J,c]),cB (by simp [c]),q]
       . rw [cJ (by simp only [J,decide_eq_true_eq];exact fun z=>c (fJ z)),cJ (by simp [c]),aU,aU,q,J]
 . by_cases z:i=k
   . rw [aI z]at hi
     exact absurd rfl hi
   . rw [aF z]at hi ⊢
     obtain⟨h1,h2⟩:=h.yes i hi
     refine⟨bQ.mpr ⟨h1,by simp [z]⟩,?_⟩
     rw [Hl,aF fun y=>z (fJ y)]
     exact h2
 . by_cases z:i=k
   . refine⟨fun y=>by have:=(bQ.mp y).2;simp [z]at this,?_⟩
     rw [Hl,z,aI rfl]
   . rw [aF z]at hi
     obtain⟨h1,h2⟩:=h.no i hi
     refine⟨fun y=>h1 (bQ.mp y).1,?_⟩
     rw [Hl,aF fun y=>z (fJ y)]
     exact h2
theorem Kf {l:List (Int × Int)}{k:Int} (h:Dt l k≠0):∃e∈l,e.1=k:=by
 induction l with
 | nil=>exact absurd rfl h
 | cons e r q=>
   by_cases c:e.1=k
   . exact⟨e,.head _,c⟩
   . have:Dt r k≠0:=fun z=>h (by
      show(if e.1=k then e.2 else 0)+Dt r k=0
      rw [aF c,z]
      rfl)
     obtain⟨x,G,J⟩:=q this
     exact⟨x,.tail _ G,J⟩
theorem Hj {l:List (Int × Int)}{k:Int} (h:∀e∈l,e.1≠k):Dt l k=0:=by
 by_cases z:Dt l k=0
 . exact z
 . obtain⟨e,q,c⟩:=Kf z
   exact absurd c (h e q)
theorem S8 (x:Int × Int) (k:Int):∀g:List (Int × Int),Dt (Pa x g) (x.1+k)=x.2*Dt g k
 | []=>by show(0:Int)=x.2*0;omega
 | y::r=>by
   show(if x.1+y.1=x.1+k then x.2*y.2 else 0)+Dt (Pa x r) (x.1+k)=x.2*((if y.1=k then y.2 else 0)+Dt r k)
   rw [S8 x k r,Int.mul_add]
   by_cases c:y.1=k
   . rw [aI (by rw [c]),aI c]
   . rw [aF (by omega),aF c,Int.mul_zero]
theorem Aar (x y:Int × Int) (g:List (Int × Int)):Pa x (g++ [y])=Pa x g++ [(x.1+y.1,x.2*y.2)]:=by
 unfold Pa
 rw [aJ]
 rfl
theorem Nr {h g:List (Int × Int)}{z:Int × Int} (q:z∈Et h g):∃x∈h,∃y∈g,z=(x.1+y.1,x.2*y.2):=by
 obtain⟨x,G,q⟩:=gP.mp q
 obtain⟨y,J,e⟩:=aD.mp q
 exact⟨x,G,y,J,e.symm⟩
structure Dv (G:List (Int × Int)) (last lead:Int):Prop where
 is:∃G',G=G'++ [(last,lead)]/\∀e∈G',e.1<last
 nz:∀e∈G,e.2≠0
theorem Dv.le {G:List (Int × Int)}{q J:Int} (h:Dv G q J):∀e∈G,e.1<=q:=by
 obtain⟨M,rfl,b⟩:=h.is
 intro e L
 rcases bG.mp L with L | L
 . exact Int.le_of_lt (b e L)
 . rw [aS.mp L]
   exact Int.le_refl _
theorem Dv.top {G:List (Int × Int)}{q J:Int} (h:Dv G q J) {y:Int × Int}{r:List (Int × Int)} (M:∀x∈r,x.1<y.1):Dt (Et (y::r) G) (y.1+q)=y.2*J:=by
 show Dt (Pa y G++Et r G) _=_
 rw [Ia,S8,Hj (l:=Et r G) fun e L z=> ?_]
 . obtain⟨O,rfl,b⟩:=h.is
   rw [Ia,Hj (l:=O) fun e L z=>by have:=b e L;omega]
   show y.2*(0+((if q=q then J else 0)+0))+0=_
   rw [aI rfl]
   simp
 . obtain⟨x,U,g,W,rfl⟩:=Nr L
   have h1:=M x U
   have h2:=h.le g W
   dsimp only at z
   omega
theorem Dv.up {G:List (Int × Int)}{q J:Int} (h:Dv G q J) {y:Int × Int}{r:List (Int × Int)} (M:∀x∈r,x.1<y.1) {k:Int} (O:Dt (Et (y::r) G) k≠0):k<=y.1+q:=by
 obtain⟨e,U,rfl⟩:=Kf O
 obtain⟨x,L,g,W,rfl⟩:=Nr U
 have h2:=h.le g W
 show x.1+g.1<=_
 rcases aQ.mp L with rfl | L
 . omega
 . have:=M x L
   omega
noncomputable def Tin (y:Int × Int) (r G pre:List (Int × Int)) (k:Int):Int:=Dt (Et (y::r) G) k-Dt (Pa y pre) k
theorem Ame (y:Int × Int) (r G:List (Int × Int)) (k:Int):Tin y r G [] k=Dt (Et (y::r) G) k:=by
 unfold Tin
 show _-0=_
 omega
theorem Afj (y:Int × Int) (r G:List (Int × Int)) (k:Int):Tin y r G G k=Dt (Et r G) k:=by
 unfold Tin
 show Dt (Pa y G++Et r G) k-_=_
 rw [Ia]
 omega
theorem Acr (y g:Int × Int) (r G q:List (Int × Int)) (k:Int):Tin y r G (q++ [g]) k=if k=y.1+g.1 then Tin y r G q k-y.2*g.2 else Tin y r G q k:=by
 unfold Tin
 rw [Aar,Ia]
 show _-(_+((if y.1+g.1=k then y.2*g.2 else 0)+0))=_
 by_cases c:k=y.1+g.1
 . rw [aI c,aI c.symm]
   omega
 . rw [aF c,aF (cS c)]
   omega
theorem Afk {y:Int × Int}{r G q:List (Int × Int)} (hp:∀e∈q,e∈G) {k:Int} (h:Tin y r G q k≠0):∃e∈Et (y::r) G,e.1=k:=by
 by_cases c:Dt (Et (y::r) G) k=0
 . have:Dt (Pa y q) k≠0:=fun z=>h (by unfold Tin;omega)
   obtain⟨e,J,L⟩:=Kf this
   obtain⟨g,M,rfl⟩:=aD.mp J
   exact⟨_,bD _ (aD.mpr ⟨g,hp g M,rfl⟩),L⟩
 . exact Kf c
noncomputable def kkE (B:Nat) (e:M3 × Int):Int × Int:=(((kk B e.1:Nat):Int),e.2)
theorem Agx {ks:List Int} (h:Np ks):pk (B:Int) ks=((kk B (c3 ks):Nat):Int):=by
 obtain⟨i,j,k,rfl,e⟩:=h.ex
 rw [e]
 show((i:Int)*B+j)*B+k=(((i*B+j)*B+k:Nat):Int)
 simp only [Int.natCast_add,Int.natCast_mul]
theorem Aim {l:List (List Int × Int)} (h:∀e∈l,Np e.1):l.map (pkE (B:Int))=(cvl l).map (kkE B):=by
 unfold cvl
 rw [aK]
 refine bR fun e q=> ?_
 show(pk (B:Int) e.1,e.2)=_
 rw [Agx (h e q)]
 rfl
theorem Ve {B:Nat} (k:Nat):∀l:Tl,Dt (l.map (kkE B)) (k:Int)=tk (kk B) l k
 | []=>rfl
 | e::r=>by
   show(if((kk B e.1:Nat):Int)=(k:Int)then e.2 else 0)+Dt (r.map (kkE B)) k=(if kk B e.1=k then e.2 else 0)+tk (kk B) r k
   rw [Ve k r]
   by_cases c:kk B e.1=k
   . rw [aI c,aI (by rw [c])]
   . rw [aF c,aF (by omega)]
theorem Ahr {a b:Tl} (h:fq a=fq b) (k:Int):Dt (a.map (kkE B)) k=Dt (b.map (kkE B)) k:=by
 by_cases c:0<=k
 . obtain⟨n,rfl⟩:=Int.eq_ofNat_of_zero_le c
   rw [Ve,Ve,Anp h]
 . have z:∀l:Tl,Dt (l.map (kkE B)) k=0:=fun l=>Hj fun e q w=>by
    obtain⟨x,G,rfl⟩:=aD.mp q
    have:0<=(kkE B x).1:=Int.natCast_nonneg _
    omega
   rw [z,z]
theorem Wd {B:Nat} (b:Tl):∀a:Tl,(mt a b).map (kkE B)=Et (a.map (kkE B)) (b.map (kkE B))
 | []=>rfl
 | x::r=>by
   show(mt1 x b++mt r b).map (kkE B)=Pa (kkE B x) (b.map (kkE B))++Et (r.map (kkE B)) (b.map (kkE B))
   rw [aJ,Wd b r]
   congr 1
   unfold mt1 Pa
   rw [aK,aK]
   refine bR fun y _=> ?_
   show(((kk B (m3 x.1 y.1):Nat):Int),x.2*y.2)=(((kk B x.1:Nat):Int)+((kk B y.1:Nat):Int),x.2*y.2)
   rw [Af5,Int.natCast_add]
noncomputable def uc3 (x:M3):List Int:=[(x.1:Int),(x.2.1:Int),(x.2.2:Int)]
theorem Ab9 (x:M3):Np (uc3 x):=⟨rfl,fun y q=>by
 have:y=(x.1:Int)\/y=(x.2.1:Int)\/y=(x.2.2:Int):=by simpa [uc3]using q
 omega⟩
theorem Ab8 (x:M3):c3 (uc3 x)=x:=by
 show(toNat (x.1:Int),toNat (x.2.1:Int),toNat (x.2.2:Int))=_
 simp
structure Qt (B:Nat) (F G:List (List Int × Int)) (sh:Fq) (nh:Nat) (h:Tl):Prop where
 eq:fq h=sh
 nz:Nz h
 le:∀e∈h,le3 e.1 (B-1)
 sz:n1 h<=2^nh
 fall:(h.map (kkE B)).Pairwise fun x y=>y.1<x.1
 tot:∀k,Dt (F.map (pkE (B:Int))) k=Dt (Et (h.map (kkE B)) (G.map (pkE (B:Int)))) k
theorem Ana {nh dh:Nat}{F G:List (List Int × Int)}{sg:Fq} (J:∀e∈F,Np e.1) (W:∀e∈G,Np e.1) (Z:Nz (cvl G)) (hB:0<B) (bF:∀e∈F,∀x∈e.1,x<(B:Int)) (ef:fq (cvl F)=sf) (eg:fq (cvl G)=sg) (e:sf=sg*M) (g0:sg≠0) (bd:Bd M dh nh):∃h,Qt B F G M nh h:=by
 obtain⟨l0,e0,b1,b2⟩:=bd
 obtain⟨l,z,el,k,nk⟩:=Aav l0
 have q:M=fq l:=by rw [e0,el]
 have O:∀x∈l,le3 x.1 (B-1):=Ago (l1:=cvl F) Z z (by rw [ef,eg,<-q,e]) (fun c=>g0 (by rw [<-eg,c,G6])) fun x L=>by
  obtain⟨y,U,rfl⟩:=aD.mp L
  obtain⟨i,j,m,e1,e2⟩:=(J y U).ex
  have b:=bF y U
  rw [e1]at b
  have:=b i (by simp)
  have:=b j (by simp)
  have:=b m (by simp)
  show le3 (c3 y.1) (B-1)
  rw [e2]
  unfold le3
  dsimp only
  omega
 have eB:B-1+1=B:=by omega
 obtain⟨h,hz,hp,hf⟩:=Afx (kk B) l z fun x L y U w=>Rz (D:=B-1) (O x L) (O y U) (by rw [eB];exact w)
 have eh:fq h=fq l:=Afy hp
 refine⟨h,eh.trans q.symm,hz,fun x L=>O x (hp.mem_iff.mp L),?_,bC.mpr (hf.imp fun w=> ?_),fun k=> ?_⟩
 . refine aO (eJ ?_) (aO nk b2)
   clear k nk el q O hf eh hz z e0 b1 b2
   induction hp with
   | nil=>rfl
   | cons x _ ih=>show _+n1 _=_+n1 _;rw [ih]
   | swap x y l=>show _+(_+_)=_+(_+_);omega
   | trans _ _ i1 i2=>exact i1.trans i2
 . exact Int.ofNat_lt.mpr w
 . rw [Aim J,Aim W,<-Wd]
   refine Ahr ?_ k
   rw [ef,<-O6,eg,eh,<-q,e,Ot]
theorem Amm {G:List (List Int × Int)} (up:UpT G) (L:∀e∈G,Rg (B:Int) e.1) (M:∀e∈G,e.2≠0) {g:List Int × Int}{G':List (List Int × Int)} (e:G=G'++ [g]):Dv (G.map (pkE (B:Int))) (pk (B:Int) g.1) g.2:=by
 subst e
 refine⟨⟨G'.map (pkE (B:Int)),by rw [aJ];rfl,fun x J=> ?_⟩,fun x J=> ?_⟩
 . obtain⟨y,q,rfl⟩:=aD.mp J
   have h1:=(aX.mp up).2.2 y q g (by simp)
   obtain⟨i,j,k,O,_,U,W⟩:=L y (bD _ q)
   obtain⟨i',j',k',Z,_,h5,h6⟩:=L g (by simp)
   show pk (B:Int) y.1<pk (B:Int) g.1
   rw [O,Z]at h1 ⊢
   rw [Ae3 U W h5 h6]at h1
   exact cH h1
 . obtain⟨y,q,rfl⟩:=aD.mp J
   exact M y q
theorem Rs.of:∀L:List (Int × Int),(L.map (·.1)).Nodup->(∀e∈L,e.2≠0)->Rs (L.map fun e=>((.inl e.1:Key),V.int e.2)) (L.map (·.1)) (Dt L)
 | [],_,_=>⟨rfl,.nil,fun k h=>absurd rfl h,fun k _=>⟨by simp,rfl⟩⟩
 | x::r,nd0,nz=>by
   have J:=cZ.mp nd0
   have M:=Rs.of r J.2 fun e G=>nz e (.tail _ G)
   have O:Dt r x.1=0:=Hj fun e G z=>J.1 (aD.mpr ⟨e,G,z⟩)
   have ex:∀k,Dt (x::r) k=(if x.1=k then x.2 else 0)+Dt r k:=fun _=>rfl
   refine⟨?_,nd0,fun k q=> ?_,fun k q=> ?_⟩
   . rw [aK,aK]
     rfl
   . rw [ex]at q ⊢
     rw [aU,aU]
     by_cases c:x.1=k
     . subst c
       rw [O,aI rfl,fM]
       exact⟨.head _,Cw rfl⟩
     . rw [aF c,eK]at q ⊢
       obtain⟨h1,h2⟩:=M.yes k q
       exact⟨.tail _ h1,by rw [Cd fun z=>c (fJ z)];exact h2⟩
   . rw [ex]at q
     rw [aU,aU]
     by_cases c:x.1=k
     . subst c
       rw [O,aI rfl,fM]at q
       exact absurd q (nz x (.head _))
     . rw [aF c,eK]at q
       obtain⟨h1,h2⟩:=M.no k q
       refine⟨fun z=> ?_,by rw [Cd fun z=>c (fJ z)];exact h2⟩
       rcases aQ.mp z with z | z
       . exact c z.symm
       . exact h1 z
theorem Rs.emp (h:Rs kvs ns T) (e:∀k,T k=0):kvs.length=0:=by
 cases hn:ns with
 | nil=>
   have:=bK length h.ky
   rw [hn]at this
   simpa using this
 | cons x r=>exact absurd (by rw [hn];exact .head _) (h.no x (e x)).1
theorem Rs.len (h:Rs kvs ns T) (b:∀k,T k≠0->0<=k/\k<((3543122:Nat):Int)):kvs.length<sizeLine:=by
 have h2:=bK length h.ky
 rw [aB,aB]at h2
 have:=O5 3543122 ns h.nd fun k q=>b k fun z=>(h.no k z).1 q
 exact cY (show kvs.length<=3543122 by omega) (by decide)
theorem Rs.pos (h:Rs kvs ns T) {k:Int} (e:T k≠0):0<kvs.length/\ns≠ []:=by
 have h1:=(h.yes k e).1
 have h2:=bK length h.ky
 rw [aB,aB]at h2
 have q:=List.length_pos_of_mem h1
 exact⟨by omega,fun z=>by rw [z]at q;exact absurd q (by decide)⟩
theorem Aej {H:Hp}:∀q:List (V × (Int × Int)),(∀e∈q,Pk K H e.1 e.2)->∃ts:List Dpt,ts.map (fun t=>V.ref t.1)=q.map (·.1)/\ts.map dK=(q.map (·.2)).map (fun e=>((.inl e.1:Key),V.int e.2))/\(ts.map fun t=>t.2.1)=q.map (·.2.1)/\∀t∈ts,SqT K H t.1 [.int t.2.1,t.2.2]
 | [],_=>⟨[],rfl,rfl,rfl,by simp⟩
 | e::r,h=>by
   obtain⟨ts,J,L,M,O⟩:=Aej r fun x U=>h x (.tail _ U)
   obtain⟨a,W,Z⟩:=h e (.head _)
   refine⟨(a,e.2.1,.int e.2.2)::ts,?_,?_,?_,fun t G=> ?_⟩
   . rw [aU,aU,J,W]
   . rw [aU,aU,aU,L]
     rfl
   . rw [aU,aU,M]
   . rcases aQ.mp G with rfl | G
     . exact Z
     . exact O t G
structure Fpt (H H':Hp) (d1 d2:Addr) (T:Int->Int) (ts:List (Int × Int)):Prop where
 kp:∀b u,b≠d1->b≠d2->H b=some u->H' b=some u
 i1:∃kvs ns,H' d1=some (.dK kvs)/\Rs kvs ns T
 i2:∃kvs ks,H' d2=some (.dK kvs)/\SuN kvs ks ts
noncomputable def Oc (K:Frag):Sp:=fun vs H Q _=>∃(v u:V) (st:Bool) (sf sg sh:Fq) (d n d' n' dh nh:Nat),vs=[v,u]/\Fo K H true v sf d n/\Fo K H st u sg d' n'/\sf=sg*sh/\sg≠0/\Bd sh dh nh/\d<=120/\d'<=120/\n'<=8000/\nh<=1000000/\∀z H',Same H H'->Fo K H' true (.ref z) sh dh nh->Q (.ref z) H'
theorem Aax (F:Df K mg "f_part" Q0 zE f fd)  (af:mg "dict"=none) (ar:mg "len"=none) (as:mg "max"=none) (ag:mg "ONE"=some (.ref (cA K "ONE"))) (ah:Afi K (cA K "ONE")) (O:Cal P w K mg base 1 "packed" yF (Oh K)) (Z:Cal P w K mg base 1 "unpacked" yH (Jy K)) (J:Cal P w K mg base 1 "greatest_power" ["f"] (Fz K)):Cal P w K mg base 2 "f_part" zE (Oc K):=by
 refine F.cal (F.fn.ok Dn (fun vs H Q E h=> ?_) (fun cg A outer s H vs Q E hr h=> ?_))
 . obtain⟨v,u,st,sf,sg,sh,d,n,d',n',dh,nh,rfl,_⟩:=h
   rfl
 obtain⟨v,u,st,sf,sg,sh,d,n,d',n',dh,nh,rfl,hv,hu,es,g0,bh,hd,bt,ch,ci,k⟩:=h
 refine Bb ⟨_,(Ae (Bp (Av (Jk hr.units) (Af 1) (Dq (v:= .ref (cA K "ONE")) rfl ag rfl) (Bl _)) (Ah (Ar (Af 0))) Bc)
  (Ae (Ay 2 Dn.nd (Al Cg (Aj J hr (Aa (Al Qv (Af 0) (Af 1)) Ac)) Ad))
  (Ae (Ay 3 Dn.nd (Aj O hr (Aa (Af 1) (Aa (Af 2) Ac))))
  (Ae (Ew (Bf Ht (Af 3) (Gj Kg Ad) (fun _ _=>rfl)) (Ca rfl (Ak (Ao 6 Dn.nd) (Ak (Ao 7 Dn.nd) Bh))))
  (Ae (Ay 4 Dn.nd (Eu (W6 rfl) rfl af boot_dict (Aa (Aj O hr (Aa (Af 0) (Aa (Af 2) Ac))) Ac)))
  (Ae (Ay 5 Dn.nd Kq)
  (Ae (Fv bX (Av Aa1 (Bj Yz rfl ar dC (Aa (Af 4) Ac)) Ad (Bl _)) (Ae (Ay 8 Dn.nd (Bj (W7 rfl) rfl as gA (Aa (Af 4) Ac)))
  (Ae (Gs (hu1 hr.units) (Af 5) (Al G7 (Af 8) (Af 6)) (Al Adn (Gn (hu1 hr.units) (Af 4) (Af 8) (fun _ _=>rfl)) (Af 7)) rfl)
  (Ah (Ce bX rfl (Fl (Af 3)) (Ca rfl (Ak (Ao 9 Dn.nd) (Ak (Ao 10 Dn.nd) Bh))) (Ae (Ay 11 Dn.nd (Al G7 (Al Cg (Af 9) (Af 8)) (Af 6)))
  (Ae (Ay 12 Dn.nd (Al G7 (Fg (hu1 hr.units) (Af 4) (Af 11) Ad ⟨rfl,rfl,rfl,rfl⟩) (Al Fx (Gn (hu1 hr.units) (Af 5) (Al G7 (Af 8) (Af 6)) (fun _ _=>rfl)) (Af 10))))
  (Ah (Bp (Av J7 (Af 12) Ad (Bl _)) (Ah (Fp (S.Qw (Af 4) (Af 11) ⟨rfl,rfl,rfl,rfl⟩))) (Ah (Gs (hu1 hr.units) (Af 4) (Af 11) (Af 12) rfl)))))))))))
  (Ah (Ar (Aj Z hr (Aa (Af 5) (Aa (Af 2) Ac)))))))))))),?_⟩
 done
 obtain⟨a,fs,rfl,w1,t1,b5,e1,b1,z1,l1⟩:=hv.at
 obtain⟨c,gs,rfl,w2,t2,ai,e2,b2,z2,l2⟩:=hu.at
 have cj:=Ey hd l1
 have ck:=Ey bt l2
 refine Ma hu (Lq ah) (fun e=> ?_) (fun e=> ?_)
 . try done
   refine k a H (Same.refl _) ⟨?_,bh⟩
   obtain⟨x,_⟩:=hv
   rw [show sh=sf by rw [es,e];grind]
   exact x
 try done
 clear e
 refine⟨a,c,_,_,rfl,rfl,w1.it,w2.it,?_,fun z3 H1 s1 h1=> ?_⟩
 . rw [aB,aB]
   exact aO (show _<=3543122 by omega) (by decide)
 rw [<-aJ]at h1
 refine⟨z3,fs++gs,rfl,⟨h1,fun e G=> ?_⟩,by rw [aL];omega,fun M H2 s2 gM=> ?_⟩
 . rcases bG.mp G with G | G
   . exact(w1.al e G).mono s1
   . exact(w2.al e G).mono s1
 have bM:=gM.bd fun e G x hx=>by
  rcases bG.mp G with G | G
  . have:=b1 e G x hx;omega
  . have:=b2 e G x hx;omega
 obtain⟨B,hB,bu⟩:∃B:Nat,M+1=(B:Int)/\0<B:=⟨(M+1).toNat,by omega,by omega⟩
 try done
 rw [hB]
 have b6:=s1.trans s2
 refine⟨c,gs,B,rfl,w2.mono b6,by omega,by omega,by omega,fun e G x hx=>by have:=b2 e G x hx;omega,fun o H3 go s3 ho ao eo=> ?_⟩
 have b7:gs≠ []:=fun z=>g0 (by rw [<-e2];exact(Uc w2 ai).mpr z)
 obtain⟨au,x,aj⟩:∃au x,gs=au++ [x]:=⟨gs.dropLast,gs.getLast b7,(jG b7).symm⟩
 obtain⟨GI,a9⟩:∃GI,GI=(gs.map (·.2)).map (pkE (B:Int)):=⟨_,rfl⟩
 have a0:go.map (·.2)=GI:=by
  rw [eo,a9,aK]
  rfl
 obtain⟨b8,y,ak⟩:∃b8 y,go=b8++ [y]:=by
  have:go≠ []:=fun z=>by
   rw [a9,aj,z]at a0
   have:=bK length a0
   simp at this
  exact⟨go.dropLast,go.getLast this,(jG this).symm⟩
 have ey:y.2=pkE (B:Int) x.2:=by
  rw [ak,a9,aj,aJ,aJ,aJ]at a0
  have:=(List.append_inj' a0 rfl).2
  exact(kF this).1
 have b9:∀e∈gs.map (·.2),Rg (B:Int) e.1:=fun e G=>by
  obtain⟨t,ht,rfl⟩:=aD.mp G
  have h0:=gM.le t (bI _ ht)
  have h2:=b2 t ht
  obtain⟨i,j,m,e3,_⟩:=(ai t ht).ex
  rw [e3]at h0 h2
  have:=h0 (i:Int) (by simp)
  have:=h0 (j:Int) (by simp)
  have:=h0 (m:Int) (by simp)
  exact⟨(i:Int),j,m,e3,by omega,by omega,by omega⟩
 have dv:Dv GI y.2.1 y.2.2:=by
  rw [a9,ey]
  refine Amm w2.at.1 b9 w2.at.2 (G':=au.map (·.2)) (g:=x.2) ?_
  rw [aj,aJ]
  rfl
 obtain⟨h,qt⟩:=Ana (Fb b5) (Fb ai) (Ng w2.at.1 w2.at.2 (Fb ai)) bu (B:=B) (fun e G x hx=>by
  obtain⟨t,ht,rfl⟩:=aD.mp G
  have:=gM.le t (bD _ ht) x hx
  omega) e1 e2 es g0 bh
 have ba:∀e∈h,Rg (B:Int) (uc3 e.1):=fun e G=>by
  have:=qt.le e G
  unfold le3 at this
  exact⟨_,_,_,rfl,by omega,by omega,by omega⟩
 have bB:∀ {x:List Int},Rg (B:Int) x->0<=pk (B:Int) x/\pk (B:Int) x<((1771561:Nat):Int):=fun {x} r=>by
  have h1:=Ae2 (D:=B) (x:=x) (by obtain⟨i,j,m,e,_⟩:=r;rw [e];rfl) fun y hy=>by
   obtain⟨i,j,m,e,_,_,_⟩:=r
   rw [e]at hy
   have:y=i\/y=j\/y=m:=by simpa using hy
   omega
  have h2:B*B*B<=121*121*121:=fS (fS (by omega) (by omega)) (by omega)
  omega
 have bb:∀e∈h.map (kkE B),0<=e.1/\e.1<((1771561:Nat):Int):=fun e G=>by
  obtain⟨e0,aa,rfl⟩:=aD.mp G
  have:=bB (ba e0 aa)
  rw [Agx (Ab9 _),Ab8]at this
  exact this
 have bv:∀e∈GI,0<=e.1/\e.1<((1771561:Nat):Int):=fun e G=>by
  rw [a9]at G
  obtain⟨e0,aa,rfl⟩:=aD.mp G
  exact bB (b9 e0 aa)
 have av:=qt.tot
 rw [<-a9]at av
 refine Li (v:=y.1) (.of ho) (by rw [ak,aJ];exact Ml _ _) ?_
 obtain⟨py,bw,bx⟩:=ao y (by rw [ak];simp)
 rw [bw]
 refine Dh bx ?_
 done
 have bc:=b6.trans s3
 refine⟨a,fs,B,rfl,w1.mono bc,by omega,by omega,by omega,fun e G x hx=>by have:=b1 e G x hx;omega,fun l H4 gl s4 hl al el=> ?_⟩
 obtain⟨ts,bz,c0,c1,c2⟩:=Aej gl al
 obtain⟨FI,am⟩:∃FI,FI=(fs.map (·.2)).map (pkE (B:Int)):=⟨_,rfl⟩
 have be:gl.map (·.2)=FI:=by
  rw [el,am,aK]
  rfl
 have bf:∀e∈fs.map (·.2),Rg (B:Int) e.1:=fun e G=>by
  obtain⟨t,ht,rfl⟩:=aD.mp G
  have h0:=gM.le t (bD _ ht)
  have h2:=b1 t ht
  obtain⟨i,j,m,e3,_⟩:=(b5 t ht).ex
  rw [e3]at h0 h2
  have:=h0 (i:Int) (by simp)
  have:=h0 (j:Int) (by simp)
  have:=h0 (m:Int) (by simp)
  exact⟨(i:Int),j,m,e3,by omega,by omega,by omega⟩
 have aw:(FI.map (·.1)).Nodup:=by
  rw [am,aK]
  refine bC.mpr ((gE.mp (bC.mp (Ws w1.at.1))).imp fun {x y} z e=> ?_)
  exact z.2.2 ((bf x z.1).inj (bf y z.2.1) e)
 have c4:∀e∈FI,e.2≠0:=fun e G=>by
  rw [am]at G
  obtain⟨t,ht,rfl⟩:=aD.mp G
  exact w1.at.2 t ht
 have bg:=Rs.of FI aw c4
 rw [<-am]at av
 refine⟨l,ts,rfl,by rw [bz];exact hl,c2,by rw [c1];rw [<-be,aK]at aw;exact aw,fun d1 bi=> ?_⟩
 rw [c0,be]
 try done
 intro W a2
 have ax:=bc.trans s4
 obtain⟨a3,bj⟩:∃a3,a3=FI.map fun e=>((.inl e.1:Key),V.int e.2):=⟨_,rfl⟩
 rw [<-bj]at bg a2 ⊢
 have s5:=Same.upd bi (.dK a3)
 have s6:=Same.upd a2 (.dK [])
 have a7:W≠d1:=fun z=>by rw [z,Ag]at a2;cases a2
 have g1:upd (upd H4 d1 (.dK a3)) W (.dK []) d1=some (.dK a3):=by rw [Bm (cS a7),Ag]
 have g2:upd (upd H4 d1 (.dK a3)) W (.dK []) W=some (.dK []):=Ag
 have an:=s5.trans s6
 have nd2:H4 W=none:=by
  cases e:H4 W with
  | none=>rfl
  | some u=>rw [s5 _ _ e]at a2;cases a2
 generalize upd (upd H4 d1 (.dK a3)) W (.dK [])=H6 at g1 g2 an
 clear s5 s6 a2
 have bl:=an _ _ (s4 _ _ ho)
 have ac:∀ {b u},H4 b=some u->b≠d1/\b≠W:=fun e=>⟨Bg e bi,Bg e nd2⟩
 refine Oo (fun m a4 H'=>∃(dn rs:List (Int × Int)) (o8 o9 a5 a6 o12:Option V),a4=[some (.ref a),some (.ref c),some (.int B),some (.ref o),some (.ref d1),some (.ref W),some (.int y.2.1),some (.int y.2.2),o8,o9,a5,a6,o12]/\h.map (kkE B)=dn++rs/\m=rs.length/\Fpt H6 H' d1 W (Dt (Et rs GI)) dn) _ ⟨[],_,_,_,_,_,_,rfl,rfl,rfl,⟨fun _ _ _ _ e=>e,⟨_,_,g1,bg.congr av⟩,_,[],g2,⟨rfl,.nil,aH _,by simp,fun _=> .inr ⟨rfl,rfl,by simp⟩⟩⟩⟩ ?_
 rintro m a4 H7 ⟨dn,rs,o8,o9,a5,a6,o12,rfl,eh,rfl,fp⟩
 obtain⟨ap,c5,i1,r1⟩:=fp.i1
 done
 refine⟨d1,ap,rfl,i1,?_⟩
 try done
 have sH:Same H H7:=fun b u e=>fp.kp b u (ac (ax _ _ e)).1 (ac (ax _ _ e)).2 (an _ _ (ax _ _ e))
 cases rs with
 | nil=>
   rw [r1.emp fun k=>rfl,aF (by decide)]
   obtain⟨a8,ay,i2,su⟩:=fp.i2
   rw [cP]at eh
   rw [<-eh]at su
   have eP:(h.map fun e=>(uc3 e.1,e.2)).map (fun e=>(pk (B:Int) e.1,e.2))=h.map (kkE B):=by
    rw [aK]
    refine bR fun e _=> ?_
    show(pk (B:Int) (uc3 e.1),e.2)=_
    rw [Agx (Ab9 _),Ab8]
    rfl
   refine⟨W,B,a8,ay,h.map fun e=>(uc3 e.1,e.2),rfl,i2,by omega,by omega,fun e G=> ?_,by rw [eP];exact su,fun z H8 hs s8 fr et=> ?_⟩
   . obtain⟨e0,aa,rfl⟩:=aD.mp G
     exact ba e0 aa
   have nl:∀e∈h.map fun e=>(uc3 e.1,e.2),Np e.1:=fun e G=>by
    obtain⟨e0,aa,rfl⟩:=aD.mp G
    exact Ab9 _
   refine k z H8 (sH.trans s8) (.of fr (Xm fr.weak nl et) nl et ?_ bh)
   rw [<-qt.eq]
   congr 1
   unfold cvl
   rw [aK]
   refine(bR fun e _=> ?_).trans (map_id h)
   show(c3 (uc3 e.1),e.2)=e
   rw [Ab8]
 | cons q r=>
   have aq:=qt.fall
   rw [eh]at aq
   obtain⟨_,c6,bm⟩:=aX.mp aq
   have bn:∀x∈r,x.1<q.1:=(cQ.mp c6).1
   obtain⟨q0,bo,bp⟩:∃q0∈h,kkE B q0=q:=aD.mp (by rw [eh];simp)
   have q2:q.2≠0:=by rw [<-bp];exact qt.nz.nn q0 bo
   have zq:Sz (nh+1) q.2:=by
    rw [<-bp]
    have h1:=Ab0 q0.1 h
    rw [qt.nz.at q0 bo]at h1
    have h2:=qt.sz
    show q0.2.natAbs<2^(nh+1)
    have:=Nat.two_pow_pos nh
    rw [iG]
    omega
   have U:y.2.2≠0:=dv.nz y.2 (by rw [<-a0,ak];simp)
   have hT:=dv.top bn
   have az:Dt (Et (q::r) GI) (q.1+y.2.1)≠0:=by rw [hT];exact lB q2 U
   have rp:=r1.pos az
   rw [aI (by omega)]
   refine Ach ?_
   done
   refine⟨d1,ap,c5,rfl,i1,r1.ky,rp.2,fun M' hM bq=> ?_⟩
   have eM:M'=q.1+y.2.1:=Int.le_antisymm (dv.up bn fun z=>(r1.no M' z).1 hM) (bq _ (r1.yes _ az).1)
   subst eM
   try done
   have b0:Sz (n'+1) y.2.2:=by
    rw [ey]
    exact z2 x (by rw [aj];simp)
   refine⟨d1,_,rfl,Afs i1 (r1.yes _ az).2,?_⟩
   rw [hT,show q.1+y.2.1-y.2.1=q.1 by omega]
   refine⟨_,_,rfl,rfl,⟨U,(b0.mono (show n'+1<=8001 by omega)).log2 U (by decide)⟩,?_⟩
   try done
   rw [Int.mul_fdiv_cancel _ U]
   obtain⟨a8,ay,i2,su⟩:=fp.i2
   obtain⟨cl,ab⟩:=su.put q.1 q.2
   rw [Hj (l:=dn) fun e G z=>by have:=bm e G q (by simp);omega,eK]at ab
   have n6:o≠d1/\o≠W:=ac (s4 _ _ ho)
   have br:∀b u,b≠d1->b≠W->H6 b=some u->upd H7 W (.dK (putK a8 (.inl q.1) (.int q.2))) b=some u:=fun b u h1 h2 e=>by
    rw [Bm h2]
    exact fp.kp b u h1 h2 e
   refine⟨W,_,rfl,Ac3 i2 ?_,⟨_,.of (br _ _ n6.1 n6.2 bl)⟩,Oq (es:=go) (inj:=(·.1)) (fun a1 a4 H'=>∃(o9 a5 a6 o12:Option V),a4=[some (.ref a),some (.ref c),some (.int B),some (.ref o),some (.ref d1),some (.ref W),some (.int y.2.1),some (.int y.2.2),some (.int (q.1+y.2.1)),o9,a5,a6,o12]/\Fpt H6 H' d1 W (Tin q r GI (a1.map (·.2))) (dn++ [q])) ⟨_,_,_,_,rfl,br,⟨_,_,by rw [Bm (cS a7)];exact i1,r1.congr fun k=>(Ame q r GI k).symm⟩,_,_,Ag,ab⟩ ?_ ?_ ?_⟩
   . have h1:=bK length su.ky
     rw [aB,aB]at h1
     have h2:=O5 1771561 ay su.nd fun x hx=>by
      obtain⟨y,hy,rfl⟩:=su.mem x hx
      exact bb y (by rw [eh];exact bD _ hy)
     exact cY (show a8.length<=1771561 by omega) (by decide)
   . rintro a1 a4 H8 ⟨o9,a5,a6,o12,rfl,L⟩
     exact Ho (.of (L.kp _ _ n6.1 n6.2 bl))
   . rintro a1 g ce a4 H8 hE ⟨o9,a5,a6,o12,rfl,L⟩
     have hg:g∈go:=by rw [hE];simp
     have c7:Same H4 H8:=fun b u e=>L.kp b u (ac e).1 (ac e).2 (an _ _ e)
     obtain⟨pg,c8,c9⟩:=((ao g hg).mono s4).mono c7
     obtain⟨kv,ns,ad,ae⟩:=L.i1
     obtain⟨kw,ks,b3,ab⟩:=L.i2
     rw [c8]
     refine Dh c9 ?_
     done
     rw [show q.1+y.2.1-y.2.1=q.1 by omega,show g.2.1+(q.1+y.2.1)-y.2.1=q.1+g.2.1 by omega]
     refine⟨.inl ⟨kv,.inl ad⟩,_,Aft ad,?_⟩
     rw [ae.get]
     try done
     have tq:Dt (dn++ [q]) q.1=q.2:=by
      rw [Ia,Hj (l:=dn) fun e G z=>by have:=bm e G q (by simp);omega]
      show 0+((if q.1=q.1 then q.2 else 0)+0)=_
      rw [aI rfl]
      omega
     have vq:Fe kw (.inl q.1)=some (.int q.2):=by
      rcases ab.vl q.1 with⟨e,_⟩ | ⟨_,e,_⟩
      . rw [e,tq]
      . exact absurd (tq.symm.trans e) q2
     have zg:Sz (n'+1) g.2.2:=by
      have:g.2∈go.map (·.2):=aD.mpr ⟨g,hg,rfl⟩
      rw [eo]at this
      obtain⟨t,ht,et⟩:=aD.mp this
      rw [<-et]
      exact z2 t ht
     refine⟨W,_,rfl,Afs b3 vq,⟨_,_,rfl,rfl,zq.mulOk zg (by omega),?_⟩⟩
     have ts:=fun k=>Acr q g.2 r GI (a1.map (·.2)) k
     rw [aJ]
     try done
     by_cases w0:Tin q r GI (a1.map (·.2)) (q.1+g.2.1)-q.2*g.2.2=0
     . rw [aI (by simpa using w0)]
       have g2:g.2.2≠0:=dv.nz g.2 (by rw [<-a0];exact aD.mpr ⟨g,hg,rfl⟩)
       have ca:Tin q r GI (a1.map (·.2)) (q.1+g.2.1)≠0:=fun z=>lB q2 g2 (by omega)
       obtain⟨b4,rd⟩:=ae.drop (q.1+g.2.1)
       refine⟨.inl ⟨kv,.inl ad⟩,kv,.inl (q.1+g.2.1),_,ad,rfl,(ae.yes _ ca).2,_,_,_,_,rfl,⟨fun b u h1 h2 e=>by rw [Bm h1];exact L.kp b u h1 h2 e,⟨_,b4,Ag,rd.congr fun k=> ?_⟩,kw,ks,by rw [Bm a7];exact b3,ab⟩⟩
       show _=Tin q r GI (a1.map (·.2)++ [g.2]) k
       rw [ts]
       by_cases c:k=q.1+g.2.1
       . rw [aI c,aI c,c,w0]
       . rw [aF c,aF c]
     . rw [aF (by simpa using w0)]
       obtain⟨b4,rd⟩:=ae.put (q.1+g.2.1) _ w0
       refine⟨d1,_,rfl,Ac3 ad (ae.len fun k hk=> ?_),_,_,_,_,rfl,⟨fun b u h1 h2 e=>by rw [Bm h1];exact L.kp b u h1 h2 e,⟨_,b4,Ag,rd.congr fun k=> ?_⟩,kw,ks,by rw [Bm a7];exact b3,ab⟩⟩
       . obtain⟨e,G,rfl⟩:=Afk (fun e G=>by
          rw [<-a0,hE,aJ]
          exact bD _ G) hk
         obtain⟨e1,cb,e2,cc,rfl⟩:=Nr G
         have:=bb e1 (by rw [eh];exact bI _ cb)
         have:=bv e2 cc
         show 0<=e1.1+e2.1/\e1.1+e2.1<_
         omega
       . show _=Tin q r GI (a1.map (·.2)++ [g.2]) k
         rw [ts]
         by_cases c:k=q.1+g.2.1
         . rw [aI c,aI c,c]
         . rw [aF c,aF c]
   . rintro a4 H8 ⟨o9,a5,a6,o12,rfl,L⟩
     refine⟨r.length,by simp,dn++ [q],r,_,_,_,_,_,rfl,by rw [eh];simp,rfl,L.kp,?_,L.i2⟩
     obtain⟨kv,ns,h1,h2⟩:=L.i1
     exact⟨kv,ns,h1,h2.congr fun k=>by rw [a0,Afj]⟩
theorem An3 {b z:Addr} (h1:SqT K H p [.ref b]) (h2:SqT K H b [.ref z,.int 1]) (G:SqT K H z ((pwI j m).map V.int)):Fo K H false (.ref p) (Yj j m) m 0:=by
 refine⟨⟨p,[(.ref b,(pwI j m,1))],rfl,⟨h1,fun e q=> ?_,fU _ _,fun e q=> ?_⟩,(fun z=>absurd z (by decide)),fun e q=> ?_,?_⟩,W3 j m⟩
 . rw [aS.mp q]
   exact⟨⟨b,z,rfl,h2,G⟩,(Afa m j).1⟩
 . rw [aS.mp q]
   show(1:Int)≠0
   decide
 . rw [aS.mp q]
   exact Afa m j
 . show fq [(c3 (pwI j m),1)]=_
   rw [Akd]
   rfl
structure Pdi (K:Frag) (H H':Hp) (x y t:V) (j m m' i A C:Nat) (sf sg lead:Fq) (L:Nat):Prop where
 sm:Same H H'
 fo:∃sc q r,Fo K H' false x sc A C/\Fo K H' true y q A C/\Fo K H' true t r A C/\DL j r (m-i)/\∀r' sc' q',PD j sg lead m' (L-i) r sc q r' sc' q'->PD j sg lead m' L sf 1 0 r' sc' q'
noncomputable def Od (K:Frag):Sp:=fun vs H Q _=>∃(v u:V) (sf sg:Fq) (D N j m m':Nat),j<3/\vs=[v,u,.int (j:Nat)]/\Fo K H true v sf D N/\Fo K H true u sg D N/\D<=20/\N<=100000/\Mo j sf m/\Mo j sg m'/\0<m'/\m'<=m/\m<=m'+2/\
 ∀z x y t H' lo lead r sc q,Same H H'->SqT K H' z [x,y,t]->Wt j m' sg lo lead->PD j sg lead m' (m-m'+1) sf 1 0 r sc q->Fo K H' false x sc (4*(D+2)) (4*(N+2))->Fo K H' true y q (4*(D+2)) (4*(N+2))->Fo K H' true t r (4*(D+2)) (4*(N+2))->Q (.ref z) H'
theorem Ur (F:Df K mg "f_parted" K3 zN f fd)  (a3:mg "range"=none) (a7:mg "ONE"=some (.ref (cA K "ONE"))) (a8:Afi K (cA K "ONE")) (Z:Cal P w K mg base 3 "lead_of" zG (Ld K)) (M:Cal P w K mg base 2 "weight_of" zR (Ja K)) (G:Cal P w K mg base 2 "f_times" zE (Fy K)) (a2:Cal P w K mg base 2 "f_plus" zE (Iw K)) (a0:Cal P w K mg base 3 "f_minus" zE (Hi K)) (O:Cal P w K mg base 1 "most" zG (Jw K)) (J:Cal P w K mg base 1 "name_power" yA (Kd K)):Cal P w K mg base 4 "f_parted" zN (Od K):=by
 refine F.cal (F.fn.ok Cp (fun vs H Q E h=> ?_) (fun b6 A outer s H vs Q E hr h=> ?_))
 . obtain⟨v,u,sf,sg,D,N,j,m,m',_,rfl,_⟩:=h
   rfl
 obtain⟨v,u,sf,sg,D,N,j,m,m',hj,rfl,hv,hu,hD,hN,mf,mg,m0,ml,mu,k⟩:=h
 refine Bb ⟨_,(Ae (Ay 3 Cp.nd (Aj Z hr (Aa (Af 1) (Aa (Af 2) Ac))))
  (Ae (Ay 4 Cp.nd (Dq (v:= .ref (cA K "ONE")) rfl a7 rfl))
  (Ae (Ay 5 Cp.nd (Aw Ac))
  (Ae (Ay 6 Cp.nd (Af 0))
  (Ae (Ce bX rfl (Wz rfl a3 (Aa (Al G7 (Aj O hr (Aa (Af 0) (Aa (Af 2) Ac))) (Aj O hr (Aa (Af 1) (Aa (Af 2) Ac)))) (Aa (Gj Kg Ad) (Aa (Gj Kg Ad) Ac)))) (Ao 7 Cp.nd) (Ae (Ay 8 Cp.nd (Aj M hr (Aa (Af 6) (Aa (Af 2) (Aa (Al Cg (Af 7) (Aj O hr (Aa (Af 1) (Aa (Af 2) Ac)))) Ac)))))
  (Ae (Ay 9 Cp.nd (Aj G hr (Aa (Af 8) (Aa (Aw (Aa (Aw (Aa (Aj J hr (Aa (Af 2) (Aa (Af 7) Ac))) (Aa Ad Ac))) Ac)) Ac))))
  (Ae (Ay 4 Cp.nd (Aj G hr (Aa (Af 4) (Aa (Af 3) Ac))))
  (Ae (Ay 5 Cp.nd (Aj a2 hr (Aa (Aj G hr (Aa (Af 5) (Aa (Af 3) Ac))) (Aa (Af 9) Ac))))
  (Ah (Ay 6 Cp.nd (Aj a0 hr (Aa (Aj G hr (Aa (Af 6) (Aa (Af 3) Ac))) (Aa (Aj G hr (Aa (Af 9) (Aa (Af 1) Ac))) Ac))))))))))
  (Ah (Ar (Aw (Aa (Af 4) (Aa (Af 5) (Aa (Af 6) Ac))))))))))),?_⟩
 done
 refine⟨u,true,sg,D,N,j,hj,rfl,hu,by omega,fun m2 zl H1 lo ae s1 ar hl hw=> ?_⟩
 obtain rfl:=ar.uniq mg
 try done
 refine⟨by decide,fun p hp=> ?_⟩
 have s2:=Same.upd hp (.tup [])
 have g2:upd H1 p (.tup []) p=some (.tup []):=Ag
 generalize upd H1 p (.tup [])=H2 at s2 g2
 have ag:=s1.trans s2
 refine Ig (hv.mono ag) (by omega) hj fun a1 H3 s3 as _ _=> ?_
 obtain rfl:=as.uniq mf
 refine Ig (hu.mono (ag.trans s3)) (by omega) hj fun U H4 s4 au _ _=> ?_
 obtain rfl:=au.uniq mg
 try done
 have a9:=(ag.trans s3).trans s4
 obtain⟨L,hL⟩:∃L,L=a1-U+1:=⟨_,rfl⟩
 have en:((a1:Int)-(U:Int)- -1).toNat=L:=by omega
 obtain⟨A,hA⟩:∃A:Nat->Nat,A=fun i=>(i+1)*(D+2):=⟨_,rfl⟩
 obtain⟨C,hC⟩:∃C:Nat->Nat,C=fun i=>(i+1)*(N+2):=⟨_,rfl⟩
 have A1:∀i,A (i+1)=A i+(D+2):=fun i=>by rw [hA];exact fK (i+1) (D+2)
 have C1:∀i,C (i+1)=C i+(N+2):=fun i=>by rw [hC];exact fK (i+1) (N+2)
 have Ab:∀i,i<=3->A i<=4*(D+2):=fun i hi=>by rw [hA];exact bS _ (by omega)
 have Cb:∀i,i<=3->C i<=4*(N+2):=fun i hi=>by rw [hC];exact bS _ (by omega)
 have A0:D+2<=A 0:=by rw [hA];show _<=(0+1)*(D+2);omega
 have C0:N+2<=C 0:=by rw [hC];show _<=(0+1)*(N+2);omega
 have Am:∀i,A 0<=A i:=fun i=>by rw [hA];exact bS _ (by omega)
 have Cm:∀i,C 0<=C i:=fun i=>by rw [hC];exact bS _ (by omega)
 obtain⟨tl,al⟩:∃e,U=e+1:=⟨U-1,by omega⟩
 refine⟨⟨by omega,by omega,by decide,by decide⟩,?_⟩
 refine Ah4 L (fun i=> .int ((a1:Int)-(U:Int)-(i:Nat))) (fun i aa H'=>∃(x y t:V) (o7 o8 o9:Option V),aa=[some v,some u,some (.int (j:Nat)),some (.ref zl),some x,some y,some t,o7,o8,o9]/\Pdi K H4 H' x y t j a1 U i (A i) (C i) sf sg ae L) ?_ ?_ ?_ ?_
 . refine⟨_,_,_,_,_,_,rfl,Same.refl _,1,0,sf,(Lq a8).up (by omega) (bO _),((Ei (.of g2)).mono (s3.trans s4)).up (bO _) (bO _),(hv.mono a9).up (by omega) (by omega),mf.dl,fun r' am q' h=>h⟩
 . intro i aa H' _
   rw [en]
   exact Acg
 . rintro i aa H5 hi ⟨x,y,t,o7,o8,o9,rfl,s5,sc,q,r,fx,fy,ft,dl,nx⟩
   obtain⟨c,hc⟩:∃c:Nat,c=a1-U-i:=⟨_,rfl⟩
   have pj:(a1:Int)-(U:Int)-(i:Nat)=(c:Int):=by omega
   rw [Acj,pj]
   simp only [List.set_cons_succ,List.set_cons_zero]
   have Ai:=Ab i (by omega)
   have Ci:=Cb i (by omega)
   have b7:=A1 i
   have b8:=C1 i
   have b9:=Am i
   have ba:=Cm i
   have av:=a9.trans s5
   done
   refine Ig (hu.mono av) (by omega) hj fun aw H6 s6 ax _ _=> ?_
   obtain rfl:=ax.uniq mg
   try done
   refine⟨t,true,r,A i,C i,j,c+aw,hj,by rw [Int.natCast_add],ft.mono s6,by omega,dl.mono (by omega),fun z7 H7 lo top s7 f7 w7=> ?_⟩
   try done
   refine⟨j,c,hj,rfl,fun z8 H8 s8 n8 g8 p9 an ah af=> ?_⟩
   have s9:=Same.upd an (.tup [.ref z8,.int 1])
   have ab:=Same.upd af (.tup [.ref p9])
   have ao:Fo K (upd (upd H8 p9 (.tup [.ref z8,.int 1])) ah (.tup [.ref p9])) false (.ref ah) (Yj j c) c 0:=An3 (.of Ag) (ab.tup (.of Ag)) ((s9.trans ab).tup (.of g8))
   have ai:=s8.trans (s9.trans ab)
   generalize upd (upd H8 p9 (.tup [.ref z8,.int 1])) ah (.tup [.ref p9])=bb at ao ai
   clear s9 ab af an g8 n8 s8
   have t6:=(s6.trans s7).trans ai
   have fl:=(hl.mono (s2.trans ((s3.trans s4).trans (s5.trans t6)))).up (show D<=D+2 by omega) (aH N)
   refine Yn (f7.mono ai) ao (by omega) (by omega) (by omega) (by omega) fun bc be a4 ap=> ?_
   refine Yn (fx.mono (t6.trans a4)) (fl.mono a4) (by omega) (by omega) (by omega) (by omega) fun bf bg W ay=> ?_
   have aq:=(t6.trans a4).trans W
   refine Yn (fy.mono aq) (fl.mono (a4.trans W)) (by omega) (by omega) (by omega) (by omega) fun bh bi a5 az=> ?_
   refine Anu (az.up (show _<=A i+(D+2)by omega) (show _<=C i+N by omega)) ((ap.mono (W.trans a5)).up (show _<=A i+(D+2)by omega) (show _<=C i+N by omega)) (by omega) fun bj bl ac b0=> ?_
   have aj:=(aq.trans a5).trans ac
   refine Yn (ft.mono aj) (fl.mono (((a4.trans W).trans a5).trans ac)) (by omega) (by omega) (by omega) (by omega) fun bm bn a6 b1=> ?_
   refine Yn (ap.mono (((W.trans a5).trans ac).trans a6)) (hu.mono (a9.trans (s5.trans (aj.trans a6)))) (by omega) (by omega) (by omega) (by omega) fun bo bp ad b2=> ?_
   refine Ant ((b1.mono ad).up (show _<=A i+(D+2)by omega) (show _<=C i+N by omega)) (b2.up (show _<=A i+(D+2)by omega) (show _<=C i+N by omega)) (by omega) (by omega) fun bq br ak b3=> ?_
   have b4:=((aj.trans a6).trans ad).trans ak
   refine⟨_,_,_,_,_,_,rfl,s5.trans b4,_,_,_,((ay.wk.mono ((((a5.trans ac).trans a6).trans ad).trans ak)).up (by omega) (by omega)),((b0.mono ((a6.trans ad).trans ak)).up (by omega) (by omega)),(b3.up (by omega) (by omega)),?_,fun r' am q' h=>nx r' am q' ?_⟩
   . have:=Ab2 (k:=c) (by rw [<-al];exact hw) (by rw [<-al,jM];exact w7)
     rw [show a1-(i+1)=tl+c by omega]
     exact this
   . rw [show L-i=c+1 by omega]
     refine⟨lo,top,by rw [jM];exact w7,?_⟩
     rw [show c=L-(i+1)by omega]at*
     exact h
 rintro aa H5 ⟨x,y,t,o7,o8,o9,rfl,s5,sc,q,r,fx,fy,ft,dl,nx⟩
 done
 refine⟨by decide,fun p6 b5=> ?_⟩
 have s6:=Same.upd b5 (.tup [x,y,t])
 have A3:=Ab L (by omega)
 have C3:=Cb L (by omega)
 have pd:=nx r sc q (by rw [sub_self];exact⟨rfl,rfl,rfl⟩)
 rw [hL]at pd
 exact k p6 x y t _ lo ae r sc q ((a9.trans s5).trans s6) (.of Ag) hw pd ((fx.mono s6).up A3 C3) ((fy.mono s6).up A3 C3) ((ft.mono s6).up A3 C3)
theorem Ada {x:V}{i l:Nat}{σ:St}{Q:St->Hp->Prop} (h:SqT K H p [u,v,x]) (q:Q (((σ.set i (some u)).set j (some v)).set l (some x)) H):
 Ah5 K 3 (Ud (Jq i) (Ud (Jq j) (Ud (Jq l) Al2))) (.ref p) σ H Q:=⟨p,_,rfl,h,rfl,u,_,rfl,v,_,rfl,x,_,rfl,rfl,q⟩
noncomputable def Og (K:Frag):Sp:=fun vs H Q _=>∃(p1 p2:Addr) (v w1 u w2 kn:V) (st1 st2 st3:Bool) (sf sg sa sb sk:Fq) (D N j m m' dw nw:Nat) (R:Fq->Fq->Fq->Fq->Fq->Fq->Prop),j<3/\vs=[.ref p1,.ref p2,kn,.int (j:Nat)]/\SqT K H p1 [v,w1]/\SqT K H p2 [u,w2]/\Fo K H true v sf D N/\Fo K H true u sg D N/\Fo K H st1 w1 sa D N/\Fo K H st2 w2 sb D N/\Fo K H st3 kn sk D N/\sk≠0/\D<=20/\N<=2000/\Mo j sf m/\Mo j sg m'/\0<m'/\m'<=m/\m<=m'+2/\nw<=1000000/\
 (∀lo lead r sc q,Wt j m' sg lo lead->PD j sg lead m' (m-m'+1) sf 1 0 r sc q->Bd sc (4*(D+2)) (4*(N+2))->Bd q (4*(D+2)) (4*(N+2))->Bd r (4*(D+2)) (4*(N+2))->∃w wa,r=sk*w/\sc*sa-q*sb=sk*wa/\Bd w dw nw/\Bd wa dw nw/\R lead r sc q w wa)/\
 ∀z x y H' lead r sc q w wa,Same H H'->SqT K H' z [x,y]->R lead r sc q w wa->Fo K H' true x w dw nw->Fo K H' true y wa dw nw->Q (.ref z) H'
theorem Uu (F:Df K mg "next_row" K5 zP f fd)    (L:Cal P w K mg base 4 "f_parted" zN (Od K)) (M:Cal P w K mg base 3 "f_minus" zE (Hi K)) (G:Cal P w K mg base 2 "f_times" zE (Fy K)) (J:Cal P w K mg base 2 "f_part" zE (Oc K)):Cal P w K mg base 5 "next_row" zP (Og K):=by
 refine F.cal (F.fn.ok Gy (fun vs H Q E h=> ?_) (fun a7 A outer s H vs Q E Z h=> ?_))
 . obtain⟨p1,p2,v,w1,u,w2,kn,a3,a4,W,sf,sg,sa,sb,sk,D,N,j,m,m',dw,nw,R,_,rfl,_⟩:=h
   rfl
 obtain⟨p1,p2,v,w1,u,w2,kn,a3,a4,W,sf,sg,sa,sb,sk,D,N,j,m,m',dw,nw,R,hj,rfl,a0,a1,hv,hu,ha,hb,hk,k0,hD,hN,mf,ml,m0,m1,m2,hn,a5,k⟩:=h
 refine Bb ⟨_,(Ae (Ew (Aj L Z (Aa (Bf Du (Af 0) Ad (fun _ _=>rfl)) (Aa (Bf Du (Af 1) Ad (fun _ _=>rfl)) (Aa (Af 3) Ac)))) (Ca rfl (Ak (Ao 5 Gy.nd) (Ak (Ao 6 Gy.nd) (Ak (Ao 7 Gy.nd) Bh)))))
  (Ae (Ay 4 Gy.nd (Aj M Z (Aa (Aj G Z (Aa (Af 5) (Aa (Bf Du (Af 0) Ad (fun _ _=>rfl)) Ac))) (Aa (Aj G Z (Aa (Af 6) (Aa (Bf Du (Af 1) Ad (fun _ _=>rfl)) Ac))) Ac))))
  (Ah (Ar (Aw (Aa (Aj J Z (Aa (Af 7) (Aa (Af 2) Ac))) (Aa (Aj J Z (Aa (Af 4) (Aa (Af 2) Ac))) Ac))))))),?_⟩
 done
 refine El a0 (v:=v) rfl ?_
 try done
 refine El a1 (v:=u) rfl ?_
 try done
 refine⟨v,u,sf,sg,D,N,j,m,m',hj,rfl,hv,hu,hD,by omega,mf,ml,m0,m1,m2,fun z x y t H1 lo U r sc q s1 hz hw pd fx fy ft=> ?_⟩
 refine Ada hz ?_
 done
 refine El (s1.tup a0) (v:=w1) rfl ?_
 try done
 refine Yn fx (ha.mono s1) (by omega) (by omega) (by omega) (by omega) fun z2 H2 s2 h2=> ?_
 have a2:=s1.trans s2
 refine El (a2.tup a1) (v:=w2) rfl ?_
 try done
 refine Yn (fy.mono s2) (hb.mono a2) (by omega) (by omega) (by omega) (by omega) fun z3 H3 s3 h3=> ?_
 refine Ant (h2.mono s3) h3 (by omega) (by omega) fun z4 H4 s4 h4=> ?_
 obtain⟨w,wa,e1,e2,b1,b2,hR⟩:=a5 lo U r sc q hw pd fx.bd fy.bd ft.bd
 have O:=(s2.trans s3).trans s4
 refine⟨t,kn,W,r,sk,w,_,_,D,N,dw,nw,rfl,ft.mono O,hk.mono (s1.trans O),e1,k0,b1,by omega,by omega,by omega,hn,fun z5 H5 s5 h5=> ?_⟩
 refine⟨.ref z4,kn,W,_,sk,wa,_,_,D,N,dw,nw,rfl,h4.mono s5,(hk.mono (s1.trans O)).mono s5,e2,k0,b2,by omega,by omega,by omega,hn,fun z6 H6 s6 h6=> ?_⟩
 try done
 intro p7 a6
 have s7:=Same.upd a6 (.tup [.ref z5,.ref z6])
 exact k p7 _ _ _ U r sc q w wa ((s1.trans O).trans ((s5.trans s6).trans s7)) (.of Ag) hR (h5.mono (s6.trans s7)) (h6.mono s7)
theorem Fo.cut {st:Bool}{q:Nat} (h:Fo K H st v S d n) (b:Bd S d' q):Fo K H st v S d' q:=⟨h.ex,b⟩
structure Tq (K:Frag) (H H':Hp) (sf sg:Fq) (j n':Nat) (p1 p2:Addr) (vl vh:V) (n:Nat) (x1 y1 x2 y2:V) (s1 a1 s2 a2 L h:Fq):Prop where
 sm:Same H H'
 at1:SqT K H' p1 [x1,y1]
 at2:SqT K H' p2 [x2,y2]
 f1:Fo K H' true x1 s1 120 9000
 g1:Fo K H' false y1 a1 120 9000
 f2:Fo K H' true x2 s2 120 9000
 g2:Fo K H' false y2 a2 120 9000
 fl:Fo K H' false vl L 120 9000
 fh:Fo K H' false vh h 120 9000
 go:Go j sf sg n' n s1 a1 s2 a2 L h
noncomputable def TqP (K:Frag) (H:Hp) (v u:V) (sf sg:Fq) (j n':Nat):Nat->St->Hp->Prop:=fun n σ' H'=>∃(p1 p2:Addr) (vl vh x1 y1 x2 y2:V) (s1 a1 s2 a2 L h:Fq) (o7 o8 o9 o10 o11:Option V),σ'=[some v,some u,some (.int (j:Nat)),some (.ref p1),some (.ref p2),some vl,some vh,o7,o8,o9,o10,o11]/\Tq K H H' sf sg j n' p1 p2 vl vh n x1 y1 x2 y2 s1 a1 s2 a2 L h
noncomputable def Cm (j:Nat) (f g:Fq):Prop:=∃a b k m m',a*f=b*g/\a≠0/\DL j a k/\k<m'/\Mo j f m/\Mo j g m'/\f≠0/\g≠0
theorem Cm.swap {f g:Fq} (h:Cm j f g):Cm j g f:=by
 obtain⟨a,b,k,m,W,e,G,Z,hk,J,mg,q,L⟩:=h
 have M:b≠0:=fun z=>by
  rw [z]at e
  exact Mg G q (by rw [e];grind)
 obtain⟨ma,O⟩:=Qn (j:=j) a
 obtain⟨mb,U⟩:=Qn (j:=j) b
 have h1:=O.mul J G q
 have h2:=U.mul mg M L
 rw [e]at h1
 have h3:=h1.uniq h2
 have h4:=O.le k Z
 exact⟨b,a,mb,W,m,e.symm,M,U.dl,by omega,mg,J,L,q⟩
structure Tk (j:Nat) (sf sg:Fq) (sx sy st:Fq):Prop where
 dl:DL j sx 0
 eq:sx=sy*sf+st*sg
 nul:sx=0->DL j sf 0->DL j sg 0->sf=0/\sg=0
 no:sx=0->sf=0\/sg=0\/Cm j sf sg
noncomputable def Gd (K:Frag):Sp:=fun vs H Q _=>∃(v u:V) (sf sg:Fq) (j m m':Nat),j<3/\vs=[v,u,.int (j:Nat)]/\Fo K H true v sf 3 140/\Fo K H true u sg 3 140/\Mo j sf m/\Mo j sg m'/\0<m'/\m'<=m/\m<=3/\
 ∀z x y t sx sy st H',Same H H'->SqT K H' z [x,y,t]->Fo K H' false x sx 40 4000->Fo K H' false y sy 40 4000->Fo K H' false t st 40 4000->Tk j sf sg sx sy st->Q (.ref z) H'
theorem Io (F:Df K mg "taken_from_greater" Ej zN f fd)   (W:mg "ONE"=some (.ref (cA K "ONE"))) (Z:Afi K (cA K "ONE")) (a0:Cal P w K mg base 1 "most" zG (Jw K)) (O:Cal P w K mg base 2 "f_times" zE (Fy K)) (a5:Cal P w K mg base 5 "next_row" zP (Og K)) (a6:Cal P w K mg base 3 "lead_of" zG (Ld K)) (U:Cal P w K mg base 2 "f_part" zE (Oc K)) (J:Cal P w K mg base 3 "f_power" yM (Pq K)) (aa:Cal P w K mg base 3 "f_minus" zE (Hi K)):Cal P w K mg base 6 "taken_from_greater" zN (Gd K):=by
 refine F.cal (F.fn.ok Ba (fun vs H Q E h=> ?_) (fun ci A outer s H vs Q E hr h=> ?_))
 . obtain⟨v,u,sf,sg,j,m,m',_,rfl,_⟩:=h
   rfl
 obtain⟨v,u,sf,sg,j,m,m',hj,rfl,hv,hu,mf,mg,m0,m1,m3,k⟩:=h
 refine Bb ⟨_,(Ae (Ay 3 Ba.nd (Aw (Aa (Af 0) (Aa (Dq (v:= .ref (cA K "ONE")) rfl W rfl) Ac))))
  (Ae (Ay 4 Ba.nd (Aw (Aa (Af 1) (Aa (Aw Ac) Ac))))
  (Ae (Ay 5 Ba.nd (Dq (v:= .ref (cA K "ONE")) rfl W rfl))
  (Ae (Ay 6 Ba.nd (Dq (v:= .ref (cA K "ONE")) rfl W rfl))
  (Ae (Fv bX (Av Aa1 (Aj a0 hr (Aa (Bf Du (Af 4) Ad (fun _ _=>rfl)) (Aa (Af 2) Ac))) Ad (Bl _)) (Ae (Ay 7 Ba.nd (Al G7 (Aj a0 hr (Aa (Bf Du (Af 3) Ad (fun _ _=>rfl)) (Aa (Af 2) Ac))) (Aj a0 hr (Aa (Bf Du (Af 4) Ad (fun _ _=>rfl)) (Aa (Af 2) Ac)))))
  (Ae (Ay 8 Ba.nd (Aj O hr (Aa (Af 5) (Aa (Aj J hr (Aa (Af 6) (Aa (Af 7) Ac))) Ac))))
  (Ae (Ay 9 Ba.nd (Aj a5 hr (Aa (Af 3) (Aa (Af 4) (Aa (Af 8) (Aa (Af 2) Ac))))))
  (Ae (Ay 5 Ba.nd (Aj a6 hr (Aa (Bf Du (Af 4) Ad (fun _ _=>rfl)) (Aa (Af 2) Ac))))
  (Ae (Bp (Av Aa1 (Af 7) Ad (Bl _)) (Ah (Ay 6 Ba.nd (Aj U hr (Aa (Aj J hr (Aa (Af 5) (Aa (Af 7) Ac))) (Aa (Aj J hr (Aa (Af 6) (Aa (Al G7 (Af 7) Ad) Ac))) Ac))))) Bc)
  (Ah (M6 (i:=3) (j:=4) rfl Ba.nd rfl rfl (by decide) rfl rfl (Aa (Af 4) (Aa (Af 9) Ac)) rfl))))))))
  (Ae (Ew (Af 4) (Ca rfl (Ak (Ao 10 Ba.nd) (Ak (Ao 11 Ba.nd) Bh))))
  (Ae (Bp (Av (Jk hr.units) (Af 10) (Aw Ac) (Bl _)) (Ah (Ar (Aw (Aa (Aw Ac) (Aa (Aw Ac) (Aa (Aw Ac) Ac)))))) Bc)
  (Ah (Ar (Aw (Aa (Af 10) (Aa (Af 11) (Aa (Aj U hr (Aa (Aj aa hr (Aa (Af 10) (Aa (Aj O hr (Aa (Af 11) (Aa (Af 0) Ac))) Ac))) (Aa (Af 1) Ac))) Ac))))))))))))),?_⟩
 done
 intro p1 ap
 refine⟨by decide,fun e0 aq p2 ar=> ?_⟩
 have s1:=Same.upd ap (.tup [v,.ref (cA K "ONE")])
 have s2:=Same.upd aq (.tup [])
 have s3:=Same.upd ar (.tup [u,.ref e0])
 have ab:=(s1.trans s2).trans s3
 have g1:=(s2.trans s3).tup (.of (Ag:upd H p1 (.tup [v,.ref (cA K "ONE")]) p1=some (.tup [v,.ref (cA K "ONE")])):SqT K _ p1 _)
 have ge:=s3.tup (.of (Ag:upd (upd H p1 (.tup [v,.ref (cA K "ONE")])) e0 (.tup []) e0=some (.tup [])):SqT K _ e0 _)
 have g2:SqT K (upd (upd (upd H p1 (.tup [v,.ref (cA K "ONE")])) e0 (.tup [])) p2 (.tup [u,.ref e0])) p2 [u,.ref e0]:= .of Ag
 generalize upd (upd (upd H p1 (.tup [v,.ref (cA K "ONE")])) e0 (.tup [])) p2 (.tup [u,.ref e0])=H3 at g1 ge g2 ab
 clear s1 s2 s3 ap aq ar
 have bj:=mf.ne (by omega)
 have as:=mg.ne m0
 have bm:=Ei ge
 have bn:=Adc mf mg m0 m1 m3 hv.bd hu.bd
 refine Oo (TqP K H v u sf sg j m') 3 ⟨p1,p2,_,_,v,_,u,.ref e0,sf,1,sg,0,1,1,_,_,_,_,_,rfl,ab,g1,g2,(hv.mono ab).up (by decide) (by decide),(Lq Z).up (by decide) (by decide),(hu.mono ab).up (by decide) (by decide),bm.wk.up (by decide) (by decide),(Lq Z).up (by decide) (by decide),(Lq Z).up (by decide) (by decide),bn⟩ ?_
 rintro n cj H4 ⟨p1,p2,vl,vh,x1,y1,x2,y2,s1,a1,s2,a2,L,h,o7,o8,o9,ck,cl,rfl,tg⟩
 have gg:=tg.go.ge
 have au:Bk s2/\Bk a2:=by
  cases n with
  | zero=>exact⟨tg.go.2.1,tg.go.2.2.1⟩
  | succ n=>exact⟨tg.go.2.2.2.1,tg.go.2.2.2.2.1⟩
 have f2:=tg.f2.cut au.1
 have ad:=tg.g2.cut au.2
 done
 refine El tg.at2 (v:=x2) rfl ?_
 try done
 refine Ig f2 (by decide) hj fun mx H5 s5 mo _ _=> ?_
 try done
 have av:=tg.sm.trans s5
 by_cases c:0<mx
 . rw [aI (by omega)]
   refine Ach ?_
   cases n with
   | zero=>
     have:=mo.le 0 tg.go.2.2.2
     omega
   | succ n=>
     obtain⟨_,b1,b2,_,_,b5,b6,step⟩:=tg.go
     have f1:=(tg.f1.cut b1).mono s5
     have g1:=(tg.g1.cut b2).mono s5
     have fl:=(tg.fl.cut b5).mono s5
     have fh:=(tg.fh.cut b6).mono s5
     replace f2:=f2.mono s5
     replace ad:=ad.mono s5
     have at1:=s5.tup tg.at1
     have ai:=s5.tup tg.at2
     done
     refine El at1 (v:=x1) rfl ?_
     try done
     refine Ig f1 (by decide) hj fun ae H6 s6 aw _ _=> ?_
     refine El (s6.tup ai) (v:=x2) rfl ?_
     try done
     refine Ig (f2.mono s6) (by decide) hj fun m4 H7 s7 bo _ _=> ?_
     obtain rfl:=mo.uniq bo
     obtain⟨c1,c2,c3,ax,ay,nx⟩:=step ae mx aw mo c
     obtain⟨M,hk⟩:∃M,M=ae-mx:=⟨_,rfl⟩
     rw [<-hk]at ax ay nx
     try done
     rw [show(ae:Int)-(mx:Int)=(M:Int)by omega]
     have al:=s6.trans s7
     have az:M<=2:=by omega
     have kd:M*20<=40:=bS 20 az
     have kn:M*2000<=4000:=bS 2000 az
     refine⟨_,false,h,20,2000,M,rfl,fh.mono al,by omega,by omega,by decide,by decide,fun z8 cm H8 s8 _ f8=> ?_⟩
     refine Yn (fl.mono (al.trans s8)) f8 (by decide) (by omega) (by decide) (by omega) fun z9 H9 s9 f9=> ?_
     have bp:=f9.cut ay
     have ac:=al.trans (s8.trans s9)
     refine⟨p1,p2,x1,y1,x2,y2,.ref z9,false,false,true,s1,s2,a1,a2,L*pwF h M,20,2000,j,ae,mx,20,2000,fun G r sc q w wa=>(∃lo,Wt j mx s2 lo G)/\Go j sf sg m' n s2 a2 w wa G (if ae=mx then h else pwF G M),hj,rfl,ac.tup at1,ac.tup ai,f1.mono ac,f2.mono ac,g1.mono ac,ad.mono ac,bp,ax,by decide,by decide,aw,mo,c,c1,c2,by decide,fun lo G r sc q hw pd _ _ _=> ?_,fun b0 bq br cn G r sc q w wa aj bt hR b3 b4=> ?_⟩
     . rw [<-hk]at pd
       obtain⟨w,wa,e1,e2,b7,b8,g9⟩:=nx lo G r sc q hw pd
       exact⟨w,wa,e1,e2,b7,b8,⟨lo,hw⟩,g9⟩
     obtain⟨⟨lo,hw⟩,g9⟩:=hR
     try done
     have af:=ac.trans aj
     refine El (af.tup ai) (v:=x2) rfl ?_
     try done
     refine⟨x2,true,s2,20,2000,j,hj,rfl,f2.mono af,by decide,fun m5 zl bu co wt2 b9 bv am wl=> ?_⟩
     obtain rfl:=mo.uniq bv
     obtain⟨_,rfl⟩:=hw.uniq wl
     have ag:=af.trans b9
     have ba:∀(an:V) (a7 a8 a9 bc be:Option V) H',Same bu H'->Fo K H' false an (if ae=mx then h else pwF G M) 120 9000->∃n2,n2<n+1/\TqP K H v u sf sg j m' n2 [some v,some u,some (.int (j:Nat)),some (.ref p2),some (.ref b0),some (.ref zl),some an,a7,a8,a9,bc,be] H':=by
      intro an a7 a8 a9 bc be H' s' bw
      have t1:=ag.trans s'
      have t2:=b9.trans s'
      exact⟨n,iQ _,p2,b0,_,_,x2,y2,bq,br,s2,a2,w,wa,G,_,_,_,_,_,_,rfl,av.trans t1,t1.tup ai,t2.tup bt,(f2.mono t1).up (by decide) (by decide),(ad.mono t1).up (by decide) (by decide),(b3.mono t2).up (by decide) (by decide),(b4.wk.mono t2).up (by decide) (by decide),(am.mono s').up (by decide) (by decide),bw,g9⟩
     try done
     by_cases k0:M=0
     . rw [aF (by omega)]
       refine ba _ _ _ _ _ _ _ (Same.refl _) ?_
       rw [aI (by omega)]
       exact(fh.mono ag).up (by decide) (by decide)
     . rw [aI (by omega)]
       have bl:Bd G 20 2000:=am.bd
       refine⟨_,false,G,20,2000,M,rfl,am,by omega,by omega,by decide,by decide,fun bx ch cp bf bz bg=> ?_⟩
       obtain rfl:=bz (by omega)
       try done
       rw [show(M:Int)-1=((M-1:Nat):Int)by omega]
       have cq:(M-1)*20<=40:=bS 20 (show M-1<=2 by omega)
       have cr:(M-1)*2000<=4000:=bS 2000 (show M-1<=2 by omega)
       refine⟨_,false,h,20,2000,M-1,rfl,fh.mono (ag.trans bf),by omega,by omega,by decide,by decide,fun c0 bh cs ab ct bi=> ?_⟩
       have e1:pwF h (M-1)=1:=by
        have:M=1\/h=1:=c3.elim (fun q=> .inl (by omega)) .inr
        rcases this with e | e
        . rw [e]
          rfl
        . rw [e,Abg]
       rw [e1]at bi
       refine⟨bx,c0,bh,pwF G M,1,pwF G M,_,_,_,_,M*20,M*2000,rfl,bg.mono ab,bi,by grind,Qh,bg.bd,by omega,by omega,by omega,by omega,fun cu cv c4 c5=> ?_⟩
       refine ba _ _ _ _ _ _ _ ((bf.trans ab).trans c4) ?_
       rw [aF (by omega)]
       exact c5.wk.up (by omega) (by omega)
 . rw [aF (by omega)]
   obtain⟨b,eb,bb⟩:=gg.ext
   have dl:DL j s2 0:=by
    have:mx=0:=by omega
    rw [<-this]
    exact mo.dl
   try done
   refine Dh (s5.tup tg.at2) ?_
   done
   refine⟨by decide,fun p6 c6=> ?_⟩
   have s6:=Same.upd c6 (.tup [])
   have ah:=s5.trans s6
   have ak:=av.trans s6
   refine Ma (f2.mono ah) (Ei (.of Ag)) (fun e=> ?_) (fun e=> ?_)
   . try done
     refine⟨by decide,fun a1 c7=>⟨by decide,fun c8 c9=>⟨by decide,fun a3 ca=>⟨by decide,fun a4 cb=> ?_⟩⟩⟩⟩
     have t1:=Same.upd c7 (.tup [])
     have t2:=Same.upd c9 (.tup [])
     have t3:=Same.upd ca (.tup [])
     have t4:=Same.upd cb (.tup [.ref a1,.ref c8,.ref a3])
     refine k a4 _ _ _ 0 0 0 _ (ak.trans ((t1.trans t2).trans (t3.trans t4))) (.of Ag) (((Ei (((t2.trans t3).trans t4).tup (.of Ag))).wk).up (by decide) (by decide)) (((Ei ((t3.trans t4).tup (.of Ag))).wk).up (by decide) (by decide)) (((Ei (t4.tup (.of Ag))).wk).up (by decide) (by decide)) ⟨DL.zero j,by grind,fun _ d=>absurd (mf.le 0 d) (by omega),fun _=> .inr (.inr ?_)⟩
     obtain⟨cc,ce,dk⟩:=gg.few
     refine⟨a2,-b,cc,m,m',?_,gg.ne.resolve_right fun z=>z e,dk,ce,mf,mg,bj,as⟩
     rw [e]at eb
     grind
   . try done
     refine Yn (ad.mono ah) (hv.mono ak) (by decide) (by decide) (by decide) (by decide) fun z7 H7 s7 f7=> ?_
     refine Ant ((f2.mono (ah.trans s7)).up (by decide) (by decide)) f7 (by decide) (by decide) fun z8 H8 s8 f8=> ?_
     refine⟨.ref z8,u,true,_,sg,b,_,_,3,140,40,4000,rfl,f8,hu.mono ((ak.trans s7).trans s8),by rw [eb];exact Ot b sg,as,bb,by decide,by decide,by decide,by decide,fun z9 H9 s9 f9=> ?_⟩
     refine⟨by decide,fun p9 cg=> ?_⟩
     have aj:=Same.upd cg (.tup [x2,y2,.ref z9])
     have ao:=(s7.trans s8).trans (s9.trans aj)
     refine k p9 x2 y2 _ _ _ _ _ (ak.trans ao) (.of Ag) ((f2.wk.mono (ah.trans ao)).up (by decide) (by decide)) ((ad.mono (ah.trans ao)).up (by decide) (by decide)) (f9.wk.mono aj) ⟨dl,?_,fun z=>absurd z e,fun z=>absurd z e⟩
     grind
noncomputable def Lx (K:Frag):Sp:=fun vs H Q _=>∃(v u:V) (sf sg:Fq) (j:Nat),j<3/\vs=[v,u,.str (nmS j)]/\Fo K H true v sf 3 140/\Fo K H true u sg 3 140/\
 ∀z x y t sx sy st H',Same H H'->SqT K H' z [x,y,t]->Fo K H' false x sx 40 4000->Fo K H' false y sy 40 4000->Fo K H' false t st 40 4000->Tk j sf sg sx sy st->Q (.ref z) H'
theorem R8 (F:Df K mg "taken_out" Ju yK f fd)   (M:mg "ONE"=some (.ref (cA K "ONE"))) (O:Afi K (cA K "ONE")) (J:Cal P w K mg base 1 "place_of" yN (Jx K)) (q:Cal P w K mg base 6 "taken_from_greater" zN (Gd K)) (G:Cal P w K mg base 1 "most" zG (Jw K)):Cal P w K mg base 7 "taken_out" yK (Lx K):=by
 refine F.cal (F.fn.ok Gb (fun vs H Q E h=> ?_) (fun af A outer s H vs Q E Z h=> ?_))
 . obtain⟨v,u,sf,sg,j,_,rfl,_⟩:=h
   rfl
 obtain⟨v,u,sf,sg,j,hj,rfl,hv,hu,k⟩:=h
 refine Bb ⟨_,(Ae (Ay 3 Gb.nd (Aj J Z (Aa (Af 2) Ac)))
  (Ae (Bp (Eb (Gw (Av (Sg Z.units) (Af 0) (Aw Ac) (Bl _)) (Hf (Av J7 (Aj G Z (Aa (Af 0) (Aa (Af 3) Ac))) Ad (Bl _))))) (Ah (Ar (Aw (Aa (Af 0) (Aa (Dq (v:= .ref (cA K "ONE")) rfl M rfl) (Aa (Aw Ac) Ac)))))) Bc)
  (Ae (Bp (Eb (Gw (Av (Sg Z.units) (Af 1) (Aw Ac) (Bl _)) (Hf (Av J7 (Aj G Z (Aa (Af 1) (Aa (Af 3) Ac))) Ad (Bl _))))) (Ah (Ar (Aw (Aa (Af 1) (Aa (Aw Ac) (Aa (Dq (v:= .ref (cA K "ONE")) rfl M rfl) Ac)))))) Bc)
  (Ae (Bp (Eb (Em (Av (Jk Z.units) (Af 0) (Aw Ac) (Bl _)) (Ga (Av (Jk Z.units) (Af 1) (Aw Ac) (Bl _))))) (Ah (Ar (Aw (Aa (Aw Ac) (Aa (Aw Ac) (Aa (Aw Ac) Ac)))))) Bc)
  (Ae (Bp (Av Agj (Aj G Z (Aa (Af 0) (Aa (Af 3) Ac))) (Aj G Z (Aa (Af 1) (Aa (Af 3) Ac))) (Bl _)) (Ae (Ew (Aj q Z (Aa (Af 1) (Aa (Af 0) (Aa (Af 3) Ac)))) (Ca rfl (Ak (Ao 4 Gb.nd) (Ak (Ao 5 Gb.nd) (Ak (Ao 6 Gb.nd) Bh)))))
  (Ah (Ar (Aw (Aa (Af 4) (Aa (Af 6) (Aa (Af 5) Ac))))))) Bc)
  (Ah (Ar (Aj q Z (Aa (Af 0) (Aa (Af 1) (Aa (Af 3) Ac))))))))))),?_⟩
 refine Dc (fun L H'=>Same H H'/\L=[some v,some u,some (.str (nmS j)),some (.int (j:Nat)),none,none,none]) (fun N hN=> ?_) ?_
 . done
   exact⟨j,hj,rfl,fun H1 s1=>hN _ _ ⟨s1,rfl⟩⟩
 rintro _ H1 ⟨s1,rfl⟩
 refine Dc (fun L H'=>Same H H'/\L=[some v,some u,some (.str (nmS j)),some (.int (j:Nat)),none,none,none]/\(sf≠0->∃m,Mo j sf m/\0<m)) (fun N hN=> ?_) ?_
 . done
   refine⟨by decide,fun p hp=> ?_⟩
   have s2:=s1.trans (Same.upd hp (.tup []))
   refine Ma (hv.mono s2) (Ei (.of Ag)) (fun e=> ?_) (fun e=> ?_)
   . try done
     exact hN _ _ ⟨s2,rfl,fun z=>absurd e z⟩
   try done
   refine Ig (hv.mono s2) (by decide) hj fun m H3 s3 mo ml _=> ?_
   try done
   by_cases c:m=0
   . rw [aI (by omega)]
     refine⟨by decide,fun p2 a0=>⟨by decide,fun p3 aa=> ?_⟩⟩
     have U:=Same.upd a0 (.tup [])
     have s5:=Same.upd aa (.tup [v,.ref (cA K "ONE"),.ref p2])
     have a5:=(s2.trans s3).trans (U.trans s5)
     refine k p3 _ _ _ sf 1 0 _ a5 (.of Ag) ((hv.wk.mono a5).up (by decide) (by decide)) ((Lq O).up (by decide) (by decide)) ((Ei (s5.tup (.of Ag))).wk.up (by decide) (by decide)) ⟨by rw [<-c];exact mo.dl,by grind,fun z=>absurd z e,fun z=>absurd z e⟩
   . rw [aF (by omega)]
     exact hN _ _ ⟨s2.trans s3,rfl,fun _=>⟨m,mo,by omega⟩⟩
 rintro _ H2 ⟨s2,rfl,hf⟩
 clear s1
 refine Dc (fun L H'=>Same H H'/\L=[some v,some u,some (.str (nmS j)),some (.int (j:Nat)),none,none,none]/\(sg≠0->∃m,Mo j sg m/\0<m)) (fun N hN=> ?_) ?_
 . done
   refine⟨by decide,fun p hp=> ?_⟩
   have s3:=s2.trans (Same.upd hp (.tup []))
   refine Ma (hu.mono s3) (Ei (.of Ag)) (fun e=> ?_) (fun e=> ?_)
   . try done
     exact hN _ _ ⟨s3,rfl,fun z=>absurd e z⟩
   try done
   refine Ig (hu.mono s3) (by decide) hj fun m H4 U mo ml _=> ?_
   try done
   by_cases c:m=0
   . rw [aI (by omega)]
     refine⟨by decide,fun p2 a0=>⟨by decide,fun p3 aa=> ?_⟩⟩
     have s5:=Same.upd a0 (.tup [])
     have s6:=Same.upd aa (.tup [u,.ref p2,.ref (cA K "ONE")])
     have a5:=(s3.trans U).trans (s5.trans s6)
     refine k p3 _ _ _ sg 0 1 _ a5 (.of Ag) ((hu.wk.mono a5).up (by decide) (by decide)) ((Ei (s6.tup (.of Ag))).wk.up (by decide) (by decide)) ((Lq O).up (by decide) (by decide)) ⟨by rw [<-c];exact mo.dl,by grind,fun z=>absurd z e,fun z=>absurd z e⟩
   . rw [aF (by omega)]
     exact hN _ _ ⟨s3.trans U,rfl,fun _=>⟨m,mo,by omega⟩⟩
 rintro _ H3 ⟨s3,rfl,hg⟩
 clear s2
 have nf:DL j sf 0->sf=0:=fun d=>jX fun z=>by
  obtain⟨m,mo,m0⟩:=hf z
  have:=mo.le 0 d
  omega
 have ng:DL j sg 0->sg=0:=fun d=>jX fun z=>by
  obtain⟨m,mo,m0⟩:=hg z
  have:=mo.le 0 d
  omega
 have ab:sf=0\/sg=0->∀ {H4:Hp},Same H H4->∀p1,H4 p1=none->∀p2,upd H4 p1 (.tup []) p2=none->∀p3,upd (upd H4 p1 (.tup [])) p2 (.tup []) p3=none->∀p4,upd (upd (upd H4 p1 (.tup [])) p2 (.tup [])) p3 (.tup []) p4=none->Q (.ref p4) (upd (upd (upd (upd H4 p1 (.tup [])) p2 (.tup [])) p3 (.tup [])) p4 (.tup [.ref p1,.ref p2,.ref p3])):=fun h0 {H4} U a1 a6 a2 a7 a3 a8 a4 a9=>by
  have t1:=Same.upd a6 (.tup [])
  have t2:=Same.upd a7 (.tup [])
  have t3:=Same.upd a8 (.tup [])
  have t4:=Same.upd a9 (.tup [.ref a1,.ref a2,.ref a3])
  exact k a4 _ _ _ 0 0 0 _ (U.trans ((t1.trans t2).trans (t3.trans t4))) (.of Ag) (((Ei (((t2.trans t3).trans t4).tup (.of Ag))).wk).up (by decide) (by decide)) (((Ei ((t3.trans t4).tup (.of Ag))).wk).up (by decide) (by decide)) (((Ei (t4.tup (.of Ag))).wk).up (by decide) (by decide)) ⟨DL.zero j,by grind,fun _ d1 d2=>⟨nf d1,ng d2⟩,fun _=>h0.elim .inl fun z=> .inr (.inl z)⟩
 refine Dc (fun L H'=>Same H H'/\L=[some v,some u,some (.str (nmS j)),some (.int (j:Nat)),none,none,none]/\sf≠0/\sg≠0) (fun N hN=> ?_) ?_
 . done
   refine⟨by decide,fun p hp=> ?_⟩
   have U:=s3.trans (Same.upd hp (.tup []))
   refine Ma (hv.mono U) (Ei (.of Ag)) (fun e=> ?_) (fun e=> ?_)
   . try done
     exact⟨by decide,fun a1 a6=>⟨by decide,fun a2 a7=>⟨by decide,fun a3 a8=>⟨by decide,fun a4 a9=>ab (.inl e) U a1 a6 a2 a7 a3 a8 a4 a9⟩⟩⟩⟩
   try done
   refine⟨by decide,fun p2 a0=> ?_⟩
   have s5:=U.trans (Same.upd a0 (.tup []))
   refine Ma (hu.mono s5) (Ei (.of Ag)) (fun e2=> ?_) (fun e2=> ?_)
   . try done
     exact⟨by decide,fun a1 a6=>⟨by decide,fun a2 a7=>⟨by decide,fun a3 a8=>⟨by decide,fun a4 a9=>ab (.inr e2) s5 a1 a6 a2 a7 a3 a8 a4 a9⟩⟩⟩⟩
   try done
   exact hN _ _ ⟨s5,rfl,e,e2⟩
 rintro _ H4 ⟨U,rfl,f0,g0⟩
 clear s3 ab
 obtain⟨m,mf,mp⟩:=hf f0
 obtain⟨n,mg,np⟩:=hg g0
 done
 refine Ig (hv.mono U) (by decide) hj fun m2 H5 s5 ac l5 _=> ?_
 obtain rfl:=mf.uniq ac
 refine Ig (hu.mono (U.trans s5)) (by decide) hj fun n2 H6 s6 ad l6 _=> ?_
 obtain rfl:=mg.uniq ad
 have W:=(U.trans s5).trans s6
 try done
 by_cases c:m<n
 . rw [aI (by omega)]
   refine⟨u,v,sg,sf,j,n,m,hj,rfl,hu.mono W,hv.mono W,mg,mf,mp,by omega,l6,fun z x y t sx sy st H7 s7 hz fx fy ft tk=> ?_⟩
   refine Ada hz ?_
   done
   refine⟨by decide,fun p8 ae=> ?_⟩
   have s8:=Same.upd ae (.tup [x,t,y])
   exact k p8 x t y _ _ _ _ ((W.trans s7).trans s8) (.of Ag) (fx.mono s8) (ft.mono s8) (fy.mono s8) ⟨tk.dl,by rw [tk.eq];grind,fun z d1 d2=>(tk.nul z d2 d1).symm,fun z=>(tk.no z).elim (fun w=> .inr (.inl w)) fun w=>w.elim .inl fun w=> .inr (.inr w.swap)⟩
 . rw [aF (by omega)]
   exact⟨v,u,sf,sg,j,m,n,hj,rfl,hv.mono W,hu.mono W,mf,mg,np,by omega,l5,fun z x y t sx sy st H7 s7 hz fx fy ft tk=>k z x y t sx sy st H7 (W.trans s7) hz fx fy ft tk⟩
theorem Aky {us:List (List Int)} (h:us.Pairwise (fun x y=>HT.lexLt x y=true)):upT us=true:=by
 unfold upT
 rw [gQ]
 intro i hi
 have G:=eD.mp hi
 have e:∀j (q:j<us.length),us.getD j []=us[j]:=fun j q=>by
  rw [aP,aG q]
  rfl
 rw [e i (by omega),e (i+1) (by omega)]
 exact bV.mp h i (i+1) (by omega) (by omega) (by omega)
theorem Anq {e:List Int × Int} (h:Tw K H v e) (np:Np e.1):∃t:Prt,v= .ref t.1/\t.ks=e.1/\Ah7 K H t/\Tm K H (.ref t.1) (decide (e.2≠0)):=by
 obtain⟨⟨a,b,rfl,q,G⟩,_⟩:=h
 refine⟨(a,b,e.1,.int e.2),rfl,rfl,⟨q,G⟩,?_⟩
 have g:=Tm.gen (K:=K) (w:=e.2) (es:=e.1.map fun i=>(V.int i,decide (0<=i))) q (by rw [aK];exact G) (by rw [aB];exact np.1) fun x J=>by
  obtain⟨i,_,rfl⟩:=aD.mp J
  exact .int i
 have L:((e.1.map fun i=>(V.int i,decide (0<=i))).map (·.2)).all id=true:=by
  rw [aK,all_map,gQ]
  intro i hi
  exact cD (np.2 i hi)
 rw [L,Bool.and_true]at g
 exact g
theorem Abd {H:Hp}:∀q:Ft,(∀e∈q,Tw K H e.1 e.2/\Np e.2.1/\e.2.2≠0)->∃ts:List Prt,ts.map (fun t=>V.ref t.1)=q.map (·.1)/\ts.map Prt.ks=q.map (·.2.1)/\∀t∈ts,Aib K H t
 | [],_=>⟨[],rfl,rfl,by simp⟩
 | e::r,h=>by
   obtain⟨ts,L,M,O⟩:=Abd r fun x U=>h x (.tail _ U)
   obtain⟨h1,h2,W⟩:=h e (.head _)
   obtain⟨t,Z,ek,pr,J⟩:=Anq h1 h2
   rw [cD W]at J
   refine⟨t::ts,by rw [aU,aU,L,Z],by rw [aU,aU,M,ek],fun u G=> ?_⟩
   rcases aQ.mp G with rfl | G
   . exact⟨pr,J⟩
   . exact O u G
theorem Fo.fm {st:Bool} (h:Fo K H st v S d n) (J:d<=120):Fm K H v true:=by
 obtain⟨a,fs,rfl,w,_,np,_,_,_,l⟩:=h.at
 have O:=Ey J l
 obtain⟨ts,G,L,M⟩:=Abd fs fun e q=>⟨w.al e q,np e q,w.nn e q⟩
 have lt:ts.length=fs.length:=by simpa using bK length G
 have g:=Fm.good (K:=K) (ts:=ts) (by rw [G];exact w.it) (by omega) M
 rw [L,Aky (by
  have:=w.up
  have h2:=bC.mp this
  exact bC.mpr h2)]at g
 exact g
theorem Fm.mono {H H':Hp}{v:V}{b:Bool} (h:Fm K H v b) (s:Same H H'):Fm K H' v b:=by
 cases h with
 | int i=>exact .int i
 | bl i=>exact .bl i
 | non=>exact .non
 | str x=>exact .str x
 | lst e=>exact .lst (s _ _ e)
 | bad h q G L=>exact .bad (s.tup h) q (fun e J=>(G e J).mono s) L
 | good h q G=>exact .good (s.tup h) q fun e J=>(G e J).mono s
theorem Aem {x y z:V}{q G J:Bool} (h1:Fm K H x q) (h2:Fm K H y G) (L:Fm K H z J):∀e∈ [(x,q),(y,G),(z,J)],Fm K H e.1 e.2:=fun e M=>by
 have:e=(x,q)\/e=(y,G)\/e=(z,J):=by simpa using M
 rcases this with rfl | rfl | rfl
 . exact h1
 . exact h2
 . exact L
noncomputable def Jl (K:Frag):Sp:=fun vs H Q _=>∃(v u x y z:V) (a:Addr) (sf sg sx sy sz:Fq) (j:Nat),j<3/\vs=[v,u,.str (nmS j),.ref a]/\Fo K H true v sf 3 140/\Fo K H true u sg 3 140/\SqT K H a [x,y,z]/\Fo K H false x sx 40 4000/\Fo K H false y sy 40 4000/\Fo K H false z sz 40 4000/\DL j sx 0/\sy*sf+sz*sg=sx/\∀H',Same H H'->Q (.bl true) H'
theorem Ow (F:Df K mg "taken_right" Gk zX f fd)  (G:mg "isinstance"=none) (O:mg "tuple"=none) (Z:mg "len"=none) (a0:mg "all"=none)  (J:Cal P w K mg base 1 "place_of" yN (Jx K)) (U:Cal P w K mg base 1 "most" zG (Jw K)) (M:Cal P w K mg base 2 "f_plus" zE (Iw K)) (q:Cal P w K mg base 2 "f_times" zE (Fy K)) (L:Cal P w K mg base 3 "is_form" zJ (Lb K)):Cal P w K mg base 4 "taken_right" zX (Jl K):=by
 refine F.cal (F.fn.ok Ek (fun vs H Q E h=> ?_) (fun a6 A outer s H vs Q E hr h=> ?_))
 . obtain⟨v,u,x,y,z,a,sf,sg,sx,sy,sz,j,_,rfl,_⟩:=h
   rfl
 obtain⟨v,u,x,y,z,a,sf,sg,sx,sy,sz,j,hj,rfl,hv,hu,h,h1,h2,h3,dl,eq,k⟩:=h
 refine Bb ⟨_,(Ae (Ay 4 Ek.nd (Aj J hr (Aa (Af 2) Ac)))
  (Ae (Bp (Eb (Em (Dm (Cy (Bj J4 rfl G cV (Aa (Af 3) (Aa (Ep (v:= .ty "tuple") rfl O cI rfl) Ac))))) (Em (Av Nk (Bj Bt rfl Z dC (Aa (Af 3) Ac)) Ad (Bl _)) (Ga (Dm (Cy (Bj (J3 rfl) rfl a0 gB (Aa (Br (ts:=zJ) (fs:=[]) rfl (Dy.of (sc:=Ax Gk) (N:=yL) rfl rfl (by decide+kernel)) (Cu (Af 3)) (fun _ _ _=>(Ao 0 (show Nodup (zJ:List Str)by decide+kernel))) (fun _ _ _=>Bx) (fun _ _ _=>(Aj L hr (Aa (Af 0) Ac)))) Ac)))))))) (Ah (Ar Ec)) Bc)
  (Ae (Ew (Af 3) (Ca rfl (Ak (Ao 5 Ek.nd) (Ak (Ao 6 Ek.nd) (Ak (Ao 7 Ek.nd) Bh)))))
  (Ah (Ar (J1 (Dp J7 (Aj U hr (Aa (Af 5) (Aa (Af 4) Ac))) Ad (Bl _)) (J2 (Dp (Jk hr.units) (Aj M hr (Aa (Aj q hr (Aa (Af 6) (Aa (Af 0) Ac))) (Aa (Aj q hr (Aa (Af 7) (Aa (Af 1) Ac))) Ac))) (Af 5) (Bl _))))))))),?_⟩
 refine Dc (fun a2 H'=>Same H H'/\a2=[some v,some u,some (.str (nmS j)),some (.ref a),some (.int (j:Nat)),none,none,none]) (fun N hN=> ?_) ?_
 . done
   exact⟨j,hj,rfl,fun H1 s1=>hN _ _ ⟨s1,rfl⟩⟩
 rintro _ H1 ⟨s1,rfl⟩
 replace h:=s1.tup h
 replace h1:=h1.mono s1
 replace h2:=h2.mono s1
 replace h3:=h3.mono s1
 done
 refine isa (.tup h) Ib ?_
 try done
 refine⟨a,_,rfl,.inr h,?_⟩
 rw [aI (show(([x,y,z].length:Nat):Int)=3 from rfl)]
 refine⟨⟨_,h⟩,fun p1 a3=>Gg (es:=[(x,true),(y,true),(z,true)]) (inj:=(·.1)) (fun e=> .bl e.2) (show 3<=sizeLine by decide) a3 (Hq h) ?_ ?_⟩
 . intro e H2 R he W hR
   done
   exact⟨_,_,rfl,(Aem (h1.fm (by decide)) (h2.fm (by decide)) (h3.fm (by decide)) e he).mono W,hR⟩
 intro H2 W g2
 refine⟨p1,[true,true,true],rfl,.of g2,?_⟩
 rw [aF (by decide)]
 have a4:=s1.trans W
 refine Ada (W.tup h) ?_
 done
 refine Ig (h1.mono W) (by decide) hj fun m H3 s3 mo _ _=> ?_
 try done
 obtain rfl:m=0:=by have:=mo.le 0 dl;omega
 rw [aI (by decide)]
 have a1:=a4.trans s3
 refine Yn (h2.mono (W.trans s3)) (hv.mono a1) (by decide) (by decide) (by decide) (by decide) fun z4 H4 s4 f4=> ?_
 refine Yn (h3.mono ((W.trans s3).trans s4)) (hu.mono (a1.trans s4)) (by decide) (by decide) (by decide) (by decide) fun z5 H5 s5 f5=> ?_
 refine Anu (f4.mono s5) f5 (by decide) fun z6 H6 s6 f6=> ?_
 have a5:=((a1.trans s4).trans s5).trans s6
 exact Ma f6 (h1.mono ((((W.trans s3).trans s4).trans s5).trans s6)) (fun _=>k _ a5) (fun e=>absurd eq e)
theorem Acx (ns:List Int) (lo hi:Option Int):∃ms:List Int,O2 (ns.map V.int) lo hi=ms.map V.int/\ms.length<=ns.length:=by
 unfold O2
 refine⟨(ns.drop (HT.sIx (ns.map V.int).length 0 lo)).take (HT.sIx (ns.map V.int).length (ns.map V.int).length hi-HT.sIx (ns.map V.int).length 0 lo),by rw [map_take,map_drop],?_⟩
 rw [bT,iT]
 omega
noncomputable def Le (K:Frag):Sp:=fun vs H Q _=>∃(c:Int) (m:Nat),vs=[.int c,.int (m:Nat)]/\m<=60/\∀l H' (ns:List Int),H l=none->Same H H'->H' l=some (.lst (ns.map V.int))->Q (.ref l) H'
theorem Xv (F:Df K mg "_law_draws" N6 zW f fd)  (L:mg "range"=none) (O:mg "len"=none)   :Cal P w K mg base 1 "_law_draws" zW (Le K):=by
 refine F.cal (F.fn.ok Ef (fun vs H Q E h=> ?_) (fun a0 A outer s H vs Q E hr h=> ?_))
 . obtain⟨c,m,rfl,_⟩:=h
   rfl
 obtain⟨c,G,rfl,a1,k⟩:=h
 refine Bb ⟨_,(Ae (Ay 2 Ef.nd (Dl Ac))
  (Ae (Ay 3 Ef.nd (Al Mq (Af 0) Ad))
  (Ae (Bp (Av J7 (Al Nj (Af 0) Ad) Ad (Bl _)) (Ah (Ay 3 Ef.nd Ad)) Bc)
  (Ae (Fv bX (Eb (Gw (Av Nk (Af 3) Ad (Bl _)) (Gw (Av Nk (Af 3) (Gj Kg Ad) (Bl _)) (Hf (Av Agj (Bj Bt rfl O dC (Aa (Af 2) Ac)) (Af 1) (Bl _)))))) (Ae (Fp (Hr eF fP fO Hh (Af 2) (Aa (Al Nj (Af 3) (Al J8 Ad Ad)) Ac)))
  (Ah (Ay 3 Ef.nd (Al Mq (Af 3) (Al J8 Ad Ad))))))
  (Ae (Ay 4 Ef.nd (Al Nj (Al Fx (Al Cg (Al Nj (Af 0) (Al Cg (Al J8 Ad Ad) Ad)) Ad) Ad) (Al Cg (Al J8 Ad Ad) Ad)))
  (Ae (Ay 5 Ef.nd (Dl Ac))
  (Ae (Ce bX rfl (Dg rfl L (Aa (Al Cg (Af 1) Ad) Ac)) (Ao 6 Ef.nd) (Ae (Ay 4 Ef.nd (Al Nj (Al Cg (Al Cg (Al Fx (Af 4) (Af 4)) (Al Fx Ad (Af 4))) (Af 6)) (Al Cg (Al J8 Ad Ad) Ad)))
  (Ah (Fp (Hr eF fP fO Hh (Af 5) (Aa (Al Mq (Af 4) (Al J8 Ad Ad)) Ac))))))
  (Ah (Ar (Al V9 (Af 2) (Fj Ahe (Af 5) (Gq (Al Cg Ad (Bj Bt rfl O dC (Aa (Af 2) Ac)))) Gp))))))))))),?_⟩
 refine Dc (fun q H'=>Same H H'/\∃f,H f=none/\q=[some (.int c),some (.int (G:Nat)),some (.ref f),none,none,none,none]/\H' f=some (.lst [])) (fun M J=> ?_) ?_
 . done
   exact⟨by decide,fun p hp=>J _ _ ⟨Same.upd hp _,p,hp,rfl,Ag⟩⟩
 rintro σ H1 ⟨s1,f,nf,rfl,g1⟩
 refine Dc (fun q H'=>H'=H1/\∃r:Int,q=[some (.int c),some (.int (G:Nat)),some (.ref f),some (.int r),none,none,none]) (fun M J=> ?_) ?_
 . done
   exact⟨⟨by decide,by decide⟩,J _ _ ⟨rfl,_,rfl⟩⟩
 rintro σ H2 ⟨e2,r,rfl⟩
 rw [e2]
 clear e2 H2
 refine Dc (fun q H'=>H'=H1/\∃r:Int,q=[some (.int c),some (.int (G:Nat)),some (.ref f),some (.int r),none,none,none]) (fun M J=> ?_) ?_
 . done
   refine⟨by decide,?_⟩
   split
   . exact J _ _ ⟨rfl,_,rfl⟩
   . exact J _ _ ⟨rfl,_,rfl⟩
 rintro σ H2 ⟨e2,r,rfl⟩
 rw [e2]
 clear e2 H2
 refine Dc (fun q H'=>Same H H'/\∃(r:Int) (ns:List Int),q=[some (.int c),some (.int (G:Nat)),some (.ref f),some (.int r),none,none,none]/\H' f=some (.lst (ns.map V.int))/\ns.length<=G) (fun M J=> ?_) ?_
 . done
   refine Ad7 (fun σ H'=>Same H H'/\∃(r:Int) (ns:List Int),σ=[some (.int c),some (.int (G:Nat)),some (.ref f),some (.int r),none,none,none]/\H' f=some (.lst (ns.map V.int))/\ns.length<=G) (fun σ H'=>match H' f with | some (.lst xs)=>G-xs.length | _=>0) ⟨s1,r,[],rfl,g1,bO _⟩ ?_
   rintro σ H' ⟨s2,r,ns,rfl,U,ln⟩
   have ex:=J _ _ ⟨s2,r,ns,rfl,U,ln⟩
   done
   by_cases r0:r=0
   . rw [aI r0]
     exact ex
   rw [aF r0]
   by_cases r1:r= -1
   . rw [aI r1]
     exact ex
   rw [aF r1]
   refine⟨f,_,rfl,.inl (.of U),?_⟩
   rw [aB]
   by_cases l6:((ns.length:Nat):Int)<(G:Nat)
   . rw [aI l6]
     refine Anw ?_
     done
     refine⟨.inl ⟨rfl,_,.of U⟩,⟨by decide,by decide,by decide⟩,by decide,f,_,_,rfl,rfl,U,?_,⟨by decide,by decide,by decide⟩,⟨by decide,by decide⟩,⟨s2.put nf,_,ns++ [r%10^toNat 24],rfl,?_,?_⟩,?_⟩
     . rw [aB]
       exact bH (show ns.length<61 by omega) (by decide)
     . rw [Ag,aJ]
       rfl
     . rw [aL]
       show ns.length+1<=G
       omega
     . rw [Ag,U]
       show G-(ns.map V.int++ [_]).length<G-(ns.map V.int).length
       rw [aL,aB]
       show G-(ns.length+1)<_
       omega
   . rw [aF l6]
     exact ex
 rintro σ H2 ⟨s2,r,ns,rfl,U,ln⟩
 refine Dc (fun q H'=>H'=H2/\∃x:Int,0<=x/\x<10^toNat 40+121/\q=[some (.int c),some (.int (G:Nat)),some (.ref f),some (.int r),some (.int x),none,none]) (fun M J=> ?_) ?_
 . done
   exact⟨⟨by decide,by decide,by decide⟩,by decide,.of_right (Yw (by decide)),⟨by decide,by decide,by decide⟩,by decide,J _ _ ⟨rfl,_,Int.emod_nonneg _ (by decide),Int.emod_lt_of_pos _ (by decide),rfl⟩⟩
 rintro σ H3 ⟨e3,x,x0,x1,rfl⟩
 rw [e3]
 clear e3 H3
 refine Dc (fun q H'=>Same H2 H'/\∃m,H2 m=none/\q=[some (.int c),some (.int (G:Nat)),some (.ref f),some (.int r),some (.int x),some (.ref m),none]/\H' m=some (.lst [])) (fun M J=> ?_) ?_
 . done
   exact⟨by decide,fun p hp=>J _ _ ⟨Same.upd hp _,p,hp,rfl,Ag⟩⟩
 rintro σ H3 ⟨s3,m,nm,rfl,g3⟩
 refine Dc (fun q H'=>Same H2 H'/\∃(y:Int) (o:Option V) (ms:List Int),q=[some (.int c),some (.int (G:Nat)),some (.ref f),some (.int r),some (.int y),some (.ref m),o]/\H' m=some (.lst (ms.map V.int))/\ms.length=((G:Int)+4).toNat) (fun M J=> ?_) ?_
 . done
   refine⟨by omega,by omega,?_⟩
   refine Ah4 ((G:Int)+4).toNat (fun i=> .int (0+(i:Nat))) (fun i q H'=>Same H2 H'/\∃(y:Int) (o:Option V) (ms:List Int),0<=y/\y<10^toNat 40+121/\q=[some (.int c),some (.int (G:Nat)),some (.ref f),some (.int r),some (.int y),some (.ref m),o]/\H' m=some (.lst (ms.map V.int))/\ms.length=i) ⟨s3,x,_,[],x0,x1,rfl,g3,rfl⟩ ?_ ?_ ?_
   . rintro i q H' _
     exact Gu
   . rintro i q H' hi ⟨W,y,o,ms,y0,y1,rfl,Z,lm⟩
     have sy:Sz 140 y:=by
      have:(10:Int)^toNat 40+121<2^140:=by decide
      unfold Sz
      omega
     done
     refine⟨sy.mulOk sy (by decide),.of_left (Yw (by decide)),⟨by decide,by decide,by decide⟩,by decide,.inl ⟨rfl,_,.of Z⟩,⟨by decide,by decide,by decide⟩,⟨by decide,by decide⟩,m,_,_,rfl,rfl,Z,?_,W.put nm,_,_,ms++ [(y*y+48271*y+(0+(i:Nat)))%(10^toNat 40+121)/10^toNat 8],Int.emod_nonneg _ (by decide),Int.emod_lt_of_pos _ (by decide),rfl,?_,?_⟩
     . rw [aB]
       exact bH (show ms.length<65 by omega) (by decide)
     . rw [Ag,aJ]
       rfl
     . rw [aL,lm]
       rfl
   . rintro q H' ⟨W,y,o,ms,y0,y1,rfl,Z,lm⟩
     exact J _ _ ⟨W,y,o,ms,rfl,Z,lm⟩
 rintro σ H4 ⟨W,y,o,ms,rfl,Z,lm⟩
 done
 refine⟨f,_,rfl,.inl (.of (W _ _ U)),m,_,rfl,.of Z,fun p hp=> ?_⟩
 obtain⟨qs,eq,lq⟩:=Acx ms (some (4+((ns.map V.int).length:Nat))) none
 rw [eq]
 have sp:=Same.upd hp (.lst (qs.map V.int))
 refine⟨f,p,_,_,rfl,rfl,sp _ _ (W _ _ U),Ag,?_,fun l hl=> ?_⟩
 . rw [aB,aB]
   exact aO (show ns.length+qs.length<=124 by omega) (by decide)
 . rw [<-aJ]
   refine k l _ (ns++qs) ?_ (((s2.trans W).trans sp).trans (Same.upd hl _)) Ag
   cases e:H l with
   | none=>rfl
   | some u=>
     rw [((s2.trans W).trans sp) _ _ e]at hl
     cases hl
theorem Ajo {n:Nat}:∀l:List (List Int × Int),(∀e∈l,Sz n e.2)->n1 (cvl l)<=l.length*2^n
 | [],_=>bO _
 | e::r,h=>by
   have G:=Ajo r fun x q=>h x (.tail _ q)
   have h1:e.2.natAbs<2^n:=h e (.head _)
   show e.2.natAbs+n1 (cvl r)<=(r.length+1)*2^n
   rw [fK]
   omega
theorem Aie {l:List (List Int × Int)}{k:Nat} (np:∀e∈l,Np e.1) (b:∀e∈l,∀x∈e.1,x<=(d:Int)) (z:∀e∈l,Sz n e.2) (G:l.length<=2^k):Bd (fq (cvl l)) d (n+k):=by
 refine⟨_,rfl,fun e J=> ?_,?_⟩
 . obtain⟨x,q,rfl⟩:=aD.mp J
   obtain⟨i,j,m,L,M⟩:=(np x q).ex
   have h:=b x q
   rw [L]at h
   have h1:=h i (by simp)
   have h2:=h j (by simp)
   have O:=h m (by simp)
   show le3 (c3 x.1) d
   rw [M]
   exact⟨by simpa using h1,by simpa using h2,by simpa using O⟩
 . refine aO (Ajo l z) ?_
   rw [jM,jZ]
   exact bS _ G
theorem Akx {Q:VK}{E:XK}{U W:Bool}{T:Fq}{J:Nat} (h:Fo K H U v S d n) (g:Fo K H W u T d' J) (Z:(d+1)*(d+1)*(d+1)*((d'+1)*(d'+1)*(d'+1))<16000000) (hn:n<=25000000) (a0:J<=25000000)
 (k:∀z H',Same H H'->Fo K H' true (.ref z) (S*T) (d+d') (n+J)->Q (.ref z) H'):G9 K [v,u] H Q E:=by
 obtain⟨a,fs,rfl,w1,_,q,e1,b1,z1,l1⟩:=h.at
 obtain⟨c,gs,rfl,w2,_,G,e2,b2,z2,l2⟩:=g.at
 refine⟨a,c,fs,gs,(n+1)+(J+1),rfl,w1,w2,cY (fS l1 l2) Z,by omega,fun e L=>(z1 e L).mono (by omega),fun e L=>(z2 e L).mono (by omega),fun z H' hs s fr M=>k z H' s ?_⟩
 have O:=Aau (Fb q) (Fb G)
 exact .of fr (Xm fr.weak O M) O M (by rw [T7 (Fb G) (Fb q),<-O6,e1,e2]) (h.bd.mul g.bd)
theorem Apb {Q:VK}{E:XK}{es:Ft} (h:H a=some (.lst (es.map (·.1)))) (G:∀e∈es,Te K H e.1 e.2) (np:∀e∈es,Np e.2.1) (J:es.length<16000000) (e:fq (cvl (es.map (·.2)))=S) (b:Bd S d n)
 (k:∀z H',Same H H'->Fo K H' true (.ref z) S d n->Q (.ref z) H'):Hy K [.ref a] H Q E:=
 ⟨a,es,rfl,.of h,G,J,fun z H' fs s fr q=>k z H' s (.of fr (Xm fr.weak (Fb np) q) (Fb np) q e b)⟩
theorem TmJ.np {q:Nat}{es:Ft} (h:TmJ K q H H' l f ms es):(∀e∈es,Np e.2.1):=fun e G=>⟨(h.al e G).ln,fun x J=>((h.lo e G).1 x J).1⟩
theorem TmJ.bd {q:Nat}{es:Ft} (h:TmJ K q H H' l f ms es) (L:es.length<=4):Bd (fq (cvl (es.map (·.2)))) q 69:=by
 refine Aie (k:=2) (Fb h.np) (fun e G x M=> ?_) (fun e G=> ?_) (by rw [aB];exact L)
 . obtain⟨y,J,rfl⟩:=aD.mp G
   exact((h.lo y J).1 x M).2
 . obtain⟨y,J,rfl⟩:=aD.mp G
   exact cY (h.lo y J).2 (by decide)
theorem Tw.dr {e:List Int × Int} (h:Tw K H v e) (d:Dr l H H' ms) (q:H l=some (.lst zs)):Tw K H' v e:=by
 obtain⟨⟨a,b,G,J,L⟩,n⟩:=h
 exact⟨⟨a,b,G,d.sqT q J,d.sqT q L⟩,n⟩
theorem Fo.dr {l:Addr}{H H':Hp}{ms:List Int}{zs:List V}{st:Bool}{v:V}{S:Fq}{d n:Nat} (h:Fo K H st v S d n) (r:Dr l H H' ms) (G:H l=some (.lst zs)):Fo K H' st v S d n:=by
 obtain⟨⟨a,fs,e,w,t,np,q⟩,b⟩:=h
 exact⟨⟨a,fs,e,⟨r.sqT G w.it,fun e J=>(w.al e J).dr r G,w.up,w.nn⟩,fun z=>⟨r.sqT G (t z).it,fun e J=>((t z).al e J).dr r G,(t z).up,(t z).nn⟩,np,q⟩,b⟩
theorem Apc {E J:XK}{q:Nat} (h:H l=some (.lst (ns.map V.int))) (U:m<=4) (L:q<=20) (k:∀z H' ms S,Dr l H H' ms->Fo K H' true (.ref z) S q 69->Q (.ref z) H'):
 Ji K [.ref l,.int (m:Nat),.int (q:Nat)] H (fun x H1=>Hy K [x] H1 Q E) J:=
 ⟨l,ns,m,q,rfl,h,by omega,L,fun f H1 ms es _ G le=>Apb G.it G.al G.np (by omega) rfl (G.bd (by omega)) fun z H2 M O=>k z H2 ms _ (G.dr.same M) O⟩
noncomputable def Pu (K:Frag):Sp:=fun vs H Q _=>∃(v u x y z:V) (a:Addr) (sf sg sx sy sz:Fq) (j:Nat),j<3/\vs=[v,u,.str (nmS j),.int (j:Nat),.ref a]/\Fo K H true v sf 3 140/\Fo K H true u sg 3 140/\SqT K H a [x,y,z]/\Fo K H false x sx 40 4000/\Fo K H false y sy 40 4000/\Fo K H false z sz 40 4000/\DL j sx 0/\sy*sf+sz*sg=sx/\∀H',Same H H'->Q (.bl true) H'
theorem Xw (F:Df K mg "_law_right" Iu zC f fd)  (Aci:mg "any"=none) (J:mg "isinstance"=none) (a0:mg "tuple"=none) (a7:mg "len"=none) (a8:mg "all"=none) (U:mg "list"=none)  (a2:Cal P w K mg base 1 "_law_sum" zV (Hy K)) (G:Cal P w K mg base 4 "taken_right" zX (Jl K)) (q:Cal P w K mg base 2 "_law_product" zZ (G9 K)) (M:Cal P w K mg base 3 "is_form" zJ (Lb K)):Cal P w K mg base 5 "_law_right" zC (Pu K):=by
 refine F.cal (F.fn.ok Yg (fun vs H Q E h=> ?_) (fun aj A outer s H vs Q E hr h=> ?_))
 . obtain⟨v,u,x,y,z,a,sf,sg,sx,sy,sz,j,_,rfl,_⟩:=h
   rfl
 obtain⟨v,u,x,y,z,a,sf,sg,sx,sy,sz,j,hj,rfl,hv,hu,h,h1,h2,h3,dl,eq,k⟩:=h
 refine Bb ⟨_,(Ae (Bp (Eb (Em (Dm (Cy (Bj J4 rfl J cV (Aa (Af 4) (Aa (Ep (v:= .ty "tuple") rfl a0 cI rfl) Ac))))) (Em (Av Nk (Bj Bt rfl a7 dC (Aa (Af 4) Ac)) Ad (Bl _)) (Ga (Dm (Cy (Bj (J3 rfl) rfl a8 gB (Aa (Br (ts:=["_law_part"]) (fs:=[]) rfl (Dy.of (sc:=Ax Iu) (N:=zC) rfl rfl (by decide+kernel)) (Cu (Af 4)) (fun _ _ _=>(Ao 0 (show Nodup (["_law_part"]:List Str)by decide+kernel))) (fun _ _ _=>Bx) (fun _ _ _=>(Dp Aey (Aj M hr (Aa (Af 0) Ac)) Ec (Bl _)))) Ac)))))))) (Ah (Ar Ec)) Bc)
  (Ae (Bp (Cy (Bj (Acs rfl) rfl Aci boot_any (Aa (Br (ts:=zQ) (fs:=[(3,"_law_here")]) rfl (Dy.of (sc:=Ax Iu) (N:=zC) rfl rfl (by decide+kernel)) (Cu (Bf Du (Af 4) Ad (fun _ _=>rfl))) (fun _ _ _=>(Ds K 2 rfl rfl (Ak (Ao 0 (show Nodup (zO:List Str)by decide+kernel)) (Ak (Ao 1 (show Nodup (zO:List Str)by decide+kernel)) Bh)))) (fun _ _ _=>Bx) (fun _ _ _=>(Dp Aa1 (Bf (Hu K) (Af 0) (Af 2) (fun _ _=>rfl)) Ad (Bl _)))) Ac))) (Ah (Ar Ec)) Bc)
  (Ae (Bp (Av (Sg hr.units) (Aj a2 hr (Aa (Al V9 (Eu Lj rfl U boot_list (Aa (Aj q hr (Aa (Bf Du (Af 4) Ad (fun _ _=>rfl)) (Aa (Af 0) Ac))) Ac)) (Eu Lj rfl U boot_list (Aa (Aj q hr (Aa (Bf Du (Af 4) Ad (fun _ _=>rfl)) (Aa (Af 1) Ac))) Ac))) Ac)) (Bf Du (Af 4) Ad (fun _ _=>rfl)) (Bl _)) (Ah (Ar Ec)) Bc)
  (Ah (Ar (Dp Aey (Aj G hr (Aa (Af 0) (Aa (Af 1) (Aa (Af 2) (Aa (Af 4) Ac))))) Ec (Bl _))))))),?_⟩
 done
 refine isa (.tup h) Ib ?_
 try done
 refine⟨a,_,rfl,.inr h,?_⟩
 rw [aI (show(([x,y,z].length:Nat):Int)=3 from rfl)]
 refine⟨⟨_,h⟩,fun p1 a9=>Gg (es:=[(x,true),(y,true),(z,true)]) (inj:=(·.1)) (fun e=> .bl e.2) (show 3<=sizeLine by decide) a9 (Hq h) ?_ ?_⟩
 . intro e H2 R O s2 hR
   done
   refine⟨_,_,rfl,(Aem (h1.fm (by decide)) (h2.fm (by decide)) (h3.fm (by decide)) e O).mono s2,fun H3 s3=> ?_⟩
   try done
   exact⟨_,_,rfl,rfl,by rw [show(e.2==true)=e.2 by cases e.2<;>rfl];exact hR _ s3⟩
 intro H2 s2 g2
 refine⟨p1,[true,true,true],rfl,.of g2,?_⟩
 rw [aF (by decide)]
 try done
 refine El (s2.tup h) (v:=x) rfl ?_
 obtain⟨a1,fs,rfl,w,_,np,e,b,zz,l⟩:=(h1.mono s2).at
 try done
 refine⟨⟨_,w.it⟩,fun p3 aa=>Gg (es:=fs) (inj:=(·.1)) (fun e=> .bl (decide (0<e.2.1.getD j 0))) (aO (Ey (by decide) l) (by decide)) aa (Hq w.it) ?_ ?_⟩
 . intro e H3 R O s3 hR
   obtain⟨⟨b,d,eb,hb,hd⟩,ln⟩:=(w.al e O).mono s3
   rw [eb]
   refine Dh hb ?_
   done
   refine El hd (v:= .int (e.2.1.getD j 0)) (Gf ?_) ?_
   . rw [aZ,aP,aG (by omega)]
     rfl
   . try done
     exact hR _ (Same.refl _)
 intro H3 s3 g3
 have em:fs.map (fun e=>V.bl (decide (0<e.2.1.getD j 0)))=(fs.map fun e=>decide (0<e.2.1.getD j 0)).map V.bl:=by rw [aK];rfl
 rw [em]at g3
 refine⟨p3,_,rfl,.of g3,?_⟩
 have a3:=s2.trans s3
 have nz:=Ng w.at.1 w.at.2 (Fb np)
 have c:¬(fs.map fun e=>decide (0<e.2.1.getD j 0)).any id=true:=fun c=>by
  obtain⟨x,hx,cx⟩:=iV.mp c
  obtain⟨y,hy,rfl⟩:=aD.mp hx
  have:=Agd nz (by rw [e];exact dl) (c3 y.2.1,y.2.2) (aD.mpr ⟨y.2,aD.mpr ⟨y,hy,rfl⟩,rfl⟩)
  have h4:=Lr hj (np y hy)
  have h5:0<y.2.1.getD j 0:=cH cx
  dsimp only at this
  omega
 rw [aF c]
 refine El (a3.tup h) (v:=y) rfl ?_
 refine Akx (h2.mono a3) (hv.mono a3) (by decide) (by decide) (by decide) fun z4 H4 s4 f4=> ?_
 obtain⟨a4,W,e4,w4,t4,ab,ac,b4,_,l4⟩:=f4.at
 obtain rfl:=V.ref.inj e4
 refine⟨z4,_,rfl,.inr w4.it,fun l5 ad=> ?_⟩
 have s5:=Same.upd ad (.lst (W.map (·.1)))
 have g5:upd H4 l5 (.lst (W.map (·.1))) l5=some (.lst (W.map (·.1))):=Ag
 generalize upd H4 l5 (.lst (W.map (·.1)))=H5 at s5 g5
 have a5:=(a3.trans s4).trans s5
 refine El (a5.tup h) (v:=z) rfl ?_
 refine Akx (h3.mono a5) (hu.mono a5) (by decide) (by decide) (by decide) fun z6 H6 s6 f6=> ?_
 obtain⟨a6,Z,e6,w6,t6,ae,af,b6,_,l6⟩:=f6.at
 obtain rfl:=V.ref.inj e6
 refine⟨z6,_,rfl,.inr w6.it,fun l7 ag=> ?_⟩
 have s7:=Same.upd ag (.lst (Z.map (·.1)))
 have g7:upd H6 l7 (.lst (Z.map (·.1))) l7=some (.lst (Z.map (·.1))):=Ag
 generalize upd H6 l7 (.lst (Z.map (·.1)))=H7 at s7 g7
 have ak:=Ey (by decide) l4
 have am:=Ey (by decide) l6
 refine⟨l5,l7,_,_,rfl,rfl,s7 _ _ (s6 _ _ g5),g7,?_,fun l8 ah=> ?_⟩
 . rw [aB,aB]
   exact aO (show _<=3543122 by omega) (by decide)
 rw [<-aJ]
 have s8:=Same.upd ah (.lst ((W++Z).map (·.1)))
 refine Apb (es:=W++Z) (S:=sy*sf+sz*sg) (d:=43) (n:=4141) Ag (fun e O=> ?_) (fun e O=> ?_) (by rw [aL];omega) ?_ (f4.bd.add f6.bd) fun z9 H9 s9 f9=> ?_
 . rcases bG.mp O with O | O
   . exact((t4 rfl).al e O).mono (((s5.trans s6).trans s7).trans s8)
   . exact((t6 rfl).al e O).mono (s7.trans s8)
 . rcases bG.mp O with O | O
   . exact ab e O
   . exact ae e O
 . rw [aJ,Zc,<-Vq,ac,af]
 have L:=((a5.trans s6).trans s7).trans (s8.trans s9)
 refine El (L.tup h) (v:= .ref a1) rfl ?_
 refine Ma f9 (h1.mono L) (fun _=> ?_) (fun e=>absurd eq e)
 try done
 exact⟨v,u,.ref a1,y,z,a,sf,sg,sx,sy,sz,j,hj,rfl,hv.mono L,hu.mono L,L.tup h,h1.mono L,h2.mono L,h3.mono L,dl,eq,fun an ai=>⟨true,true,rfl,rfl,k _ (L.trans ai)⟩⟩
theorem Am1 {fs:Ft}{M:Int} (U:j<3) (w:Ox K H a fs) (np:∀e∈fs,Np e.2.1) (e:fq (cvl (fs.map (·.2)))=S) (b:∀e∈fs,∀y∈e.2.1,0<=y/\y<=(d:Int)) (ms:Mst fs j M):∃m:Nat,M=m/\Mo j S m/\m<=d/\(S=0->m=0):=by
 have M0:0<=M/\M<=d:=by
  by_cases c:fs=[]
  . have:=ms.no c
    omega
  . obtain⟨x,q,e⟩:=ms.is c
    have hl:=(np x q).1
    have J:x.2.1.getD j 0∈x.2.1:=by
     rw [aP,aG (by omega)]
     exact cE _
    have:=b x q _ J
    omega
 obtain⟨m,rfl⟩:∃m:Nat,M=m:=⟨M.toNat,by omega⟩
 refine⟨m,rfl,⟨⟨cvl (fs.map (·.2)),e.symm,fun x q=> ?_⟩,fun m' L=> ?_⟩,by omega,fun W=> ?_⟩
 . obtain⟨y0,O,rfl⟩:=aD.mp q
   obtain⟨y,G,rfl⟩:=aD.mp O
   have h1:=ms.le y G
   rw [<-Lr U (np y G)]at h1
   show pw3 j (c3 y.2.1)<=m
   omega
 . by_cases c:fs=[]
   . have:=ms.no c
     omega
   . obtain⟨x,q,ex⟩:=ms.is c
     obtain⟨Z,e2,b2⟩:=L
     have nz:=Ng w.at.1 w.at.2 (Fb np)
     have J:(c3 x.2.1,x.2.2)∈cvl (fs.map (·.2)):=aD.mpr ⟨x.2,aD.mpr ⟨x,q,rfl⟩,rfl⟩
     have h1:=nz.at _ J
     have h2:=Nf (e.trans e2) (c3 x.2.1)
     rw [show tot (cvl (fs.map (·.2))) (c3 x.2.1)=x.2.2 from h1]at h2
     obtain⟨y,G,ey⟩:=Om (a:=Z) (k:=c3 x.2.1) (by rw [<-h2];exact w.nn x q)
     have h3:=b2 y G
     rw [ey]at h3
     have h4:=Lr U (np x q)
     omega
 . rw [<-e,Uc w np]at W
   have:=ms.no W
   omega
noncomputable def Wo (K:Frag):Sp:=fun vs H Q _=>∃(v:V) (st:Bool) (S:Fq) (d n j:Nat),j<3/\vs=[v,.int (j:Nat)]/\Fo K H st v S d n/\d<=120/\∀(m:Nat) H',Same H H'->Mo j S m->m<=d->(S=0->m=0)->Q (.int (m:Nat)) H'
theorem Adl (F:Df K mg "_law_top" Q9 zS f fd)  (G:mg "max"=none)   :Cal P w K mg base 1 "_law_top" zS (Wo K):=by
 refine F.cal (F.fn.ok Ad3 (fun vs H Q E h=> ?_) (fun a0 A outer s H vs Q E hr h=> ?_))
 . obtain⟨v,st,S0,d,n,j,_,rfl,_⟩:=h
   rfl
 obtain⟨v,st,S0,d,n,j,hj,rfl,hv,U,k⟩:=h
 obtain⟨a,fs,rfl,w,_,np,e,b,z,l⟩:=hv.at
 have l':=Ey U l
 refine Bb ⟨_,(Ah (Ar (Bj (Kr K rfl) rfl G gA (Aa (Al V9 (Dl (Aa Ad Ac)) (Br (ts:=zQ) (fs:=[(1,"_law_here")]) rfl (Dy.of (sc:=Ax Q9) (N:=zS) rfl rfl (by decide+kernel)) (Cu (Af 0)) (fun _ _ _=>(Ds K 2 rfl rfl (Ak (Ao 0 (show Nodup (zO:List Str)by decide+kernel)) (Ak (Ao 1 (show Nodup (zO:List Str)by decide+kernel)) Bh)))) (fun _ _ _=>Bx) (fun _ _ _=>(Bf (Hu K) (Af 0) (Af 2) (fun _ _=>rfl))))) Ac)))),?_⟩
 done
 intro p hp
 have sp:=Same.upd hp (.lst [V.int 0])
 have gp:upd H p (.lst [V.int 0]) p=some (.lst [V.int 0]):=Ag
 generalize upd H p (.lst [V.int 0])=H1 at sp gp
 refine⟨⟨_,sp.tup w.it⟩,fun p1 W=>Gg (es:=fs) (inj:=(·.1)) (fun e=> .int (e.2.1.getD j 0)) (aO l' (by decide)) W (Hq (sp.tup w.it)) ?_ ?_⟩
 . intro e H2 R J O hR
   obtain⟨⟨b,d,eb,hb,U⟩,ln⟩:=(w.al e J).mono (sp.trans O)
   rw [eb]
   refine Dh hb ?_
   done
   refine El U (v:= .int (e.2.1.getD j 0)) (Gf ?_) (hR _ (Same.refl _))
   rw [aZ,aP,aG (by omega)]
   rfl
 intro H2 O h2
 have em:fs.map (fun e=>V.int (e.2.1.getD j 0))=(fs.map fun e=>e.2.1.getD j 0).map V.int:=by rw [aK];rfl
 rw [em]at h2
 refine⟨p,p1,_,_,rfl,rfl,O _ _ gp,h2,?_,fun p3 Z=> ?_⟩
 . rw [aB,aB]
   exact aO (show 1+_<=1771562 by omega) (by decide)
 refine⟨p3,0::(fs.map fun e=>e.2.1.getD j 0),rfl,.inl (.of Ag),List.cons_ne_nil _ _,fun M hM hB=> ?_⟩
 have s3:=Same.upd Z (.lst ([V.int 0]++(fs.map fun e=>e.2.1.getD j 0).map V.int))
 have g0:∀e∈fs,0<=e.2.1.getD j 0:=fun e J=>by
  have:=Lr hj (np e J)
  omega
 have ms:Mst fs j M:=⟨fun e J=>hB _ (.tail _ (aD.mpr ⟨e,J,rfl⟩)),fun z=>by
  subst z
  simpa using hM,fun n=>by
  rcases aQ.mp hM with q | q
  . obtain⟨x,L⟩:=List.exists_mem_of_ne_nil _ n
    have h1:=g0 x L
    have h2:=hB _ (.tail _ (aD.mpr ⟨x,L,rfl⟩))
    exact⟨x,L,by omega⟩
  . obtain⟨x,L,ex⟩:=aD.mp q
    exact⟨x,L,ex⟩⟩
 obtain⟨m,rfl,h1,h4,h5⟩:=Am1 hj w np e b ms
 exact k m _ ((sp.trans O).trans s3) h1 h4 h5
structure Rn (H:Hp) (a:Addr) (xs:List Int) (n:Nat):Prop where
 it:H a=some (.lst (xs.map V.int))
 tr:Trw xs
 sz:∀x∈xs,Sz n x
theorem Rn.mono {xs:List Int} (h:Rn H a xs n) (s:Same H H'):Rn H' a xs n:=⟨s _ _ h.it,h.tr,h.sz⟩
structure Sq (jn:Nat) (H H':Hp) (a b:Addr) (xs ys:List Int) (n:Nat):Prop where
 sm:Same H H'
 ra:Rn H' a xs n
 rb:Rn H' b ys n
 sh:Shd jn xs ys
 bd:n*3^(xs.length+ys.length)<=59049000
 n2:2<=n
theorem Sq.mono {q:Nat}{H H1 H2:Hp}{a b:Addr}{xs ys:List Int}{n:Nat} (h:Sq q H H1 a b xs ys n) (s:Same H1 H2):Sq q H H2 a b xs ys n:=⟨h.sm.trans s,h.ra.mono s,h.rb.mono s,h.sh,h.bd,h.n2⟩
structure Mx (jn:Nat) (M:List Int) (f:Int) (far n:Nat) (pre cur:List Int):Prop where
 len:cur.length=M.length
 ge:∀i,far+pre.length<=i->cur[i]? =M[i]?
 tch:∀i m w,i<pre.length->M[far+i]? =some m->pre[i]? =some w->cur[far+i]? =some (m-w*f)
 sz:∀x∈cur,Sz (2*n+1) x
 pl:plr jn cur=plr jn M-cF f*Yj jn far*plr jn pre
theorem Mx.step {U:Nat}{M q J:List Int}{f m w:Int}{far:Nat} (h:Mx U M f far n q J) (hm:M[far+q.length]? =some m) (zm:Sz (2*n) m) (zw:Sz n w) (zf:Sz n f):J[far+q.length]? =some m/\Mx U M f far n (q++ [w]) (J.set (far+q.length) (m-w*f)):=by
 have h1:=h.ge _ (aH _)
 rw [hm]at h1
 obtain⟨Z,he⟩:=bL.mp h1
 refine⟨h1,by rw [length_set];exact h.len,fun i hi=> ?_,fun i m' w' hi O L=> ?_,fun x hx=> ?_,?_⟩
 . rw [aL,dJ]at hi
   rw [jD (by omega)]
   exact h.ge i (by omega)
 . rw [aL,dJ]at hi
   by_cases c:i=q.length
   . subst c
     rw [cR (aH _),sub_self]at L
     rw [kT Z]
     rw [hm]at O
     cases O
     cases L
     rfl
   . rw [jW (by omega)]at L
     rw [jD (by omega)]
     exact h.tch i m' w' (by omega) O L
 . rcases List.mem_or_eq_of_mem_set hx with hx | rfl
   . exact h.sz x hx
   . have a1:m.natAbs<2^(2*n):=zm
     have a2:(w*f).natAbs<2^(n+n):=by
      rw [jT,jZ]
      exact Nat.mul_lt_mul'' zw zf
     rw [show n+n=2*n by omega]at a2
     show(m-w*f).natAbs<2^(2*n+1)
     rw [iG]
     omega
 . have e1:J=J.take (far+q.length)++m::J.drop (far+q.length+1):=by
    have:=(dH (far+q.length) J).symm
    rwa [gU Z,he]at this
   have e2:J.set (far+q.length) (m-w*f)=J.take (far+q.length)++(m-w*f)::J.drop (far+q.length+1):=by
    rw [List.set_eq_take_append_cons_drop,aI Z]
   have l1:(J.take (far+q.length)).length=far+q.length:=by rw [bT];omega
   have h2:=h.pl
   rw [e1]at h2
   rw [e2,Agz _ _ m,l1,h2,Qx,W2,show m-w*f-m=0-w*f by omega,Aee,Ao0,Ami]
   generalize plr U M=A
   generalize plr U q=B
   generalize Yj U far=C
   generalize Yj 0 q.length=D
   generalize cF f=G
   generalize cF w=W
   grind
theorem Amy {q:List Int}{N:Nat} (h:q.length=N) (G:0<N) (e:q[N-1]? =some 0):∃d,q=d++ [0]:=by
 rcases List.eq_nil_or_concat q with z | ⟨d,x,z⟩
 . rw [z,dX]at h
   omega
 . rw [List.concat_eq_append]at z
   rw [z,aL,dJ]at h
   rw [z,<-h,Nat.add_sub_cancel,cR (aH _),sub_self]at e
   cases e
   exact⟨d,z⟩
structure Pp (jn:Nat) (cur c:List Int) (N:Nat):Prop where
 pl:plr jn c=plr jn cur
 le:c.length<=N
 sz:∀x∈c,x∈cur
 last:c.length=N->∃d,c=d++ [0]
noncomputable def Oi (K:Frag):Sp:=fun vs H Q _=>∃(a b:Addr) (xs ys:List Int) (n jn:Nat),vs=[.ref a,.ref b]/\H a=some (.lst (xs.map V.int))/\H b=some (.lst (ys.map V.int))/\a≠b/\Trw xs/\Trw ys/\xs.length<=5/\ys.length<=5/\(∀x∈xs,Sz n x)/\(∀y∈ys,Sz n y)/\n+2<=1000/\ys≠ []/\Shd jn xs ys/\∀H',Same H H'->Q (.bl true) H'
theorem Uw (F:Df K mg "_law_shared" Jf yB f fd)  (J:mg "len"=none) (O:mg "enumerate"=none)   :Cal P w K mg base 1 "_law_shared" yB (Oi K):=by
 refine F.cal (F.fn.ok Ea (fun vs H Q E h=> ?_) (fun ai A outer s H vs Q E hr h=> ?_))
 . obtain⟨a,b,xs,ys,n,jn,rfl,_⟩:=h
   rfl
 obtain⟨a,b,xs,ys,n,jn,rfl,ha,hb,aj,tx,ty,lx,ly,zx,zy,hn,y0,sh,k⟩:=h
 refine Bb ⟨_,(Ae (Fv bX (Av (Sg hr.units) (Af 1) (Dl Ac) (Bl _)) (Ae (Fv bX (Av Ajr (Bj Bt rfl J dC (Aa (Af 0) Ac)) (Bj Bt rfl J dC (Aa (Af 1) Ac)) (Bl _)) (Ae (Ew (Aw (Aa (Bf Ht (Af 1) (Gj Kg Ad) (fun _ _=>rfl)) (Aa (Bf Ht (Af 0) (Gj Kg Ad) (fun _ _=>rfl)) (Aa (Al G7 (Bj Bt rfl J dC (Aa (Af 0) Ac)) (Bj Bt rfl J dC (Aa (Af 1) Ac))) Ac)))) (Ca rfl (Ak (Ao 2 Ea.nd) (Ak (Ao 3 Ea.nd) (Ak (Ao 4 Ea.nd) Bh)))))
  (Ae (M5 (ts:=["_law_weight_here"]) (fs:=[(2,"_law_lead")]) rfl (Dy.of (sc:=Ax Jf) (N:=zY) rfl rfl (by decide+kernel)) (Fl (Af 0)) (fun _ _ _=>(Ao 0 (show Nodup (["_law_weight_here","_law_lead"]:List Str)by decide+kernel))) (fun _ _ _=>Bx) (fun _ _ _=>(Al Fx (Af 0) (Af 1))) (Ao 0 Ea.nd))
  (Ae (Ce bX rfl (Yu rfl O (Aa (Af 1) Ac)) (Ca rfl (Ak (Ao 5 Ea.nd) (Ak (Ao 6 Ea.nd) Bh))) (Ah (Ew (Al G7 (Bf Ht (Af 0) (Al Cg (Af 5) (Af 4)) (fun _ _=>rfl)) (Al Fx (Af 6) (Af 3))) (Ys (Af 0) (Al Cg (Af 5) (Af 4)) set_list))))
  (Ah (Fv bX (Eb (Gw (Av (Sg hr.units) (Af 0) (Dl Ac) (Bl _)) (Hf (Av J7 (Bf Ht (Af 0) (Gj Kg Ad) (fun _ _=>rfl)) Ad (Bl _))))) (Ah (Fp (Yp eF slot_list_pop type_list_pop Ajn (Af 0))))))))))
  (Ah (M6 (i:=0) (j:=1) rfl Ea.nd rfl rfl (by decide) rfl rfl (Aa (Af 1) (Aa (Af 0) Ac)) rfl))))
  (Ah (Ar (Dp Aa1 (Bj Bt rfl J dC (Aa (Af 0) Ac)) Ad (Bl _))))),?_⟩
 done
 have a9:Sq jn H H a b xs ys (n+2):=⟨Same.refl _,⟨ha,tx,fun x hx=>(zx x hx).mono (by omega)⟩,⟨hb,ty,fun x hx=>(zy x hx).mono (by omega)⟩,sh,aO (fS (show n+2<=1000 by omega) (fL (by decide) (show xs.length+ys.length<=10 by omega))) (by decide),by omega⟩
 refine Oo (fun m G H'=>∃(a b:Addr) (xs ys:List Int) (n:Nat) (o2 o3 o4 Z o6:Option V),m=ys.length/\G=[some (.ref a),some (.ref b),o2,o3,o4,Z,o6]/\Sq jn H H' a b xs ys n) _ ⟨a,b,xs,ys,_,_,_,_,_,_,rfl,rfl,a9⟩ ?_
 rintro m G H1 ⟨a,b,xs,ys,n,o2,o3,o4,Z,o6,rfl,rfl,sq⟩
 done
 refine⟨by decide,fun p hp=> ?_⟩
 have s1:=Same.upd hp (.lst [])
 refine Qf (ms:=[]) (.of (s1 _ _ sq.rb.it)) (.of Ag) ?_
 replace sq:=sq.mono s1
 generalize upd H1 p (.lst [])=H2 at sq
 clear s1 hp
 try done
 by_cases c:ys=[]
 . rw [aI c]
   refine⟨a,_,rfl,.inl (.of sq.ra.it),?_⟩
   have:=sq.sh.no c
   try done
   rw [aB,cD (by omega)]
   exact k _ sq.sm
 rw [aF c]
 refine Ach ?_
 done
 refine Oo (fun m2 G H'=>∃(a:Addr) (xs:List Int) (n:Nat) (o2 o3 o4 Z o6:Option V),m2=xs.length/\G=[some (.ref a),some (.ref b),o2,o3,o4,Z,o6]/\Sq jn H H' a b xs ys n) _ ⟨a,xs,n,_,_,_,_,_,rfl,rfl,sq⟩ ?_
 clear sq
 rintro m2 G H3 ⟨a,xs,n,o2,o3,o4,Z,o6,rfl,rfl,sq⟩
 done
 refine⟨a,_,rfl,.inl (.of sq.ra.it),⟨b,_,rfl,.inl (.of sq.rb.it),?_⟩⟩
 try done
 rw [aB,aB]
 by_cases c2:ys.length<=xs.length
 . rw [aI (by omega)]
   refine Ach ?_
   have y0:=eA.mpr c
   obtain⟨ya,l,ey,l0⟩:=sq.rb.tr.resolve_left c
   obtain⟨xa,f,ex,f0⟩:=sq.ra.tr.resolve_left fun z=>by rw [z,dX]at c2;omega
   done
   refine Li (v:= .int l) (.of sq.rb.it) (by rw [ey,aJ];exact Ml _ _) ?_
   try done
   refine Li (v:= .int f) (.of sq.ra.it) (by rw [ex,aJ];exact Ml _ _) ?_
   try done
   refine⟨a,_,rfl,.inl (.of sq.ra.it),⟨b,_,rfl,.inl (.of sq.rb.it),?_⟩⟩
   try done
   refine⟨by decide,fun p3 a2=> ?_⟩
   obtain⟨far,ag⟩:∃far:Nat,far+ys.length=xs.length:=⟨xs.length-ys.length,by omega⟩
   rw [aB,aB,show(xs.length:Int)-(ys.length:Int)=(far:Int)by omega]
   have s3:=Same.upd a2 (.tup [V.int l,V.int f,V.int (far:Nat)])
   refine Ada (.of Ag) ?_
   replace sq:=sq.mono s3
   generalize upd H3 p3 (.tup [V.int l,V.int f,V.int (far:Nat)])=H4 at sq
   clear s3 a2
   have zl:Sz n l:=sq.rb.sz l (by rw [ey];simp)
   have zf:Sz n f:=sq.ra.sz f (by rw [ex];simp)
   have aa:0<xs.length:=by rw [ex];simp
   have ak:n*3<=59049000:=aO (Nat.mul_le_mul_left n (show 3^1<=3^(xs.length+ys.length)from fL (by decide) (by omega))) sq.bd
   have ab:xs.length<=16:=iR fun z=>by
    have h1:3^17<=3^(xs.length+ys.length):=fL (by decide) (by omega)
    have h2:=aO (fS sq.n2 h1) sq.bd
    exact absurd h2 (by decide)
   done
   refine⟨⟨_,.of sq.ra.it⟩,fun e he=>Gg (es:=xs) (inj:=V.int) (fun x=> .int (x*l)) ?_ he (Vg (.of sq.ra.it)) ?_ ?_⟩
   . exact aO ab (by decide)
   . intro x H5 R hx s5 hR
     done
     refine⟨(sq.ra.sz x hx).mulOk zl (by omega),hR _ (Same.refl _)⟩
   intro H5 s5 h5
   have em:xs.map (fun x=>V.int (x*l))=(xs.map (· *l)).map V.int:=by rw [aK];rfl
   rw [em]at h5
   obtain⟨M,hM⟩:∃M,M=xs.map (· *l):=⟨_,rfl⟩
   rw [<-hM]at h5
   have lM:M.length=xs.length:=by rw [hM,aB]
   have zM:∀m∈M,Sz (2*n) m:=fun m hm=>by
    rw [hM]at hm
    obtain⟨x,hx,rfl⟩:=aD.mp hm
    show(x*l).natAbs<2^(2*n)
    rw [jT,show 2*n=n+n by omega,jZ]
    exact Nat.mul_lt_mul'' (sq.ra.sz x hx) zl
   have ne:e≠b:=cS (Bg sq.rb.it he)
   have a3:=s5 _ _ sq.rb.it
   refine⟨⟨_,.of a3⟩,Aiw (es:=ys) (inj:=V.int) (fun L G H'=>∃(U:List Int) (Z o6:Option V),G=[some (.ref e),some (.ref b),some (.int l),some (.int f),some (.int (far:Nat)),Z,o6]/\(∀d u,d≠e->H5 d=some u->H' d=some u)/\H' e=some (.lst (U.map V.int))/\Mx jn M f far n L U) ⟨M,_,_,rfl,fun _ _ _ z=>z,h5,rfl,fun _ _=>rfl,fun i _ _ hi=>absurd hi (Nat.not_lt_zero i),fun x hx=>(zM x hx).mono (by omega),?_⟩ ?_ ?_ ?_⟩
   . rw [Aba]
     grind
   . rintro L G H' ⟨U,Z,o6,rfl,kp,W,mx⟩
     exact .of (kp _ _ (cS ne) a3)
   . rintro L w ah G H6 q hE ⟨U,Z,o6,rfl,kp,W,mx⟩ hq
     have sb:=Same.upd hq (.tup [V.int (L.length:Nat),V.int w])
     refine Dh (.of Ag) ?_
     have a1:=sb _ _ W
     have a4:∀d u,d≠e->H5 d=some u->upd H6 q (.tup [V.int (L.length:Nat),V.int w]) d=some u:=fun d u n e=>sb _ _ (kp d u n e)
     generalize upd H6 q (.tup [V.int (L.length:Nat),V.int w])=H7 at a1 a4
     clear sb hq kp W
     have hw:w∈ys:=by rw [hE];simp
     have lt:L.length<ys.length:=by rw [hE,aL,bU];omega
     have a5:far+L.length<M.length:=by omega
     obtain⟨m,hm⟩:∃m,M[far+L.length]? =some m:=⟨_,aG a5⟩
     obtain⟨ac,ad⟩:=mx.step hm (zM m (dR hm)) (sq.rb.sz w hw) zf
     done
     rw [show(L.length:Int)+(far:Int)=((far+L.length:Nat):Int)by omega]
     refine Li (v:= .int m) (.of a1) (Gf (by rw [aZ,ac];rfl)) ?_
     try done
     refine⟨(sq.rb.sz w hw).mulOk zf (by omega),?_⟩
     refine Amr a1 (by rw [aB,mx.len];exact a5) ?_
     refine⟨_,_,_,rfl,fun d u n e=>by rw [Bm n];exact a4 d u n e,?_,ad⟩
     rw [Ag,<-List.map_set]
   . rintro G H6 ⟨U,Z,o6,rfl,kp,W,mx⟩
     have a6:∃d,U=d++ [0]:=by
      have i1:far+(ys.length-1)=xs.length-1:=by omega
      have e1:M[far+(ys.length-1)]? =some (f*l):=by
       rw [hM,i1,ex,aJ,cR (by simp)]
       simp
      have e2:ys[ys.length-1]? =some l:=by
       rw [ey,cR (by simp)]
       simp
      have e3:=mx.tch _ _ _ (by omega) e1 e2
      rw [i1,show f*l-l*f=0 by rw [Int.mul_comm];omega]at e3
      exact Amy (mx.len.trans lM) aa e3
     have a7:∀(c3:List Int) (Hx:Hp) (Z o6:Option V),(∀d u,d≠e->H5 d=some u->Hx d=some u)->Hx e=some (.lst (c3.map V.int))->Pp jn U c3 xs.length->Trw c3->∃m',m'<xs.length/\∃(a:Addr) (xs:List Int) (n:Nat) (o2 o3 o4 ae af:Option V),m'=xs.length/\[some (.ref e),some (.ref b),some (.int l),some (.int f),some (.int (far:Nat)),Z,o6]=[some (.ref a),some (.ref b),o2,o3,o4,ae,af]/\Sq jn H Hx a b xs ys n:=by
      intro c3 Hx Z o6 kp W pp tr
      have lt:c3.length<xs.length:=Nat.lt_of_le_of_ne pp.le fun z=>by
       obtain⟨d,ed⟩:=pp.last z
       rcases tr with w | ⟨d',x,w,x0⟩
       . rw [w,dX]at z
         omega
       . rw [w]at ed
         have:=(List.append_inj' ed rfl).2
         exact x0 (kF this).1
      have a8:Same H4 Hx:=fun d u hd=>kp d u (Bg hd he) (s5 _ _ hd)
      have rb:=sq.rb.mono a8
      refine⟨c3.length,lt,e,c3,2*n+1,_,_,_,_,_,rfl,rfl,sq.sm.trans a8,⟨W,tr,fun x hx=>mx.sz x (pp.sz x hx)⟩,⟨rb.it,rb.tr,fun x hx=>(rb.sz x hx).mono (by omega)⟩,sq.sh.step (l:=l) (f:=f) (far:=far) c (by rw [pp.pl,mx.pl,hM];unfold plr;rw [Aa9]),?_,by have:=sq.n2;omega⟩
      refine aO ?_ sq.bd
      have h1:3^(c3.length+ys.length)*3<=3^(xs.length+ys.length):=by
       rw [<-iG]
       exact fL (by decide) (by omega)
      have h2:(2*n+1)*3^(c3.length+ys.length)<=(n*3)*3^(c3.length+ys.length):=bS _ (by have:=sq.n2;omega)
      refine aO h2 ?_
      rw [Nat.mul_assoc,Nat.mul_comm 3]
      exact Nat.mul_le_mul_left _ h1
     refine Oo (fun m G H'=>∃(c:List Int) (Z o6:Option V),m=c.length/\G=[some (.ref e),some (.ref b),some (.int l),some (.int f),some (.int (far:Nat)),Z,o6]/\(∀d u,d≠e->H5 d=some u->H' d=some u)/\H' e=some (.lst (c.map V.int))/\Pp jn U c xs.length) _ ⟨U,_,_,rfl,rfl,kp,W,rfl,eJ (mx.len.trans lM),fun x hx=>hx,fun _=>a6⟩ ?_
     rintro m G H7 ⟨c3,Z,o6,rfl,rfl,kp,W,pp⟩
     done
     refine⟨by decide,fun p hp=> ?_⟩
     have s7:=Same.upd hp (.lst [])
     refine Qf (ms:=[]) (.of (s7 _ _ W)) (.of Ag) ?_
     replace W:=s7 _ _ W
     have a0:∀d u,d≠e->H5 d=some u->upd H7 p (.lst []) d=some u:=fun d u n e=>s7 _ _ (kp d u n e)
     generalize upd H7 p (.lst [])=H8 at W a0
     clear s7 hp kp
     try done
     rcases List.eq_nil_or_concat c3 with z | ⟨d,x,z⟩
     . rw [aI z]
       exact a7 c3 H8 _ _ a0 W pp (.inl z)
     . rw [List.concat_eq_append]at z
       rw [aF (by rw [z];simp)]
       refine Li (v:= .int x) (.of W) (by rw [z,aJ];exact Ml _ _) ?_
       try done
       by_cases x0:x=0
       . rw [aI x0]
         refine Ach ?_
         done
         subst x0
         have hp:=pp.pl
         have hl:=pp.le
         rw [z,Agy]at hp
         rw [z,aL,dJ]at hl
         refine⟨.inl ⟨rfl,_,.of W⟩,e,_,.int 0,rfl,rfl,W,?_,d.length,by rw [z,aL,dJ];omega,d,_,_,rfl,rfl,fun q u n e=>by rw [Bm n];exact a0 q u n e,?_,hp,by omega,fun y hy=>pp.sz y (by rw [z];exact bD _ hy),fun w=>by omega⟩
         . rw [z,aJ,aL,aB]
           show(d.map V.int++ [V.int 0])[d.length+1-1]? =_
           rw [Nat.add_sub_cancel,cR (by simp)]
           simp
         . rw [Ag,z,aJ]
           show some (HO.lst (d.map V.int++ [V.int 0]).dropLast)=_
           rw [List.dropLast_concat]
       . rw [aF x0]
         exact a7 c3 H8 _ _ a0 W pp (.inr ⟨d,x,z,x0⟩)
 . rw [aF (by omega)]
   try done
   exact⟨xs.length,by omega,b,a,ys,xs,n,_,_,_,_,_,rfl,rfl,sq.sm,sq.rb,sq.ra,sq.sh.swap c sq.ra.tr sq.rb.tr (by omega),by rw [jM];exact sq.bd,sq.n2⟩
theorem Wr {j:Nat} (T:Int->Int) (k:M3):∀(n s:Nat),tot (K1 j s ((range' s n).map fun h=>T (h:Nat))) k=if k=ej j (pw3 j k)/\s<=pw3 j k/\pw3 j k<s+n then T (pw3 j k:Nat)else 0
 | 0,s=>by
   rw [aF (by omega)]
   rfl
 | n+1,s=>by
   show(if ej j s=k then T (s:Nat)else 0)+tot (K1 j (s+1) ((range' (s+1) n).map fun h=>T (h:Nat))) k=_
   rw [Wr T k n (s+1)]
   by_cases c:ej j s=k
   . have q:pw3 j k=s:=by rw [<-c,Pg]
     rw [aI c,q,aF (by omega),aI ⟨c.symm,by omega,by omega⟩,fM]
   . rw [aF c,eK]
     by_cases d:k=ej j (pw3 j k)
     . have:pw3 j k≠s:=fun z=>c (by rw [<-z];exact d.symm)
       by_cases e:s+1<=pw3 j k/\pw3 j k<s+1+n
       . rw [aI ⟨d,e⟩,aI ⟨d,by omega,by omega⟩]
       . rw [aF (fun z=>e z.2),aF (fun z=>e ⟨by omega,by omega⟩)]
     . rw [aF (fun z=>d z.1),aF (fun z=>d z.1)]
theorem Afe {j:Nat} (k:M3):∀ts:List (Int × Int),(∀e∈ts,0<=e.1)->tot (ts.map fun e=>(ej j e.1.toNat,e.2)) k=if k=ej j (pw3 j k)then Dt ts (pw3 j k:Nat)else 0
 | [],_=>by split<;>rfl
 | e::r,h=>by
   have G:=h e (.head _)
   show(if ej j e.1.toNat=k then e.2 else 0)+tot (r.map _) k=if _ then(if e.1=((pw3 j k:Nat):Int)then e.2 else 0)+Dt r (pw3 j k:Nat)else 0
   rw [Afe k r fun x q=>h x (.tail _ q)]
   by_cases c:k=ej j (pw3 j k)
   . rw [aI c,aI c]
     by_cases d:ej j e.1.toNat=k
     . have:pw3 j k=e.1.toNat:=by rw [<-d,Pg]
       rw [aI d,aI (by omega)]
     . rw [aF d,aF fun z=>d (by rw [show e.1.toNat=pw3 j k by omega];exact c.symm)]
   . have d:¬ej j e.1.toNat=k:=fun z=>c (by rw [<-z,Pg])
     rw [aF c,aF c,aF d]
     rfl
theorem Aka {ts:List (Int × Int)} (h:∀e∈ts,0<=e.1) (q:∀k:Nat,n<=k->Dt ts (k:Nat)=0):plr j ((List.range n).map fun h=>Dt ts (h:Nat))=fq (ts.map fun e=>(ej j e.1.toNat,e.2)):=Gh fun k=>by
 rw [List.range_eq_range',Wr (Dt ts) k n 0,Afe k ts h]
 by_cases c:k=ej j (pw3 j k)
 . rw [aI c]
   by_cases d:pw3 j k<n
   . rw [aI ⟨c,bO _,by omega⟩]
   . rw [aF fun z=>d (by omega),q _ (by omega)]
 . rw [aF c,aF fun z=>c z.1]
noncomputable def wAt (j:Nat) (o:Nat->Int) (ks:List Int) (w:Int):Nat->Int
 | 0=>w
 | k+1=>if k=j then wAt j o ks w k else wAt j o ks w k*o k^(ks.getD k 0).toNat
theorem Anv (q:j<3) (o:Nat->Int) {ks:List Int} (np:Np ks) (w:Int):wAt j o ks w 3=w*oth j o (c3 ks):=by
 obtain⟨a,b,c,rfl,e⟩:=np.ex
 rw [e]
 have:j=0\/j=1\/j=2:=by omega
 rcases this with rfl | rfl | rfl
 . show(w*o 1^b)*o 2^c=w*(o 1^b*o 2^c)
   rw [iZ]
 . show(w*o 0^a)*o 2^c=w*(o 0^a*o 2^c)
   rw [iZ]
 . show(w*o 0^a)*o 1^b=w*(o 0^a*o 1^b)
   rw [iZ]
noncomputable def tsA (j:Nat) (o:Nat->Int) (fs:List (List Int × Int)):List (Int × Int):=fs.map fun e=>(e.1.getD j 0,wAt j o e.1 e.2 3)
theorem Akv (q:j<3) (o:Nat->Int) {fs:List (List Int × Int)} (np:∀e∈fs,Np e.1):(tsA j o fs).map (fun e=>(ej j e.1.toNat,e.2))=evO j o (cvl fs):=by
 unfold tsA evO cvl
 rw [aK,aK]
 refine bR fun e G=> ?_
 show(ej j (e.1.getD j 0).toNat,wAt j o e.1 e.2 3)=(ej j (pw3 j (c3 e.1)),e.2*oth j o (c3 e.1))
 rw [Anv q o (np e G),<-Lr q (np e G)]
 rfl
theorem Aju (o:Nat->Int) {i:Nat} (hi:i<3):[V.int (o 0),V.int (o 1),V.int (o 2)][i]? =some (.int (o i)):=by
 have:i=0\/i=1\/i=2:=by omega
 rcases this with e | e | e<;>(rw [e];rfl)
theorem Ahu {q:Key × V} (G:(kvs.map (·.1)).Nodup) (h:q∈kvs):Fe kvs q.1=some q.2:=by
 induction kvs with
 | nil=>cases h
 | cons p r J=>
   have n:=cZ.mp G
   rcases aQ.mp h with rfl | h
   . exact Cw rfl
   . rw [Cd fun z=>n.1 (aD.mpr ⟨q,h,z.symm⟩)]
     exact J n.2 h
noncomputable def Ao3:Key->Int
 | .inl i=>i
 | .inr _=>0
theorem Acb {v:V}{k:Key}:∀ {kvs:List (Key × V)},Fe kvs k=some v->(k,v)∈kvs
 | [],h=>by cases h
 | p::r,h=>by
   by_cases c:p.1=k
   . rw [Cw c]at h
     cases h
     subst c
     exact .head _
   . rw [Cd c]at h
     exact .tail _ (Acb h)
theorem Ahs {ts:List (Int × Int)} (h:ts.length<=64/\∀e∈ts,Sz (141+60*3) e.2) (k:Int):Sz 900 (Dt ts k):=by
 have:∀l:List (Int × Int),(∀e∈l,Sz (141+60*3) e.2)->(Dt l k).natAbs<=l.length*2^(141+60*3):=fun l=>by
  induction l with
  | nil=>exact fun _=>bO _
  | cons e r q=>
    intro h
    have h1:=q fun x G=>h x (.tail _ G)
    have h2:e.2.natAbs<2^(141+60*3):=h e (.head _)
    show((if e.1=k then e.2 else 0)+Dt r k).natAbs<=(r.length+1)*2^(141+60*3)
    generalize 2^(141+60*3)=B at*
    rw [fK]
    split<;>omega
 have h1:=this ts h.2
 have h2:ts.length*2^(141+60*3)<=64*2^(141+60*3):=bS _ h.1
 exact cY (aO h1 h2) (by decide)
theorem Abp {d:Addr}{J:List (Key × V)} (h:SqT K H a xs) (q:∀b u,b≠d->H b=some u->H' b=some u) (G:H d=some (.dK J)):SqT K H' a xs:=by
 rcases h with(e | ⟨o,e⟩) | h
 . exact .inl (.inl (q _ _ (Ih e G (fun z=>nomatch z)) e))
 . exact .inl (.inr ⟨o,q _ _ (Ih e G (fun z=>nomatch z)) e⟩)
 . exact .inr h
theorem Akr {t:Nat}{w x:Int} (h:Sz n w) (g:Sz 20 x):Sz (n+20*t) (w*x^t):=by
 show(w*x^t).natAbs<2^(n+20*t)
 rw [jT,Int.natAbs_pow,jZ,Nat.pow_mul]
 have h1:x.natAbs^t<=(2^20)^t:=Nat.pow_le_pow_left (eR g) t
 have h2:0<(2^20)^t:=Nat.pow_pos (by decide)
 exact cY (Nat.mul_le_mul_left _ h1) (Nat.mul_lt_mul_of_pos_right h h2)
theorem Acd {j:Nat}{o:Nat->Int}{ks:List Int}{w:Int} (q:∀i,Sz 20 (o i)) (G:∀i,(ks.getD i 0).toNat<=3) (J:Sz 141 w):∀k,Sz (141+60*k) (wAt j o ks w k)
 | 0=>J
 | k+1=>by
   have L:=Acd (j:=j) q G J k
   show Sz _ (if k=j then wAt j o ks w k else wAt j o ks w k*o k^(ks.getD k 0).toNat)
   split
   . exact L.mono (by omega)
   . have:=G k
     exact(Akr (t:=(ks.getD k 0).toNat) L (q k)).mono (by omega)
noncomputable def Abo (K:Frag):Sp:=fun vs H Q _=>∃(v:V) (l:Addr) (st:Bool) (S:Fq) (j:Nat) (o:Nat->Int),j<3/\vs=[v,.int (j:Nat),.ref l]/\H l=some (.lst [.int (o 0),.int (o 1),.int (o 2)])/\(∀i,Sz 20 (o i))/\Fo K H st v S 3 140/\
 ∀z H' row F,Same H H'->H z=none->H' z=some (.lst (row.map V.int))->Trw row->row.length<=4->(∀x∈row,Sz 900 x)->fq F=S->plr j row=fq (evO j o F)->Q (.ref z) H'
theorem Agh (F:Df K mg "_law_at" Sx zK f fd)  (a2:mg "max"=none) (J:mg "range"=none)   :Cal P w K mg base 1 "_law_at" zK (Abo K):=by
 refine F.cal (F.fn.ok Iv (fun vs H Q E h=> ?_) (fun aw A outer s H vs Q E hr h=> ?_))
 . obtain⟨v,l,st,S0,j,o,_,rfl,_⟩:=h
   rfl
 obtain⟨v,l,st,S0,j,o,hj,rfl,hl,ho,hv,k⟩:=h
 obtain⟨a,fs,rfl,w,_,np,es,b,z,lf⟩:=hv.at
 have af:fs.length<=64:=lf
 refine Bb ⟨_,(Ae (Ay 3 Iv.nd Kq)
  (Ae (Ce bX rfl (Cu (Af 0)) (Ca rfl (Ak (Ao 5 Iv.nd) (Ak (Ao 6 Iv.nd) Bh))) (Ae (Ce bX rfl (Dg rfl J (Aa Ad Ac)) (Ao 7 Iv.nd) (Ah (Bp (Av Nk (Af 7) (Af 1) (Bl _)) (Ah (Ce bX rfl (Dg rfl J (Aa (Bf Du (Af 5) (Af 7) (fun _ _=>rfl)) Ac)) (Ao 8 Iv.nd) (Ah (Ay 6 Iv.nd (Al Fx (Af 6) (Bf Ht (Af 2) (Af 7) (fun _ _=>rfl))))))) Bc)))
  (Ah (Gs (hu1 hr.units) (Af 3) (Bf Du (Af 5) (Af 1) (fun _ _=>rfl)) (Al Cg (Fg (hu1 hr.units) (Af 3) (Bf Du (Af 5) (Af 1) (fun _ _=>rfl)) Ad ⟨rfl,rfl,rfl,rfl⟩) (Af 6)) rfl))))
  (Ae (Ay 4 Iv.nd (Bj (Kr K rfl) rfl a2 gA (Aa (Al V9 (Dl (Aa (Gj Kg Ad) Ac)) (Br (ts:=yI) (fs:=[]) rfl (Dy.of (sc:=Ax Sx) (N:=zD) rfl rfl (by decide+kernel)) (S.Nm (Af 3) ⟨rfl,rfl,rfl,rfl⟩) (fun _ _ _=>(Ds K 2 rfl rfl (Ak (Ao 0 (show Nodup (yI:List Str)by decide+kernel)) (Ak (Ao 1 (show Nodup (yI:List Str)by decide+kernel)) Bh)))) (fun _ _ _=>(Jc (Av Nk (Af 1) Ad (Bl _)))) (fun _ _ _=>(Af 0)))) Ac)))
  (Ah (Ar (Br (ts:=["_law_height"]) (fs:=[(3,"_law_found")]) rfl (Dy.of (sc:=Ax Sx) (N:=zD) rfl rfl (by decide+kernel)) (Dg rfl J (Aa (Al Cg (Af 4) Ad) Ac)) (fun _ _ _=>(Ao 0 (show Nodup (["_law_height","_law_found"]:List Str)by decide+kernel))) (fun _ _ _=>Bx) (fun _ _ _=>(Fg (hu1 hr.units) (Af 1) (Af 0) Ad ⟨rfl,rfl,rfl,rfl⟩)))))))),?_⟩
 done
 intro d hd
 have s1:=Same.upd hd (.dK [])
 have d1:upd H d (.dK []) d=some (.dK []):=Ag
 generalize upd H d (.dK [])=H1 at s1 d1
 have nl:l≠d:=Bg hl hd
 have ag:=s1 _ _ hl
 refine⟨⟨_,s1.tup w.it⟩,Oq (es:=fs) (inj:=(·.1)) (fun Z G H'=>∃(kvs:List (Key × V)) (ks:List Int) (o5 o6 o7 W:Option V),G=[some (.ref a),some (.int (j:Nat)),some (.ref l),some (.ref d),none,o5,o6,o7,W]/\Sud H1 H' d kvs ks (tsA j o (Z.map (·.2)))) ⟨[],[],_,_,_,_,rfl,fun _ _ _ e=>e,d1,rfl,.nil,aH _,by simp,fun _=> .inr ⟨rfl,rfl,by simp⟩⟩ ?_ ?_ ?_⟩
 . rintro Z G H' ⟨kvs,ks,o5,o6,o7,W,rfl,U⟩
   exact Mw (Abp (s1.tup w.it) U.kp d1)
 . rintro Z e av G H2 hE ⟨kvs,ks,o5,o6,o7,W,rfl,U⟩
   have O:e∈fs:=by rw [hE];simp
   obtain⟨⟨pt,pk,ee,ah,ai⟩,ln⟩:=(w.al e O).mono s1
   have a7:=Abp ah U.kp d1
   have a0:=Abp ai U.kp d1
   have aj:=U.kp _ _ nl ag
   have ix:∀i,i<3->(e.2.1.map V.int)[i]? =some (.int (e.2.1.getD i 0)):=fun i hi=>by
    rw [aZ,aP,aG (by omega)]
    rfl
   have p3:∀i,i<3->0<=e.2.1.getD i 0/\e.2.1.getD i 0<=3:=fun i hi=>by
    refine b e O _ ?_
    rw [aP,aG (by omega)]
    exact cE _
   have ak:∀i,(e.2.1.getD i 0).toNat<=3:=fun i=>by
    by_cases hi:i<3
    . have:=p3 i hi
      omega
    . rw [aP,gD (by omega)]
      decide
   have zw:=Acd (j:=j) ho ak (z e O)
   rw [ee]
   refine Dh a7 ?_
   done
   refine⟨by decide,by decide,?_⟩
   rw [show toNat 3=3 from rfl]
   refine Ah4 3 (fun i=> .int (0+(i:Nat))) (fun i G H'=>H'=H2/\∃o7 W:Option V,G=[some (.ref a),some (.int (j:Nat)),some (.ref l),some (.ref d),none,some (.ref pk),some (.int (wAt j o e.2.1 e.2.2 i)),o7,W]) ⟨rfl,_,_,rfl⟩ ?_ ?_ ?_
   . rintro i G H' _
     exact Gu
   . rintro i G H' hi ⟨eH,o7,W,rfl⟩
     subst eH
     rw [eK]
     have we:wAt j o e.2.1 e.2.2 (i+1)=if i=j then wAt j o e.2.1 e.2.2 i else wAt j o e.2.1 e.2.2 i*o i^(e.2.1.getD i 0).toNat:=rfl
     done
     by_cases c:i=j
     . rw [aI (by omega)]
       exact⟨some (.int (i:Nat)),W,by rw [we,aI c]⟩
     . rw [aF (by omega)]
       have pi:=p3 i hi
       refine El a0 (v:= .int (e.2.1.getD i 0)) (Gf (ix i hi)) ?_
       refine⟨_,rfl,by omega,by omega,?_⟩
       refine Ah4 (e.2.1.getD i 0).toNat (fun t=> .int (0+(t:Nat))) (fun t G Hx=>Hx=H'/\∃W:Option V,G=[some (.ref a),some (.int (j:Nat)),some (.ref l),some (.ref d),none,some (.ref pk),some (.int (wAt j o e.2.1 e.2.2 i*o i^t)),some (.int (i:Nat)),W]) ⟨rfl,W,by rw [Int.pow_zero,jE]⟩ ?_ ?_ ?_
       . rintro t G Hx _
         exact Gu
       . rintro t G Hx ht ⟨eX,W,rfl⟩
         subst eX
         done
         refine Li (v:= .int (o i)) (.of aj) (Gf (Aju o hi)) ?_
         try done
         refine⟨((Akr (zw i) (ho i)):Sz _ (wAt j o e.2.1 e.2.2 i*o i^t)).mulOk (ho i) (by omega),some (.int (0+(t:Nat))),?_⟩
         rw [Int.pow_succ,<-iZ]
       . rintro G Hx ⟨eX,W,rfl⟩
         subst eX
         exact⟨rfl,some (.int (i:Nat)),W,by rw [we,aF c]⟩
   . rintro G H' ⟨eH,o7,W,rfl⟩
     subst eH
     done
     refine⟨.inl ⟨kvs,.inl U.it⟩,El a0 (v:= .int (e.2.1.getD j 0)) (Gf (ix j hj)) ⟨_,Aft U.it,?_⟩⟩
     obtain⟨ts,L⟩:∃ts,tsA j o (Z.map (·.2))=ts:=⟨_,rfl⟩
     have a8:tsA j o ((Z++ [e]).map (·.2))=ts++ [(e.2.1.getD j 0,wAt j o e.2.1 e.2.2 3)]:=by
      rw [<-L]
      unfold tsA
      rw [aJ,aJ]
      rfl
     have ax:ts.length<=64:=by
      rw [<-L]
      unfold tsA
      have:=bK length hE
      rw [aL]at this
      rw [aB,aB]
      omega
     rw [a8]
     rw [L]at U
     have ev:(Fe kvs (.inl (e.2.1.getD j 0))).getD (.int 0)= .int (Dt ts (e.2.1.getD j 0)):=by
      rcases U.su.vl (e.2.1.getD j 0)with⟨h,_⟩ | ⟨h,h0,_⟩
      . rw [h]
        rfl
      . rw [h,h0]
        rfl
     rw [ev]
     try done
     obtain⟨a9,am,an⟩:=U.put (e.2.1.getD j 0) (wAt j o e.2.1 e.2.2 3)
     refine El a0 (v:= .int (e.2.1.getD j 0)) (Gf (ix j hj)) ⟨d,_,rfl,Ac3 U.it ?_,a9,am,_,_,_,_,rfl,an⟩
     have h1:=bK length U.su.ky
     rw [aB,aB]at h1
     have h2:=U.su.le
     exact cY (show kvs.length<=64 by omega) (by decide)
 rintro G H2 ⟨kvs,ks,o5,o6,o7,W,rfl,U⟩
 done
 obtain⟨ts,L⟩:∃ts,tsA j o (fs.map (·.2))=ts:=⟨_,rfl⟩
 rw [L]at U
 obtain⟨kp,it,su⟩:=U
 have a3:Same H H2:=fun b u e=>kp _ _ (Bg e hd) (s1 _ _ e)
 intro p hp
 have sp:=Same.upd hp (.lst [V.int (-1)])
 have gp:upd H2 p (.lst [V.int (-1)]) p=some (.lst [V.int (-1)]):=Ag
 have ao:p≠d:=cS (Bg it hp)
 replace it:=sp _ _ it
 have ay:H p=none:=by
  cases e:H p with
  | none=>rfl
  | some u=>rw [a3 _ _ e]at hp;cases hp
 have aa:=a3.trans sp
 generalize upd H2 p (.lst [V.int (-1)])=H3 at it gp aa
 clear a3 sp kp
 have kI:∀q∈kvs,∃i,q.1=Sum.inl i/\i∈ks:=fun q hq=>by
  have:q.1∈kvs.map (·.1):=aD.mpr ⟨q,hq,rfl⟩
  rw [su.ky]at this
  obtain⟨i,hi,e⟩:=aD.mp this
  exact⟨i,e.symm,hi⟩
 have ap:(kvs.map (·.1)).Nodup:=by
  rw [su.ky]
  exact bC.mpr (su.nd.imp fun h z=>h (fJ z))
 have vl:∀q∈kvs,∃i,q.1=Sum.inl i/\q.2= .int (Dt ts i):=fun q hq=>by
  obtain⟨i,e,hi⟩:=kI q hq
  have h1:=Ahu ap hq
  rw [e]at h1
  rcases su.vl i with⟨h,_⟩ | ⟨h,_,_⟩
  . rw [h]at h1
    exact⟨i,e,(bE h1).symm⟩
  . rw [h]at h1
    cases h1
 have lk:kvs.length<=64:=by
  have h1:=bK length su.ky
  rw [aB,aB]at h1
  have h2:=su.le
  rw [<-L]at h2
  unfold tsA at h2
  rw [aB,aB]at h2
  omega
 refine⟨d,kvs,rfl,it,fun q hq=>by obtain⟨i,e,_⟩:=kI q hq;exact⟨i,e⟩,fun od p1 ab=> ?_⟩
 have g4:upd H3 d (.frz od (.dK kvs)) d=some (.frz od (.dK kvs)):=Ag
 have ac:upd H3 d (.frz od (.dK kvs)) p=some (.lst [V.int (-1)]):=by rw [Bm ao];exact gp
 have ad:Same H (upd H3 d (.frz od (.dK kvs))):=fun b u e=>by
  rw [Bm (Bg e hd)]
  exact aa _ _ e
 generalize upd H3 d (.frz od (.dK kvs))=H4 at g4 ac ad ab
 refine W8 (fun e=>decide (e.2≠ .int 0)) (fun e v H=>v=kV e.1) (fun e v H H' h s=>h) (fun e v H ys zs h hp=>h) (aO lk (by decide)) ab g4 ?_ ?_
 . intro e H5 q R RF O s5 hq k1 k2
   obtain⟨i,ei,ev⟩:=vl e O
   refine Dh (.of hq) ?_
   rw [ei,ev]
   done
   by_cases c:Dt ts i=0
   . rw [aI c]
     exact k2 (by rw [ev,c];rfl) _ (Same.refl _)
   . rw [aF c]
     exact k1 (by rw [ev];exact cD fun z=>c (V.int.inj z)) _ _ (Same.refl _) (by rw [ei])
 intro H5 vs s5 h5 hv aq
 obtain⟨hs,a1⟩:∃hs:List Int,hs=(kvs.filter fun e=>decide (e.2≠ .int 0)).map fun e=>Ao3 e.1:=⟨_,rfl⟩
 have e5:vs.map (·.1)=hs.map V.int:=by
  have h1:vs.map (·.1)=(vs.map (·.2)).map fun e=>kV e.1:=by
   rw [aK]
   exact bR fun x hx=>aq x hx
  rw [h1,hv,a1,aK]
  refine bR fun e O=> ?_
  obtain⟨i,ei,_⟩:=vl e (bQ.mp O).1
  show kV e.1=V.int (Ao3 e.1)
  rw [ei]
  rfl
 rw [e5]at h5
 have a4:∀h,h∈hs↔Dt ts h≠0:=fun h=>by
  constructor
  . intro hm
    rw [a1]at hm
    obtain⟨e,O,rfl⟩:=aD.mp hm
    obtain⟨O,hp⟩:=bQ.mp O
    obtain⟨i,ei,ev⟩:=vl e O
    rw [ei]
    intro z
    have hp:=cH hp
    exact hp (by rw [ev];show V.int (Dt ts i)=_;rw [show Dt ts i=0 from z])
  . intro h0
    rcases su.vl h with⟨e,_⟩ | ⟨_,e,_⟩
    . have hm:=Acb e
      rw [a1]
      exact aD.mpr ⟨_,bQ.mpr ⟨hm,cD fun z=>h0 (V.int.inj z)⟩,rfl⟩
    . exact absurd e h0
 have ae:∀e∈ts,0<=e.1/\e.1<=3:=fun e O=>by
  rw [<-L]at O
  obtain⟨x,hx,rfl⟩:=aD.mp O
  obtain⟨y,hy,rfl⟩:=aD.mp hx
  refine b y hy _ ?_
  have:=(np y hy).1
  show y.2.1.getD j 0∈y.2.1
  rw [aP,aG (by omega)]
  exact cE _
 have az:hs.length<=64:=by
  rw [a1,aB]
  exact aO (dM _ _) lk
 refine⟨p,p1,_,_,rfl,rfl,s5 _ _ ac,h5,aO (show 1+_<=65 by rw [aB];omega) (by decide),fun p2 ar=> ?_⟩
 have s6:=Same.upd ar (.lst ([V.int (-1)]++hs.map V.int))
 refine⟨p2,-1::hs,rfl,.inl (.of Ag),List.cons_ne_nil _ _,fun M hM hB=> ?_⟩
 have g6:=s6 _ _ (s5 _ _ g4)
 have a5:=(ad.trans s5).trans s6
 generalize upd H5 p2 (.lst ([V.int (-1)]++hs.map V.int))=H6 at g6 a5
 have M3: -1<=M/\M<=3:=by
  refine⟨hB _ (.head _),?_⟩
  rcases aQ.mp hM with e | e
  . omega
  . obtain⟨x,hx,ex⟩:=Kf ((a4 M).mp e)
    have:=ae x hx
    omega
 refine⟨by omega,by omega,fun z8 a6=> ?_⟩
 obtain⟨n,hn⟩:∃n,(M+1).toNat=n:=⟨_,rfl⟩
 rw [hn]
 refine Gg (es:=List.range n) (inj:=fun i=> .int (0+(i:Nat))) (fun i=> .int (Dt ts (i:Nat))) (by rw [cX];exact aO (show n<=4 by omega) (by decide)) a6 Rm ?_ ?_
 . intro i H7 R hi s7 hR
   done
   rw [eK]
   have g7:=s7 _ _ g6
   refine⟨.inl ⟨kvs,.inr ⟨od,g7⟩⟩,_,.inl ⟨kvs,.inl (i:Nat),.inr ⟨od,g7⟩,rfl,rfl⟩,?_⟩
   rcases su.vl (i:Nat)with⟨e,_⟩ | ⟨e,e0,_⟩
   . rw [e]
     exact hR _ (Same.refl _)
   . have:=hR _ (Same.refl _)
     rw [e0]at this
     rw [e]
     exact this
 intro H7 s7 h7
 have em:(List.range n).map (fun i=>V.int (Dt ts (i:Nat)))=((List.range n).map fun i=>Dt ts (i:Nat)).map V.int:=by rw [aK];rfl
 rw [em]at h7
 have as:H z8=none:=by
  cases e:H z8 with
  | none=>rfl
  | some u=>rw [a5 _ _ e]at a6;cases a6
 have au:∀i:Nat,n<=i->Dt ts (i:Nat)=0:=fun i hi=>jX fun z=>by
  have:=hB _ (.tail _ ((a4 _).mpr z))
  omega
 refine k z8 H7 _ (cvl (fs.map (·.2))) (a5.trans s7) as h7 ?_ (by rw [aB,cX];omega) (fun x hx=> ?_) es ?_
 . by_cases n0:n=0
   . exact .inl (by rw [n0];rfl)
   . right
     obtain⟨m,rfl⟩:∃m,n=m+1:=⟨n-1,by omega⟩
     refine⟨(List.range m).map fun i=>Dt ts (i:Nat),Dt ts (m:Nat),by rw [range_succ,aJ,List.map_singleton],?_⟩
     rcases aQ.mp hM with e | e
     . omega
     . have:=(a4 M).mp e
       rwa [show M=(m:Int)by omega]at this
 . obtain⟨i,_,rfl⟩:=aD.mp hx
   refine Ahs ?_ (i:Nat)
   rw [<-L]
   exact⟨by unfold tsA;rw [aB,aB];exact af,fun e O=>by
    obtain⟨x,hx,rfl⟩:=aD.mp O
    obtain⟨y,hy,rfl⟩:=aD.mp hx
    refine Acd (j:=j) ho (fun i=> ?_) (z y hy) 3
    by_cases hi:i<3
    . have hl:=(np y hy).1
      have:=b y hy (y.2.1.getD i 0) (by
       rw [aP,aG (by omega)]
       exact cE _)
      omega
    . rw [aP,gD (by have:=(np y hy).1;omega)]
      decide⟩
 . rw [Aka (fun e O=>(ae e O).1) au,<-L]
   exact bK fq (Akv hj o (Fb np))
theorem Afq {cσ:St}{g:TG}{te:TE}{Q:VK}{α:Type}{es:List α}{inj:α->V}{J:It} (M:Nat->List V->Hp->Prop) (hz:es.length<=sizeLine) (h0:M 0 [] (upd H1 p (.lst []))) (hl:∀i G H',M i G H'->G.length=i/\H' p=some (.lst G)) (hJ:∀i G H',M i G H'->Aec J H' es inj)
 (step:∀i e G H' R,es[i]? =some e->M i G H'->(∀v O,O p=some (.lst G)->M (i+1) (G++ [v]) (upd O p (.lst (G++ [v])))->R v O)->g (inj e) cσ H' fun L U=>Kp cσ L/\te L U R)
 (W:∀G H',M es.length G H'->Q (.ref p) H'):cIn J cσ g Mj te Q H1 p:=by
 refine⟨fun i m G H'=>m=es.length-i/\i<=es.length/\M i G H',⟨es.length,by simp,bO _,h0⟩,?_⟩
 rintro i m G H' ⟨rfl,hi,pv⟩
 obtain⟨al,ap⟩:=hl _ _ _ pv
 cases he:es[i]? with
 | none=>
   have e:i=es.length:=fI hi (cC.mp he)
   exact .inl ⟨(hJ _ _ _ pv i).1 he,W G _ (e▸pv)⟩
 | some e=>
   obtain⟨go,yl⟩:=(hJ _ _ _ pv i).2 e he
   refine .inr ⟨go,fun x H3 y=> ?_⟩
   obtain⟨rfl,rfl⟩:=yl x H3 y
   have Z:=(bL.mp he).1
   have q:=step i e G H3 (fun y O=>O p=some (.lst G)/\G.length<sizeLine/\∃m',m'<es.length-i/\m'=es.length-(i+1)/\i+1<=es.length/\M (i+1) (G++ [y]) (upd O p (.lst (G++ [y])))) he pv fun v O h6 a0=>⟨h6,by omega,_,by omega,rfl,Z,a0⟩
   have eq:∀(R:VK) (B:Hp->Prop),(fun L U=>Kp cσ L/\Mj L U fun b H5=>if b=true then te L H5 R else B H5)=(fun L U=>Kp cσ L/\te L U R):=fun R B=>by
    funext L U
    simp only [Mj,aI]
   rw [eq]
   exact q
theorem Ab7 {j:Int} (q:SqL K H1 a (ns.map V.int)) (G:Same H1 H) (J:0<=j) (h:Q (.int (cell ns j)) H):Iz K [.ref a,.int j] H Q E:=⟨a,ns,j,rfl,G.seq q,J,h⟩
theorem Ak1 (G:j<3) (q:Q (.str (nmS j)) H):Ao8 (.str "xyz") (.int (j:Nat)) H Q:=by
 have e:j=0\/j=1\/j=2:=by omega
 rcases e with e | e | e
 . subst e
   exact⟨_,0,120,rfl,rfl,by decide,by decide+kernel,q⟩
 . subst e
   exact⟨_,1,121,rfl,rfl,by decide,by decide+kernel,q⟩
 . subst e
   exact⟨_,2,122,rfl,rfl,by decide,by decide+kernel,q⟩
theorem Apa {G J:XK}{c:Int} (k:∀z H' S,Same H H'->Fo K H' true (.ref z) S 2 69->Q (.ref z) H'):Le K [.int c,.int 40] H (fun x H1=>Ji K [x,.int 4,.int 2] H1 (fun x H1=>Hy K [x] H1 Q E) G) J:=
 ⟨c,40,rfl,by decide,fun l H1 ns L M O=>Apc (m:=4) (q:=2) O (by decide) (by decide) fun z H2 ms S U W=>k z H2 S (U.back L M) W⟩
theorem Afr {ds:List Int}{E:XK} (hp:H1 p=none) (W:H1 l=some (.lst (ds.map V.int))) (J:∀o:Nat->Int,(∀i,Sz 20 (o i))->∀H' ms,Dr l H1 H' ms->H' p=some (.lst [.int (o 0),.int (o 1),.int (o 2)])->Q (.ref p) H'):
 cIn (Itr 0 (toNat 3)) [none,some (.ref l)] (Jq 0) Mj (tOp (rI0 fun i j=>V.int (i-j)) (S7 (G3 K) [] E (Yk (Ahp 1) (Yk (tOp (rI Aov fun i j=>V.int (i^j.toNat)) (tC (V.int 10)) (tC (V.int 6))) Al5))) (tC (V.int 5))) Q H1 p:=by
 have Z:l≠p:=Bg W hp
 have up:∀ {H':Hp}{ms:List Int}{ys:List V},Dr l H1 H' ms->Dr l H1 (upd H' p (.lst ys)) ms:=fun d=>⟨fun b u n e=>by rw [Bm (Bg e hp)];exact d.sm b u n e,by rw [Bm Z];exact d.it⟩
 refine Afq (es:=List.range 3) (inj:=fun i=> .int (0+(i:Nat))) (fun i q H'=>∃(os ms:List Int),q=os.map V.int/\os.length=i/\(∀x∈os,Sz 20 x)/\H' p=some (.lst q)/\Dr l H1 H' ms) (by decide) ⟨[],ds,rfl,rfl,by simp,Ag,up ⟨fun _ _ _ e=>e,W⟩⟩ ?_ ?_ ?_ ?_
 . rintro i q H' ⟨os,ms,rfl,G,_,L,_⟩
   exact⟨by rw [aB];exact G,L⟩
 . rintro i q H' _
   exact Gu
 . rintro i e q H2 R he ⟨os,ms,rfl,G,zs,L,d⟩ hR
   done
   refine⟨⟨by decide,by decide,by decide⟩,Jb d.it (by decide) fun r H3 O r0 r1 d3=> ?_⟩
   try done
   have U:=d3.sm _ _ (cS Z) L
   refine hR _ H3 U ⟨os++ [r-5],O,by rw [aJ];rfl,by rw [aL,G];rfl,fun x M=> ?_,Ag,up (d.trans d3)⟩
   rcases bG.mp M with M | M
   . exact zs x M
   . rw [aS.mp M]
     have e6:(10:Int)^toNat 6=1000000:=by decide
     rw [e6]at r1
     show(r-5).natAbs<2^20
     exact bH (show _<1000000 by omega) (by decide)
 . rintro q H' ⟨os,ms,rfl,G,zs,L,d⟩
   refine J (fun i=>os.getD i 0) (fun i=> ?_) H' ms d ?_
   . rw [aP]
     cases h:os[i]? with
     | none=>exact(show(0:Int).natAbs<2^20 by decide)
     | some x=>exact zs x (dR h)
   . rw [cX]at G
     match os,G with
     | [x,y,z],_=>exact L
theorem Vo {F:Tl} (q:j<3) (h:fq F=0):fq (evO j o F)=0:=by
 obtain⟨h1,h2,_,_⟩:=o12 q
 have z:∀i c,Ev i c 0 0:=fun i c=>⟨DL.zero i,0,by grind⟩
 have G:=Ael h1 (o (o1 j)) F
 rw [h]at G
 have L:=G.uniq (z _ _)
 have J:=Ael h2 (o (o2 j)) (evT (o1 j) (o (o1 j)) F)
 rw [L]at J
 rw [Aiv q]
 exact J.uniq (z _ _)
structure Lw (K:Frag) (H:Hp) (l v u:Addr) (sf sg:Fq):Prop where
 dr:∃ds:List Int,H l=some (.lst (ds.map V.int))
 fv:Fo K H true (.ref v) sf 3 140
 fu:Fo K H true (.ref u) sg 3 140
theorem Lw.mono {H H':Hp}{l v u:Addr}{q sg:Fq} (h:Lw K H l v u q sg) (s:Same H H'):Lw K H' l v u q sg:=by
 obtain⟨⟨ds,e⟩,a,b⟩:=h
 exact⟨⟨ds,s _ _ e⟩,a.mono s,b.mono s⟩
theorem Lw.dw {v u:Addr}{sg:Fq} (h:Lw K H l v u q sg) (d:Dr l H H' ms):Lw K H' l v u q sg:=by
 obtain⟨⟨ds,e⟩,a,b⟩:=h
 exact⟨⟨ms,d.it⟩,a.dr d e,b.dr d e⟩
theorem Lw.next {v u:Addr}{sg:Fq}{m:Int} (h:Lw K H l v u q sg) (G:0<m) (k:∀r H' ms,0<=r->r<m->Dr l H H' ms->Lw K H' l v u q sg->Q (.int r) H'):G3 K [.ref l,.int m] H Q E:=by
 obtain⟨ds,e⟩:=h.dr
 exact Jb e G fun r H' ms J L d=>k r H' ms J L d (h.dw d)
theorem Apn (xs:List V):O2 xs none (some 2)=xs.take 2:=by
 unfold O2
 rw [HT.Wj,show(some (2:Int))=some ((2:Nat):Int)from rfl,HT.Abi]
 show(xs.drop 0).take (min 2 xs.length-0)=xs.take 2
 rw [List.drop_zero,Nat.sub_zero]
 by_cases h:2<=xs.length
 . rw [jF h]
 . rw [Nat.min_eq_right (by omega),eY (aH _),eY (by omega)]
theorem Zx {v:Addr} (h:Fo K H true (.ref v) S 2 69):∃xs M,SqT K H v xs/\∀z H',Same H H'->SqT K H' z (O2 xs none (some 2))->Fo K H' false (.ref z) M 2 71:=by
 obtain⟨a,fs,e,w,_,np,es,b,sz,l⟩:=h.at
 obtain rfl:=V.ref.inj e
 refine⟨_,fq (cvl ((fs.take 2).map (·.2))),w.it,fun z H' s L=> ?_⟩
 rw [Apn,<-map_take]at L
 have q:∀e∈fs.take 2,e∈fs:=fun e G=>List.mem_of_mem_take G
 refine⟨⟨z,fs.take 2,rfl,⟨L,fun e G=>(w.al e (q e G)).mono s,?_,fun e G=>w.nn e (q e G)⟩,(fun w=>absurd w (by decide)),fun e G=>np e (q e G),rfl⟩,Aie (n:=70) (k:=1) (Fb fun e G=>np e (q e G)) (fun e G x O=> ?_) (fun e G=> ?_) ?_⟩
 . have:=w.up
   rw [map_take]
   exact this.sublist (List.take_sublist 2 _)
 . obtain⟨y,J,rfl⟩:=aD.mp G
   exact(b y (q y J) x O).2
 . obtain⟨y,J,rfl⟩:=aD.mp G
   exact sz y (q y J)
 . rw [aB,bT]
   show min 2 _<=2
   omega
theorem Zw {q J:Addr}{c:Int} (L:SqT K H q [.ref J]) (h1:H J=some (.tup [.ref p,.int c])) (M:H p=some (.tup [.int 0,.int 0,.int 0])) (U:1<=c) (W:c<=9):Fo K H true (.ref q) (cF c) 3 140:=by
 have te:Te K H (.ref J) ([0,0,0],c):=⟨⟨J,p,rfl,.of h1,M⟩,rfl⟩
 have fr:Frm K H q [(.ref J,([0,0,0],c))]:=⟨L,fun e G=>by rw [aS.mp G];exact te,fU _ _,fun e G=>by
  rw [aS.mp G]
  show c≠0
  omega⟩
 have np:∀e∈ [((.ref J:V),(([0,0,0],c):List Int × Int))],Np e.2.1:=fun e G=>by
  rw [aS.mp G]
  exact⟨rfl,fun x O=>by
   have:x=0:=by simpa using O
   omega⟩
 refine⟨⟨q,_,rfl,fr.weak,fun _=>fr,np,rfl⟩,⟨csT c,rfl,fun e G=> ?_,?_⟩⟩
 . rw [aS.mp G]
   exact⟨bO _,bO _,bO _⟩
 . show c.natAbs+0<=2^140
   exact aO (show _<=9 by omega) (by decide)
theorem Vt (n:Int):∀ns:List Int,inV (.int n) (ns.map V.int)=decide (n∈ns)
 | []=>by simp [inV]
 | m::ns=>by
   have q:=Vt n ns
   unfold inV at q ⊢
   rw [aU,gX,q]
   by_cases h:m=n
   . subst h
     simp [eqV]
   . have:n≠m:=cS h
     simp [eqV,this,h]
theorem Rw:∀ns:List Int,(ns.map V.int).all Mf=true
 | []=>rfl
 | m::ns=>by
   rw [aU,iY,Rw ns]
   rfl
theorem Akw {n:Int} (h:SqT K H a (ns.map V.int)) (q:Q (.bl (decide (n∈ns))) H):rIn K false (.int n) (.ref a) H Q:=
 ⟨a,_,rfl,.inr h,rfl,Rw ns,by rw [Vt];exact q⟩
theorem Aix (F:Df K mg "law" Q6 yD f fd) (ap:mg "range"=none) (aq:mg "len"=none)  (a7:Cal P w K mg base 1 "_law_sum" zV (Hy K)) (a1:Cal P w K mg base 1 "_law_draws" zW (Le K)) (L:Cal P w K mg base 1 "_law_next" zF (G3 K)) (a3:Cal P w K mg base 7 "taken_out" yK (Lx K)) (a2:Cal P w K mg base 3 "_law_terms" zI (Ji K)) (M:Cal P w K mg base 1 "_law_cell_at" zT (Iz K)) (O:Cal P w K mg base 2 "_law_product" zZ (G9 K)) (a8:Cal P w K mg base 5 "_law_right" zC (Pu K)) (ab:Cal P w K mg base 1 "_law_shared" yB (Oi K)) (a4:Cal P w K mg base 1 "_law_top" zS (Wo K)) (aj:Cal P w K mg base 1 "_law_at" zK (Abo K)):Pz P w K mg base CX0 8 f fd yD (Ad4 K):=by
 refine F.fn.ok Gi (fun vs H Q E h=> ?_) (fun cv A outer s H vs Q E U h=> ?_)
 . obtain⟨a,ns,rfl,_⟩:=h
   rfl
 obtain⟨a,ns,rfl,hS,cw,k⟩:=h
 refine Bb ⟨_,(Ae (Ay 1 Gi.nd (Aj a7 U (Aa (Aj a2 U (Aa (Aj a1 U (Aa (Aj M U (Aa (Af 0) (Aa Ad Ac))) (Aa Ad Ac))) (Aa Ad (Aa Ad Ac)))) Ac)))
  (Ae (Ay 2 Gi.nd (Aj a7 U (Aa (Aj a2 U (Aa (Aj a1 U (Aa (Aj M U (Aa (Af 0) (Aa Ad Ac))) (Aa Ad Ac))) (Aa Ad (Aa Ad Ac)))) Ac)))
  (Ae (Ay 3 Gi.nd (Aj a1 U (Aa (Aj M U (Aa (Af 0) (Aa Ad Ac))) (Aa Ad Ac))))
  (Ae (Ay 4 Gi.nd (Aj L U (Aa (Af 3) (Aa Ad Ac))))
  (Ae (Ay 5 Gi.nd (Bf Ai4 Yr (Af 4) (fun _ _=>rfl)))
  (Ae (Bp (Av J7 (Aj L U (Aa (Af 3) (Aa Ad Ac))) Ad (Bl _)) (Ae (Ay 10 Gi.nd (Aj a7 U (Aa (Aj a2 U (Aa (Af 3) (Aa Ad (Aa Ad Ac)))) Ac)))
  (Ae (Ay 1 Gi.nd (Aj O U (Aa (Fj Ob (Af 1) Gp (Gq Ad)) (Aa (Af 10) Ac))))
  (Ah (Ay 2 Gi.nd (Aj O U (Aa (Fj Ob (Af 2) Gp (Gq Ad)) (Aa (Af 10) Ac))))))) Bc)
  (Ae (Ay 6 Gi.nd (Aj L U (Aa (Af 3) (Aa Ad Ac))))
  (Ae (Ay 7 Gi.nd (Aw (Aa (Aw (Aa Ad (Aa Ad (Aa Ad Ac)))) (Aa (Al Cg Ad (Aj L U (Aa (Af 3) (Aa Ad Ac)))) Ac))))
  (Ae (Bp (Av Sd (Af 6) (Aw (Aa Ad (Aa Ad (Aa Ad Ac)))) rfl) (Ah (Ay 1 Gi.nd (Bf Ht (Dl (Aa (Aw Ac) (Aa (Aw (Aa (Af 7) Ac)) (Aa (Aj O U (Aa (Af 1) (Aa (Aw Ac) Ac))) Ac)))) (Al G7 (Af 6) Ad) (fun _ _=>rfl)))) Bc)
  (Ae (Bp (Av Sd (Af 6) (Aw (Aa Ad (Aa Ad (Aa Ad Ac)))) rfl) (Ah (Ay 2 Gi.nd (Bf Ht (Dl (Aa (Aw (Aa (Af 7) Ac)) (Aa (Aw Ac) (Aa (Aw (Aa (Af 7) Ac)) Ac)))) (Al G7 (Af 6) Ad) (fun _ _=>rfl)))) Bc)
  (Ae (M5 (ts:=["_law_k"]) (fs:=[(3,"_law_draws_here")]) rfl (Dy.of (sc:=Ax Q6) (N:=zH) rfl rfl (by decide+kernel)) (Dg rfl ap (Aa Ad Ac)) (fun _ _ _=>(Ao 0 (show Nodup (["_law_k","_law_draws_here"]:List Str)by decide+kernel))) (fun _ _ _=>Bx) (fun _ _ _=>(Al G7 (Aj L U (Aa (Af 1) (Aa (Al J8 Ad Ad) Ac))) Ad)) (Ao 8 Gi.nd))
  (Ae (Ay 9 Gi.nd (Aj a3 U (Aa (Af 1) (Aa (Af 2) (Aa (Af 5) Ac)))))
  (Ae (Bp (Dm (Cy (Aj a8 U (Aa (Af 1) (Aa (Af 2) (Aa (Af 5) (Aa (Af 4) (Aa (Af 9) Ac)))))))) (Ah (Ar Ec)) Bc)
  (Ae (Bp (Dm (Cy (Aj a8 U (Aa (Af 2) (Aa (Af 1) (Aa (Af 5) (Aa (Af 4) (Aa (Aj a3 U (Aa (Af 2) (Aa (Af 1) (Aa (Af 5) Ac)))) Ac)))))))) (Ah (Ar Ec)) Bc)
  (Ae (Bp (Eb (Gw (Av (Jk U.units) (Bf Du (Af 9) Ad (fun _ _=>rfl)) (Aw Ac) (Bl _)) (Gw (Av J7 (Aj a4 U (Aa (Af 1) (Aa (Af 4) Ac))) Ad (Bl _)) (Hf (Av J7 (Aj a4 U (Aa (Af 2) (Aa (Af 4) Ac))) Ad (Bl _)))))) (Ah (Ar (J1 (Dp (Jk U.units) (Af 1) (Aw Ac) (Bl _)) (J2 (Dp (Jk U.units) (Af 2) (Aw Ac) (Bl _)))))) Bc)
  (Ae (Bp (Av (Jk U.units) (Bf Du (Af 9) Ad (fun _ _=>rfl)) (Aw Ac) (Bl _)) (Ae (M6 (i:=11) (j:=12) rfl Gi.nd rfl rfl (by decide) rfl rfl (Aa (Aj aj U (Aa (Af 1) (Aa (Af 4) (Aa (Af 8) Ac)))) (Aa (Aj aj U (Aa (Af 2) (Aa (Af 4) (Aa (Af 8) Ac)))) Ac)) rfl)
  (Ae (Bp (Eb (Em (Av Ajs (Bj Bt rfl aq dC (Aa (Af 11) Ac)) (Aj a4 U (Aa (Af 1) (Aa (Af 4) Ac))) (Bl _)) (Ga (Av Ajs (Bj Bt rfl aq dC (Aa (Af 12) Ac)) (Aj a4 U (Aa (Af 2) (Aa (Af 4) Ac))) (Bl _))))) (Ah (Ar Ec)) Bc)
  (Ah (Ar (Aj ab U (Aa (Af 11) (Aa (Af 12) Ac))))))) Bc)
  (Ah (Ar Ec)))))))))))))))))),?_⟩
 refine Dc (fun J H'=>Same H H'/\∃(v:Addr) (sf:Fq),J=[some (.ref a),some (.ref v),none,none,none,none,none,none,none,none,none,none,none]/\Fo K H' true (.ref v) sf 2 69) (fun N W=> ?_) ?_
 . done
   refine Ab7 hS (Same.refl _) (by decide) ?_
   exact Apa fun z H1 S s1 f1=>W _ _ ⟨s1,z,S,rfl,f1⟩
 rintro _ H1 ⟨s1,v,sf,rfl,fv⟩
 refine Dc (fun J H'=>Same H H'/\∃(u:Addr) (sg:Fq),J=[some (.ref a),some (.ref v),some (.ref u),none,none,none,none,none,none,none,none,none,none]/\Fo K H' true (.ref v) sf 2 69/\Fo K H' true (.ref u) sg 2 69) (fun N W=> ?_) ?_
 . done
   refine Ab7 hS s1 (by decide) ?_
   exact Apa fun z H2 S s2 f2=>W _ _ ⟨s1.trans s2,z,S,rfl,fv.mono s2,f2⟩
 rintro _ H2 ⟨s2,u,sg,rfl,fv,fu⟩
 clear s1
 refine Dc (fun J H'=>∃(l:Addr) (ds:List Int),J=[some (.ref a),some (.ref v),some (.ref u),some (.ref l),none,none,none,none,none,none,none,none,none]/\H' l=some (.lst (ds.map V.int))/\Fo K H' true (.ref v) sf 2 69/\Fo K H' true (.ref u) sg 2 69) (fun N W=> ?_) ?_
 . done
   refine Ab7 hS s2 (by decide) ?_
   try done
   exact⟨_,40,rfl,by decide,fun l H3 ds nl s3 g3=>W _ _ ⟨l,ds,rfl,g3,fv.mono s3,fu.mono s3⟩⟩
 rintro _ H3 ⟨l,cx,rfl,g3,be,bf⟩
 clear fv fu s2
 refine Dc (fun J H'=>∃(j:Nat) (ds:List Int),j<3/\J=[some (.ref a),some (.ref v),some (.ref u),some (.ref l),some (.int (j:Nat)),none,none,none,none,none,none,none,none]/\H' l=some (.lst (ds.map V.int))/\Fo K H' true (.ref v) sf 2 69/\Fo K H' true (.ref u) sg 2 69) (fun N W=> ?_) ?_
 . done
   refine Jb g3 (by decide) fun r H4 ms r0 r1 d4=> ?_
   obtain⟨j,rfl⟩:∃j:Nat,r=j:=⟨r.toNat,by omega⟩
   exact W _ _ ⟨j,ms,by omega,rfl,d4.it,be.dr d4 g3,bf.dr d4 g3⟩
 rintro _ H4 ⟨j,cy,hj,rfl,g4,bg,bh⟩
 clear be bf g3
 refine Dc (fun J H'=>H'=H4/\J=[some (.ref a),some (.ref v),some (.ref u),some (.ref l),some (.int (j:Nat)),some (.str (nmS j)),none,none,none,none,none,none,none]) (fun N W=> ?_) ?_
 . done
   exact Ak1 hj (W _ _ ⟨rfl,rfl⟩)
 rintro _ _ ⟨e4,rfl⟩
 rw [e4]
 clear e4
 refine Dc (fun J H'=>∃(v u:Addr) (sf sg:Fq) (a5:Option V),J=[some (.ref a),some (.ref v),some (.ref u),some (.ref l),some (.int (j:Nat)),some (.str (nmS j)),none,none,none,none,a5,none,none]/\Lw K H' l v u sf sg) (fun N W=> ?_) ?_
 . done
   refine Jb g4 (by decide) fun r H5 cz r0 r1 d5=> ?_
   have bi:=bg.dr d5 g4
   have bj:=bh.dr d5 g4
   try done
   by_cases c:r=1
   . rw [aI c]
     refine Apc (m:=2) (q:=1) d5.it (by decide) (by decide) fun z6 H6 ca st d6 ft=> ?_
     have cb:=bi.dr d6 d5.it
     have ce:=bj.dr d6 d5.it
     have dd:=d5.trans d6
     obtain⟨xs,S1,hx,t1⟩:=Zx cb
     refine⟨v,xs,rfl,hx,fun z7 H7 s7 h7=> ?_⟩
     refine Akx (t1 z7 H7 s7 h7) (ft.mono s7) (by decide) (by decide) (by decide) fun z8 H8 s8 f8=> ?_
     have b6:=s7.trans s8
     obtain⟨ys,S2,hy,t2⟩:=Zx (ce.mono b6)
     refine⟨u,ys,rfl,hy,fun z9 H9 s9 h9=> ?_⟩
     refine Akx (t2 z9 H9 s9 h9) (ft.mono (b6.trans s9)) (by decide) (by decide) (by decide) fun cg bl bm ch=> ?_
     have bn:=(b6.trans s9).trans bm
     exact W _ _ ⟨z8,cg,_,_,some (.ref z6),rfl,⟨ca,bn _ _ d6.it⟩,f8.mono (s9.trans bm),ch⟩
   . rw [aF c]
     exact W _ _ ⟨v,u,sf,sg,none,rfl,⟨_,d5.it⟩,bi.up (by decide) (by decide),bj.up (by decide) (by decide)⟩
 rintro _ H5 ⟨v5,u5,b7,ay,a5,rfl,lw⟩
 clear bg bh g4
 refine Dc (fun J H'=>∃(kd:Int),0<=kd/\kd<10/\J=[some (.ref a),some (.ref v5),some (.ref u5),some (.ref l),some (.int (j:Nat)),some (.str (nmS j)),some (.int kd),none,none,none,a5,none,none]/\Lw K H' l v5 u5 b7 ay) (fun N W=> ?_) ?_
 . done
   exact lw.next (by decide) fun r H' ms r0 r1 _ w=>W _ _ ⟨r,r0,r1,rfl,w⟩
 rintro _ H6 ⟨kd,k0,k9,rfl,bo⟩
 clear lw
 refine Dc (fun J H'=>∃(p Z:Addr) (c:Int),1<=c/\c<=9/\H' p=some (.tup [.int 0,.int 0,.int 0])/\H' Z=some (.tup [.ref p,.int c])/\J=[some (.ref a),some (.ref v5),some (.ref u5),some (.ref l),some (.int (j:Nat)),some (.str (nmS j)),some (.int kd),some (.ref Z),none,none,a5,none,none]/\Lw K H' l v5 u5 b7 ay) (fun N W=> ?_) ?_
 . done
   refine⟨by decide,fun p hp=> ?_⟩
   have sp:=Same.upd hp (.tup [.int 0,.int 0,.int 0])
   have gp:upd H6 p (.tup [.int 0,.int 0,.int 0]) p=some (.tup [.int 0,.int 0,.int 0]):=Ag
   have am:=bo.mono sp
   generalize upd H6 p (.tup [.int 0,.int 0,.int 0])=H7 at gp am
   obtain⟨d0,g7⟩:=am.dr
   refine am.next (by decide) fun r H8 ms r0 r1 d8 w8=> ?_
   try done
   intro Z ci
   have s1:=Same.upd ci (.tup [.ref p,.int (1+r)])
   exact W _ _ ⟨p,Z,1+r,by omega,by omega,s1 _ _ (d8.tup g7 gp),Ag,rfl,w8.mono s1⟩
 rintro _ H7 ⟨p,Z,cc,c1,c9,gp,bp,rfl,am⟩
 clear bo
 refine Dc (fun J H'=>∃(v:Addr) (sf:Fq),H' p=some (.tup [.int 0,.int 0,.int 0])/\H' Z=some (.tup [.ref p,.int cc])/\J=[some (.ref a),some (.ref v),some (.ref u5),some (.ref l),some (.int (j:Nat)),some (.str (nmS j)),some (.int kd),some (.ref Z),none,none,a5,none,none]/\Lw K H' l v u5 sf ay) (fun N W=> ?_) ?_
 . done
   refine⟨by decide,fun p2 ag=> ?_⟩
   have s2:=Same.upd ag (.tup [.int 1,.int 2,.int 3])
   refine Akw (ns:=[1,2,3]) (.of Ag) ?_
   try done
   have ac:=s2 _ _ gp
   have a6:=s2 _ _ bp
   have ad:=am.mono s2
   generalize upd H7 p2 (.tup [V.int 1,V.int 2,V.int 3])=HA at ac a6 ad
   by_cases c:kd∈ [(1:Int),2,3]
   . rw [aI c]
     refine⟨by decide,fun q1 ar q2 as=>⟨by decide,fun q3 au=> ?_⟩⟩
     have t1:=Same.upd ar (.tup [])
     have t2:=Same.upd as (.tup [.ref Z])
     have t3:=Same.upd au (.tup [])
     have an:=(t1.trans t2).trans t3
     have e1:=(t2.trans t3).tup (.of (Ag:upd HA q1 (.tup []) q1=some (.tup [])):SqT K _ q1 [])
     have e2:=t3.tup (.of (Ag:upd (upd HA q1 (.tup [])) q2 (.tup [.ref Z]) q2=some (.tup [.ref Z])):SqT K _ q2 [.ref Z])
     have e3:SqT K (upd (upd (upd HA q1 (.tup [])) q2 (.tup [.ref Z])) q3 (.tup [])) q3 []:= .of Ag
     generalize upd (upd (upd HA q1 (.tup [])) q2 (.tup [.ref Z])) q3 (.tup [])=HB at e1 e2 e3 an
     clear t1 t2 t3 ar as au
     refine Akx (ad.fv.mono an) (Ei e3) (by decide) (by decide) (by decide) fun z4 HC s4 f4=> ?_
     refine⟨by decide,fun q5 az=> ?_⟩
     have s5:=Same.upd az (.lst [.ref q1,.ref q2,.ref z4])
     have b8:=s4.trans s5
     have sA:=an.trans b8
     have av:=ad.mono sA
     have ah:∀(v:Addr) (sf:Fq),Fo K (upd HC q5 (.lst [.ref q1,.ref q2,.ref z4])) true (.ref v) sf 3 140->N [some (.ref a),some (.ref v),some (.ref u5),some (.ref l),some (.int (j:Nat)),some (.str (nmS j)),some (.int kd),some (.ref Z),none,none,a5,none,none] (upd HC q5 (.lst [.ref q1,.ref q2,.ref z4])):=fun v sf hf=>W _ _ ⟨v,sf,sA _ _ ac,sA _ _ a6,rfl,av.dr,hf,av.fu⟩
     have c3:kd=1\/kd=2\/kd=3:=by simpa using c
     rcases c3 with rfl | rfl | rfl
     . exact Li (v:= .ref q1) (.of Ag) rfl (ah q1 0 ((Ei (b8.tup e1)).up (by decide) (by decide)))
     . exact Li (v:= .ref q2) (.of Ag) rfl (ah q2 _ (Zw (b8.tup e2) (sA _ _ a6) (sA _ _ ac) c1 c9))
     . exact Li (v:= .ref z4) (.of Ag) rfl (ah z4 _ (f4.mono s5))
   . rw [aF c]
     exact W _ _ ⟨v5,b7,ac,a6,rfl,ad⟩
 rintro _ H8 ⟨v8,a9,bq,b4,rfl,br⟩
 clear gp bp am
 refine Dc (fun J H'=>∃(u:Addr) (sg:Fq),J=[some (.ref a),some (.ref v8),some (.ref u),some (.ref l),some (.int (j:Nat)),some (.str (nmS j)),some (.int kd),some (.ref Z),none,none,a5,none,none]/\Lw K H' l v8 u a9 sg) (fun N W=> ?_) ?_
 . done
   refine⟨by decide,fun p2 ag=> ?_⟩
   have s2:=Same.upd ag (.tup [.int 3,.int 4,.int 5])
   refine Akw (ns:=[3,4,5]) (.of Ag) ?_
   try done
   have ac:=s2 _ _ bq
   have a6:=s2 _ _ b4
   have ad:=br.mono s2
   generalize upd H8 p2 (.tup [V.int 3,V.int 4,V.int 5])=HA at ac a6 ad
   by_cases c:kd∈ [(3:Int),4,5]
   . rw [aI c]
     intro q1 ar
     refine⟨by decide,fun q2 as q3 au=>⟨by decide,fun q5 az=> ?_⟩⟩
     have t1:=Same.upd ar (.tup [.ref Z])
     have t2:=Same.upd as (.tup [])
     have t3:=Same.upd au (.tup [.ref Z])
     have an:=(t1.trans t2).trans t3
     have e1:=(t2.trans t3).tup (.of (Ag:upd HA q1 (.tup [.ref Z]) q1=some (.tup [.ref Z])):SqT K _ q1 [.ref Z])
     have e2:=t3.tup (.of (Ag:upd (upd HA q1 (.tup [.ref Z])) q2 (.tup []) q2=some (.tup [])):SqT K _ q2 [])
     have e3:SqT K (upd (upd (upd HA q1 (.tup [.ref Z])) q2 (.tup [])) q3 (.tup [.ref Z])) q3 [.ref Z]:= .of Ag
     generalize upd (upd (upd HA q1 (.tup [.ref Z])) q2 (.tup [])) q3 (.tup [.ref Z])=HC at e1 e2 e3 an az
     clear t1 t2 t3 ar as au
     have s5:=Same.upd az (.lst [.ref q1,.ref q2,.ref q3])
     have sA:=an.trans s5
     have av:=ad.mono sA
     have ah:∀(u:Addr) (sg:Fq),Fo K (upd HC q5 (.lst [.ref q1,.ref q2,.ref q3])) true (.ref u) sg 3 140->N [some (.ref a),some (.ref v8),some (.ref u),some (.ref l),some (.int (j:Nat)),some (.str (nmS j)),some (.int kd),some (.ref Z),none,none,a5,none,none] (upd HC q5 (.lst [.ref q1,.ref q2,.ref q3])):=fun u sg hf=>W _ _ ⟨u,sg,rfl,av.dr,av.fv,hf⟩
     have c3:kd=3\/kd=4\/kd=5:=by simpa using c
     rcases c3 with rfl | rfl | rfl
     . exact Li (v:= .ref q1) (.of Ag) rfl (ah q1 _ (Zw (s5.tup e1) (sA _ _ a6) (sA _ _ ac) c1 c9))
     . exact Li (v:= .ref q2) (.of Ag) rfl (ah q2 0 ((Ei (s5.tup e2)).up (by decide) (by decide)))
     . exact Li (v:= .ref q3) (.of Ag) rfl (ah q3 _ (Zw (s5.tup e3) (sA _ _ a6) (sA _ _ ac) c1 c9))
   . rw [aF c]
     exact W _ _ ⟨u5,ay,rfl,ad⟩
 rintro _ H9 ⟨u9,aa,rfl,b9⟩
 clear bq b4 br
 refine Dc (fun J H'=>∃(ot:Addr) (o:Nat->Int),(∀i,Sz 20 (o i))/\H' ot=some (.lst [.int (o 0),.int (o 1),.int (o 2)])/\J=[some (.ref a),some (.ref v8),some (.ref u9),some (.ref l),some (.int (j:Nat)),some (.str (nmS j)),some (.int kd),some (.ref Z),some (.ref ot),none,a5,none,none]/\Lw K H' l v8 u9 a9 aa) (fun N W=> ?_) ?_
 . done
   refine⟨by decide,by decide,fun ot ae=> ?_⟩
   obtain⟨d1,g9⟩:=b9.dr
   exact Afr ae g9 fun o ho H' ms d h=>W _ _ ⟨ot,o,ho,h,rfl,b9.dw d⟩
 rintro _ bl ⟨ot,o,ho,ae,rfl,bt⟩
 obtain⟨⟨_,_⟩,fv,fu⟩:=bt
 clear b9
 refine Dc (fun J H'=>∃(pz:Addr) (x y z:V) (sx sy sz:Fq),J=[some (.ref a),some (.ref v8),some (.ref u9),some (.ref l),some (.int (j:Nat)),some (.str (nmS j)),some (.int kd),some (.ref Z),some (.ref ot),some (.ref pz),a5,none,none]/\Same bl H'/\SqT K H' pz [x,y,z]/\Fo K H' false x sx 40 4000/\Fo K H' false y sy 40 4000/\Fo K H' false z sz 40 4000/\Tk j a9 aa sx sy sz) (fun N W=> ?_) ?_
 . done
   exact⟨.ref v8,.ref u9,a9,aa,j,hj,rfl,fv,fu,fun z x y t sx sy st H' s hz fx fy ft tk=>W _ _ ⟨z,x,y,t,sx,sy,st,rfl,s,hz,fx,fy,ft,tk⟩⟩
 rintro _ bu ⟨pz,x,y,z,sx,sy,sz,rfl,b0,aw,fx,fy,fz,tk⟩
 replace fv:=fv.mono b0
 replace fu:=fu.mono b0
 replace ae:=b0 _ _ ae
 clear b0
 refine Dc (fun J H'=>Same bu H'/\J=[some (.ref a),some (.ref v8),some (.ref u9),some (.ref l),some (.int (j:Nat)),some (.str (nmS j)),some (.int kd),some (.ref Z),some (.ref ot),some (.ref pz),a5,none,none]) (fun N W=> ?_) ?_
 . done
   refine⟨.ref v8,.ref u9,x,y,z,pz,a9,aa,sx,sy,sz,j,hj,rfl,fv,fu,aw,fx,fy,fz,tk.dl,tk.eq.symm,fun cj af=> ?_⟩
   try done
   exact W _ _ ⟨af,rfl⟩
 rintro _ cj ⟨af,rfl⟩
 refine Dc (fun J H'=>Same bu H'/\J=[some (.ref a),some (.ref v8),some (.ref u9),some (.ref l),some (.int (j:Nat)),some (.str (nmS j)),some (.int kd),some (.ref Z),some (.ref ot),some (.ref pz),a5,none,none]) (fun N W=> ?_) ?_
 . done
   refine⟨.ref u9,.ref v8,aa,a9,j,hj,rfl,fu.mono af,fv.mono af,fun z' x' y' t' ck cl cm H' s hz cn co cp bv=> ?_⟩
   refine⟨.ref u9,.ref v8,x',y',t',z',aa,a9,ck,cl,cm,j,hj,rfl,(fu.mono af).mono s,(fv.mono af).mono s,hz,cn,co,cp,bv.dl,bv.eq.symm,fun bw ai=> ?_⟩
   try done
   exact W _ _ ⟨(af.trans s).trans ai,rfl⟩
 rintro _ bw ⟨ai,rfl⟩
 clear af
 replace fv:=fv.mono ai
 replace fu:=fu.mono ai
 replace ae:=ai _ _ ae
 replace aw:=ai.tup aw
 replace fx:=fx.mono ai
 refine Dc (fun J H'=>Same bw H'/\J=[some (.ref a),some (.ref v8),some (.ref u9),some (.ref l),some (.int (j:Nat)),some (.str (nmS j)),some (.int kd),some (.ref Z),some (.ref ot),some (.ref pz),a5,none,none]) (fun N W=> ?_) ?_
 . done
   refine El aw (v:=x) rfl ?_
   try done
   refine⟨by decide,fun p2 ag=> ?_⟩
   have s2:=Same.upd ag (.tup [])
   refine Ma (fx.mono s2) (Ei (.of Ag)) (fun e=> ?_) (fun _=> ?_)
   . try done
     refine⟨.ref v8,true,a9,3,140,j,hj,rfl,fv.mono s2,by decide,fun m cq b3 mo _ _=> ?_⟩
     try done
     have ba:=s2.trans b3
     by_cases c:m=0
     . rw [aI (by omega)]
       refine⟨.ref u9,true,aa,3,140,j,hj,rfl,fu.mono ba,by decide,fun m' d2 ao bb _ _=> ?_⟩
       try done
       have bx:=ba.trans ao
       by_cases c':m'=0
       . rw [aI (by omega)]
         obtain⟨z1,z2⟩:=tk.nul e (by rw [<-c];exact mo.dl) (by rw [<-c'];exact bb.dl)
         refine⟨by decide,fun p3 cr=> ?_⟩
         have s3:=bx.trans (Same.upd cr (.tup []))
         refine Ma (fv.mono s3) (Ei (.of Ag)) (fun _=> ?_) (fun w=>absurd z1 w)
         try done
         refine⟨by decide,fun p4 cs=> ?_⟩
         have s4:=s3.trans (Same.upd cs (.tup []))
         exact Ma (fu.mono s4) (Ei (.of Ag)) (fun _=>k _) (fun w=>absurd z2 w)
       . rw [aF (by omega)]
         exact W _ _ ⟨bx,rfl⟩
     . rw [aF (by omega)]
       exact W _ _ ⟨ba,rfl⟩
   . try done
     exact W _ _ ⟨s2,rfl⟩
 rintro _ cq ⟨b3,rfl⟩
 done
 refine El (b3.tup aw) (v:=x) rfl ?_
 try done
 refine⟨by decide,fun p2 ag=> ?_⟩
 have ao:=b3.trans (Same.upd ag (.tup []))
 refine Ma (fx.mono ao) (Ei (.of Ag)) (fun e=> ?_) (fun _=> ?_)
 . try done
   refine⟨.ref v8,ot,true,a9,j,o,hj,rfl,ao _ _ ae,ho,fv.mono ao,fun z1 d3 ak F1 ct n1 g1 t1 l1 b1 bz c0=> ?_⟩
   have ax:=ao.trans ct
   refine⟨.ref u9,ot,true,aa,j,o,hj,rfl,ax _ _ ae,ho,fu.mono ax,fun z2 d7 al F2 c2 n2 g2 t2 l2 b2 c4 c5=> ?_⟩
   have b5:=ax.trans c2
   have c6:=c2 _ _ g1
   try done
   refine⟨z1,_,rfl,.inl (.of c6),?_⟩
   refine⟨.ref v8,true,a9,3,140,j,hj,rfl,fv.mono b5,by decide,fun m d9 bc mo _ _=> ?_⟩
   try done
   rw [aB]
   by_cases c:ak.length<=m
   . rw [aI (by omega)]
     exact k _
   rw [aF (by omega)]
   refine⟨z2,_,rfl,.inl (.of (bc _ _ g2)),?_⟩
   have c7:=b5.trans bc
   refine⟨.ref u9,true,aa,3,140,j,hj,rfl,fu.mono c7,by decide,fun m' db cu bb _ _=> ?_⟩
   try done
   rw [aB]
   by_cases c':al.length<=m'
   . rw [aI (by omega)]
     exact k _
   rw [aF (by omega)]
   have r1:ak≠ []:=fun w=>c (by rw [w];exact bO _)
   have r2:al≠ []:=fun w=>c' (by rw [w];exact bO _)
   have q1:=(t1.mo (j:=j) r1).2
   have q2:=(t2.mo (j:=j) r2).2
   have sh:Shd j ak al:=by
    rcases tk.no e with w | w | ⟨a,b,ka,m1,m2,e1,a0,da,hk,mf,mg,_,_⟩
    . exact absurd (c0.trans (Vo hj (bz.trans w))) q1
    . exact absurd (c5.trans (Vo hj (c4.trans w))) q2
    . obtain rfl:=mg.uniq bb
      exact Akn hj (F:=F1) (G:=F2) (by rw [bz,c4];exact e1) a0 da (by omega) c0 c5 q2 r2
   have c8:=bc.trans cu
   exact⟨z1,z2,ak,al,900,j,rfl,c8 _ _ c6,c8 _ _ g2,Bg g1 n2,t1,t2,by omega,by omega,b1,b2,by decide,r2,sh,fun H' _=>k _⟩
 . try done
   exact k _
end
noncomputable abbrev Fd (K:Frag) (x:Str) (st:Stmt):Prop:=∃(f:Addr) (od an:Option Addr) (sl:Array (Option Value)) (oc kV dc pm cd ct:Value),PySem.W.nsIn K mainGlobals x=some (some (.ref f))/\K.lookup f=some ⟨oc,od,.func (PySem.W.fnOf x x (Jo st) (Ik st) (Ax st) .none kV dc pm an cd ct),sl⟩/\PySem.W.codeIn K cd x=true/\keepIn K (.ref f)=true
theorem us0 {P:List Value->Prop} (h:P []) (us:List Value) (q:us.length=0):P us:=by
 rw [kN.mp q]
 exact h
theorem usS {P:List Value->Prop}{k:Nat} (h:∀a,∀us:List Value,us.length=k->P (a::us)) (us:List Value) (q:us.length=k+1):P us:=by
 cases us with
 | nil=>cases q
 | cons a l=>exact h a l (Nat.succ.inj q)
theorem us1 {P:List Value->Prop} (h:∀a,P [a]):∀q:List Value,q.length=1->P q:=usS fun a=>us0 (h a)
theorem us2 {P:List Value->Prop} (h:∀a b,P [a,b]):∀q:List Value,q.length=2->P q:=usS fun a=>usS fun b=>us0 (h a b)
theorem us3 {P:List Value->Prop} (h:∀a b c,P [a,b,c]):∀q:List Value,q.length=3->P q:=usS fun a=>usS fun b=>usS fun c=>us0 (h a b c)
theorem us4 {P:List Value->Prop} (h:∀a b c d,P [a,b,c,d]):∀q:List Value,q.length=4->P q:=usS fun a=>usS fun b=>usS fun c=>usS fun d=>us0 (h a b c d)
theorem us5 {P:List Value->Prop} (h:∀a b c d e,P [a,b,c,d,e]):∀q:List Value,q.length=5->P q:=usS fun a=>usS fun b=>usS fun c=>usS fun d=>usS fun e=>us0 (h a b c d e)
theorem Dz {K:Frag}{h:Heap}{mg:Str->Option Value}{x:Str}{st:Stmt} (X:K.In h) (G:h.Ns mainGlobals mg) (d:Fd K x st) (ps:List Str) (L:∀(kV q M:Value) (O:Option Addr) (J ct:Value) (us:List Value),us.length=ps.length->bindArgs (PySem.W.fnOf x x (Jo st) (Ik st) (Ax st) .none kV q M O J ct) ⟨us,[]⟩=pure (ps.zip us):=by first | exact(fun _ _ _ _ _ _=>us1 fun _=>rfl) | exact(fun _ _ _ _ _ _=>us2 fun _ _=>rfl) | exact(fun _ _ _ _ _ _=>us3 fun _ _ _=>rfl) | exact(fun _ _ _ _ _ _=>us4 fun _ _ _ _=>rfl) | exact(fun _ _ _ _ _ _=>us5 fun _ _ _ _ _=>rfl)):∃f fd,Df K mg x st ps f fd:=by
 obtain⟨f,_,_,_,_,_,_,_,_,_,a,l,c,k⟩:=d
 have F:=Aeo (st:=st) l c k
 exact⟨_,_,F,F.binds L,iW X G a⟩
theorem all_mk {l:PySem.W.OpenLaw}{w:World}{K:Frag}{h:Heap}{mg:Str->Option Value}{fa:Addr} (X:K.In h) (G:h.Ns mainGlobals mg) (cx:mg "law"=some (.ref fa))
 (d1:Fd K "_law_sum" Q8) (d2:Fd K "_law_draws" N6) (d3:Fd K "_law_next" Q7) (d4:Fd K "place_of" K6) (d5:Fd K "most" Wn) (d6:Fd K "packed" Ms) (d7:Fd K "unpacked" K8) (d8:Fd K "greatest_power" En) (d9:Fd K "f_times" Ny) (cy:Fd K "without" N8) (cz:Fd K "weight_of" Hw) (d0:Fd K "lead_of" N5) (da:Fd K "form" Wm) (db:Fd K "f_plus" Q5) (dd:Fd K "f_scaled" Je) (de:Fd K "f_minus" Nv) (df:Fd K "name_power" G8) (dh:Fd K "f_parted" K3) (di:Fd K "f_part" Q0) (dj:Fd K "next_row" K5) (dk:Fd K "f_power" Nx) (dm:Fd K "taken_from_greater" Ej) (dn:Fd K "taken_out" Ju) (dp:Fd K "_law_weight" K7) (dq:Fd K "_law_terms" N7) (dt:Fd K "_law_cell_at" Js) (du:Fd K "_law_product" Jt) (dv:Fd K "is_whole" K4) (dy:Fd K "is_term" Kc) (dz:Fd K "is_form" Ir) (e0:Fd K "taken_right" Gk) (e1:Fd K "_law_right" Iu) (e2:Fd K "_law_shared" Jf) (e3:Fd K "_law_top" Q9) (e4:Fd K "_law_at" Sx) (e5:Fd K "law" Q6)
 {b3:Addr} (b4:PySem.W.nsIn K mainGlobals "NAMES"=some (some (.ref b3)))
 {c1:Addr} (c2:PySem.W.nsIn K mainGlobals "ONE"=some (some (.ref c1)))
 {bj:Nat}{bl:Array (Option Value)}{b9 ba bb:Tok}
 {bc be:Addr}
 {c5:Option Addr}{c6:Nat}{c7:Array (Option Value)}
 {c8:Option Addr}{c9:Nat}{ca:Array (Option Value)}{cb:Tok}
 {cc:Option Addr}{ce:Nat}{cg:Array (Option Value)}{bm bn bo:Tok}
 (bf:K.lookup b3=some ⟨.type "tuple",none,.seq #[.str "x" b9,.str "y" ba,.str "z" bb] bj,bl⟩)
 (bp:K.lookup c1=some ⟨.type "tuple",c5,.seq #[.ref bc] c6,c7⟩)
 (bq:K.lookup bc=some ⟨.type "tuple",c8,.seq #[.ref be,.int 1 cb] c9,ca⟩)
 (br:K.lookup be=some ⟨.type "tuple",cc,.seq #[.int 0 bm,.int 0 bn,.int 0 bo] ce,cg⟩)
 (bt:PySem.W.nsIn K mainGlobals "tuple"=some none) (bg:PySem.W.nsIn K mainGlobals "sorted"=some none) (bu:PySem.W.nsIn K mainGlobals "range"=some none) (cn:PySem.W.nsIn K mainGlobals "len"=some none) (aj:PySem.W.nsIn K mainGlobals "isinstance"=some none) (co:PySem.W.nsIn K mainGlobals "str"=some none) (cp:PySem.W.nsIn K mainGlobals "max"=some none) (bh:PySem.W.nsIn K mainGlobals "divmod"=some none) (ch:PySem.W.nsIn K mainGlobals "dict"=some none) (cq:PySem.W.nsIn K mainGlobals "int"=some none) (ci:PySem.W.nsIn K mainGlobals "bool"=some none) (cr:PySem.W.nsIn K mainGlobals "all"=some none) (cs:PySem.W.nsIn K mainGlobals "zip"=some none) (cu:PySem.W.nsIn K mainGlobals "any"=some none) (cj:PySem.W.nsIn K mainGlobals "list"=some none) (ap:PySem.W.nsIn K mainGlobals "enumerate"=some none):
 ∃fd:FuncData,(∀(s:Shared) (v:Value),BindsTo s fd ⟨[v],[]⟩ [("_law_script",v)])/\∀base:Heap,K.In base->base.Ns mainGlobals mg->Pz l.prog w K mg base CX0 8 fa fd yD (Ad4 K):=by
 obtain⟨f6,_,an,sl,oc,kV,dc,pm,cd,ct,cv,e6,e7,e8⟩:=e5
 have e:=cx.symm.trans (iW X G cv)
 cases e
 have J:=bY X G bt
 have a6:=bY X G bg
 have L:=bY X G bu
 have Z:=bY X G cn
 have q:=bY X G aj
 have ck:=bY X G co
 have ab:=bY X G cp
 have b6:=bY X G bh
 have bv:=bY X G ch
 have cl:=bY X G cq
 have bw:=bY X G ci
 have ak:=bY X G cr
 have cm:=bY X G cs
 have Aci:=bY X G cu
 have bx:=bY X G cj
 have al:=bY X G ap
 have b5:=Aig b4
 have c4:=Aig c2
 have b7:mg "NAMES"=some (.ref (cA K "NAMES")):=by rw [b5];exact iW X G b4
 have b8:Ah3 K (cA K "NAMES") [.str "x",.str "y",.str "z"]:=by rw [b5];exact⟨_,_,_,bf,rfl,rfl,show 3<=sizeLine by decide,.cons ⟨_,rfl⟩ (.cons ⟨_,rfl⟩ (.cons ⟨_,rfl⟩ (.nil))),rfl⟩
 have a1:mg "ONE"=some (.ref (cA K "ONE")):=by rw [c4];exact iW X G c2
 have a2:Afi K (cA K "ONE"):=by rw [c4];exact⟨_,_,⟨_,_,_,bp,rfl,rfl,show 1<=sizeLine by decide,.cons rfl .nil⟩,⟨_,_,_,bq,rfl,rfl,show 2<=sizeLine by decide,.cons rfl (.cons ⟨_,rfl⟩ .nil)⟩,⟨_,_,_,br,rfl,rfl,show 3<=sizeLine by decide,.cons ⟨_,rfl⟩ (.cons ⟨_,rfl⟩ (.cons ⟨_,rfl⟩ .nil))⟩⟩
 obtain⟨_,_,D1⟩:=Dz X G d1 zV
 obtain⟨_,_,D2⟩:=Dz X G d2 zW
 obtain⟨_,_,D3⟩:=Dz X G d3 zF
 obtain⟨_,_,D4⟩:=Dz X G d4 yN
 obtain⟨_,_,D5⟩:=Dz X G d5 zG
 obtain⟨_,_,D6⟩:=Dz X G d6 yF
 obtain⟨_,_,D7⟩:=Dz X G d7 yH
 obtain⟨_,_,D8⟩:=Dz X G d8 ["f"]
 obtain⟨_,_,D9⟩:=Dz X G d9 zE
 obtain⟨_,_,e9⟩:=Dz X G cy yC
 obtain⟨_,_,ea⟩:=Dz X G cz zR
 obtain⟨_,_,eb⟩:=Dz X G d0 zG
 obtain⟨_,_,ec⟩:=Dz X G da ["terms"]
 obtain⟨_,_,ed⟩:=Dz X G db zE
 obtain⟨_,_,ee⟩:=Dz X G dd yE
 obtain⟨_,_,ef⟩:=Dz X G de zE
 obtain⟨_,_,eg⟩:=Dz X G df yA
 obtain⟨_,_,eh⟩:=Dz X G dh zN
 obtain⟨_,_,ei⟩:=Dz X G di zE
 obtain⟨_,_,ek⟩:=Dz X G dj zP
 obtain⟨_,_,em⟩:=Dz X G dk yM
 obtain⟨_,_,en⟩:=Dz X G dm zN
 obtain⟨_,_,eo⟩:=Dz X G dn yK
 obtain⟨_,_,er⟩:=Dz X G dp yG
 obtain⟨_,_,et⟩:=Dz X G dq zI
 obtain⟨_,_,eu⟩:=Dz X G dt zT
 obtain⟨_,_,ev⟩:=Dz X G du zZ
 obtain⟨_,_,ew⟩:=Dz X G dv zJ
 obtain⟨_,_,ey⟩:=Dz X G dy zJ
 obtain⟨_,_,ez⟩:=Dz X G dz zJ
 obtain⟨_,_,f0⟩:=Dz X G e0 zX
 obtain⟨_,_,f1⟩:=Dz X G e1 zC
 obtain⟨_,_,f2⟩:=Dz X G e2 yB
 obtain⟨_,_,f3⟩:=Dz X G e3 zS
 obtain⟨_,_,f4⟩:=Dz X G e4 zK
 have cw:=Aeo (st:=Q6) e6 e7 e8
 have f5:Df K mg "law" Q6 yD _ _:=⟨cw,cw.binds (ps:=yD) fun _ _ _ _ _ _ us hl=>match us,hl with | [_],_=>rfl,iW X G cv⟩
 refine⟨PySem.W.fnOf "law" "law" (Jo Q6) (Ik Q6) (Ax Q6) .none kV dc pm an cd ct,fun s v=> .of_eq rfl,fun base _ _=> ?_⟩
 have ac:= @Adk l.prog w K mg base _ _ D1 J a6
 have ax:= @Xv l.prog w K mg base _ _ D2 L Z
 have a7:= @Aa0 l.prog w K mg base _ _ D3
 have a9:= @Uv l.prog w K mg base _ _ D4 q ck b7 b8
 have a3:= @Agg l.prog w K mg base _ _ D5 ab
 have ah:= @Aaz l.prog w K mg base _ _ D6
 have aa:= @Uy l.prog w K mg base _ _ D7 a6 J b6
 have O:= @Kz l.prog w K mg base _ _ D8 ab
 have M:=Xp D9 ah aa O
 have ay:= @Xy l.prog w K mg base _ _ e9
 have a4:=R9 ea J ay
 have ad:=Xu eb a4 a3
 have bz:= @Agf l.prog w K mg base _ _ ec J a6
 have a8:=Aay ed bz
 have aq:= @Us l.prog w K mg base _ _ ee J
 have a0:=Xn ef a8 aq
 have ag:= @Qu l.prog w K mg base _ _ eg J L
 have ar:=Ur eh L a1 a2 ad a4 M a8 a0 a3 ag
 have ai:=Aax ei bv Z ab a1 a2 ah aa O
 have as:=Uu ek ar a0 M ai
 have az:=Xo em L a1 a2 M
 have U:=Io en a1 a2 a3 M as ad ai az a0
 have am:=R8 eo a1 a2 a9 U a3
 have au:=Ux er a7
 have b0:=Xx et L a7 au
 have ao:= @R6 l.prog w K mg base _ _ eu Z
 have a5:=R7 ev ac
 have av:= @Ut l.prog w K mg base _ _ ew q cl bw
 have b1:=Xr ey ak q J Z av
 have ae:=Xq ez ak q J cm b1
 have af:=Ow f0 q J Z ak a9 a3 a8 M ae
 have b2:=Xw f1 Aci q J Z ak bx ac af a5 ae
 have aw:= @Uw l.prog w K mg base _ _ f2 Z al
 have bi:= @Adl l.prog w K mg base _ _ f3 ab
 have c0:= @Agh l.prog w K mg base _ _ f4 ab L
 exact @Aix l.prog w K mg base _ _ f5 L Z ac ax a7 am b0 ao a5 b2 aw bi c0
theorem walk {l:PySem.W.OpenLaw}{q:Program}{G:List Str}{O:(Str->Option Value)->Heap->Prop}{L:World->Heap->Prop}{d:DefRec}{K:Params->Frag} (U:l.most=some 63) (J:d.params.defaults=[])
 (Z:∀(w:World) (h:Heap),L w h->(K w.params).In h)
 (F:∀(w:World) (mg:Str->Option Value) (M:Addr) (h:Heap),(K w.params).In h->h.Ns mainGlobals mg->mg d.name=some (.ref M)->
   ∃fd:FuncData,(∀(s:Shared) (u:Value),BindsTo s fd ⟨[u],[]⟩ [("_law_script",u)])/\∀base:Heap,(K w.params).In base->base.Ns mainGlobals mg->Pz l.prog w (K w.params) mg base CX0 8 M fd yD (Ad4 (K w.params))):
 PySem.W.WalkO q G O L l.row.toRowW d [] (fun f vs=>PySem.call f vs):=
 L2.Ace (n:=63) (k:=8) (x:="_law_script") (CX:=fun _=>CX0) (sp:=fun w=>Ad4 (K w.params)) U (by decide) J ⟨rfl,by decide,by decide⟩ Z F (fun _ _ a ns hl _ hS=>⟨a,ns,rfl,hS,hl,fun _=>rfl⟩) fun _ _ _ _ _ z=>z
end Z
namespace PySem.W.Fast
def tw10040072767860899784:=()
def tw10085005637617180383:=()
def tw10136221547001151792:=()
def tw10168768004883537387:=()
def tw10169475230597476762:=()
def tw10195131396426784155:=()
def tw10237558622147738126:=()
def tw10328376095112308522:=()
def tw10559408479449605341:=()
def tw10563352996641464483:=()
def tw10636030081392437615:=()
def tw10831550388769321094:=()
def tw1086670482188639248:=()
def tw10910717547300759429:=()
def tw10991041923273043999:=()
def tw11024276951264996995:=()
def tw1107021875438338188:=()
def tw11071428390106884646:=()
def tw11087228093674564961:=()
def tw11098510969741134938:=()
def tw11148543989120197586:=()
def tw1118030414608998325:=()
def tw1120048653669176316:=()
def tw11214008234013387365:=()
def tw11296842364604761798:=()
def tw11304113691404357265:=()
def tw11307046165465949913:=()
def tw11317667206635350273:=()
def tw11335446334296256754:=()
def tw11518673944600617623:=()
def tw11553654207232529589:=()
def tw11616085491508521320:=()
def tw11616759248195237997:=()
def tw11668753785808214575:=()
def tw11688113469094094837:=()
def tw11828923184480641701:=()
def tw11965828342591603371:=()
def tw11972074599944949299:=()
def tw11978254631860234961:=()
def tw12110773948282054487:=()
def tw1224850158140075621:=()
def tw1246061754740059700:=()
def tw12461558076439700075:=()
def tw12699497976619335251:=()
def tw12826053746122509814:=()
def tw12928413036754513154:=()
def tw13014897095221258900:=()
def tw130404145879654947:=()
def tw13145221060208974633:=()
def tw13210568696942978960:=()
def tw13479080300905690741:=()
def tw13488703537245857927:=()
def tw13539523241079839384:=()
def tw13706416606428597745:=()
def tw13905888519842810160:=()
def tw1392995221480378927:=()
def tw1400376049556720209:=()
def tw14043685450050925743:=()
def tw14051159857791788798:=()
def tw14117416567268841848:=()
def tw14152654167463432966:=()
def tw14165573578131152612:=()
def tw14173618814418090190:=()
def tw1432171591145443962:=()
def tw14456744064425301744:=()
def tw14577796861468766078:=()
def tw14614593058189053016:=()
def tw14678874586125253259:=()
def tw14707123982651822339:=()
def tw1483293265245341908:=()
def tw14863728318545682694:=()
def tw14926607699057860995:=()
def tw15180171579560154028:=()
def tw15348266651239617459:=()
def tw15365658788045387758:=()
def tw1540267355725069068:=()
def tw15404640893222959006:=()
def tw15407304174043815705:=()
def tw15410930974090654590:=()
def tw15540298269726497349:=()
def tw15770793040232607804:=()
def tw15820911209709024682:=()
def tw1590479311062252579:=()
def tw16073419716795915817:=()
def tw16075993206959989481:=()
def tw16160556111653379504:=()
def tw16321736021769102742:=()
def tw16368754351416108381:=()
def tw16450325425890752053:=()
def tw1645103194321665875:=()
def tw16550217721103470454:=()
def tw16561373415374547640:=()
def tw16598654762174342206:=()
def tw16643348991252109244:=()
def tw16727892005264701411:=()
def tw16794656226501347694:=()
def tw16835092472502620585:=()
def tw16919896535015074436:=()
def tw16938723785107693117:=()
def tw17061117698849360295:=()
def tw17124004148787553848:=()
def tw17125090984061470162:=()
def tw17196923396882095193:=()
def tw17435975970977775112:=()
def tw17489042466704618108:=()
def tw17594872019218500852:=()
def tw17631362578432109234:=()
def tw1788578565061091980:=()
def tw18089819781843290147:=()
def tw18125360328645921519:=()
def tw18158509907098339529:=()
def tw18196363196600333498:=()
def tw18402948225985001766:=()
def tw1865318666189992995:=()
def tw1902828107597213191:=()
def tw2029138266650823734:=()
def tw2092598267023378053:=()
def tw2215656654866645361:=()
def tw2235853390441000053:=()
def tw2257013388860922822:=()
def tw2326203937473542914:=()
def tw2341389887327054754:=()
def tw2380515877439356480:=()
def tw2394192058448693727:=()
def tw2481861029409525237:=()
def tw2490356002570794827:=()
def tw2497185241431095354:=()
def tw2527925874845015881:=()
def tw2540926969338443715:=()
def tw2551790776645368547:=()
def tw2571977377358335601:=()
def tw2653739993515896380:=()
def tw2904843898479785499:=()
def tw2930175640444668221:=()
def tw298709842160168667:=()
def tw3055821797069205311:=()
def tw3061335526208001134:=()
def tw3169527208057589326:=()
def tw3204072378624607393:=()
def tw3256117306718480897:=()
def tw3654990981746848480:=()
def tw3688461438444828271:=()
def tw3750223578803871803:=()
def tw381405446892028826:=()
def tw3896148907389055396:=()
def tw3899880354813286875:=()
def tw4060854337764230735:=()
def tw4066618179903993429:=()
def tw4192349686133977602:=()
def tw422263837142698293:=()
def tw424303475262117666:=()
def tw4370450559166551427:=()
def tw4443792739400178340:=()
def tw4478786144800848598:=()
def tw4561769098924469750:=()
def tw4597293347058248964:=()
def tw4676628985229459535:=()
def tw4713679675026459728:=()
def tw4874488057134623518:=()
def tw4934555958841670471:=()
def tw4974753149550975500:=()
def tw5000823251981595581:=()
def tw5017563118543552209:=()
def tw5065068978486977795:=()
def tw5166145550472485716:=()
def tw5178576364052354590:=()
def tw5220011208856351946:=()
def tw5235317965913274360:=()
def tw5259854916876141362:=()
def tw5284850747966827546:=()
def tw5326739958648301888:=()
def tw5373567424835139586:=()
def tw5415472190707474898:=()
def tw5590384809032525136:=()
def tw5664431862068577932:=()
def tw58117016145796996:=()
def tw5823277214715920863:=()
def tw5823980562201430853:=()
def tw5858561496698464380:=()
def tw5904128824723899027:=()
def tw6055821235350040265:=()
def tw6097745435120081412:=()
def tw6151153118221912791:=()
def tw6193369909274150334:=()
def tw626109456012367516:=()
def tw6415864278052994761:=()
def tw6434016029393264194:=()
def tw6468641298890249941:=()
def tw6488666553362731736:=()
def tw6517750620694927247:=()
def tw6796681476096310528:=()
def tw6923331380920096093:=()
def tw7024279375779539961:=()
def tw7133408118778432075:=()
def tw7171506291906371057:=()
def tw71758567756762603:=()
def tw7252841162027726670:=()
def tw7335244958014515322:=()
def tw7366151638192671567:=()
def tw7381494637508670818:=()
def tw7390600545550178828:=()
def tw7441224833538132426:=()
def tw7516661686052280750:=()
def tw7659712150712185325:=()
def tw7694809710036716682:=()
def tw7806553975474727769:=()
def tw7858251012228557762:=()
def tw7928203479262278230:=()
def tw7966188870945016939:=()
def tw8047255364929506299:=()
def tw8167176365586922957:=()
def tw8226144590780029442:=()
def tw8236073791040223889:=()
def tw8264451416549487476:=()
def tw8332919851423246764:=()
def tw8351094958593701922:=()
def tw8375242058705598868:=()
def tw8488945364277704047:=()
def tw8625411866679302779:=()
def tw8670416726199301319:=()
def tw8784295567780178721:=()
def tw8912928489887094919:=()
def tw8918550544625453592:=()
def tw9005455050074263576:=()
def tw9031649888992880210:=()
def tw9036424106787466768:=()
def tw9082346032448854755:=()
def tw9099136755498672048:=()
def tw9148723316741330302:=()
def tw9185939248127975333:=()
def tw9201740972322811171:=()
def tw9211416796344151534:=()
def tw9302744180739945379:=()
def tw9373019568643711587:=()
def tw9409654899948042321:=()
def tw9460772906197136216:=()
def tw9568317934581310834:=()
def tw9621398544219071996:=()
def tw9846331201079524077:=()
def tw9890177026039312049:=()
def tw9896503267012997251:=()
def tw9909283258617157322:=()
def tw9941994202855378737:=()
def tw9955120016499033761:=()
end PySem.W.Fast
open PySem PySem.W PyProof.Rows
set_option maxRecDepth 100000 in
set_option maxHeartbeats 0 in
theorem PySem.Challenge.cw_rootcourt_k36_a_name_taken_out_holds : PySem.Challenge.rw_rootcourt_k36_a_name_taken_out.Holds := by
 w_on;o_law;k_head;(case hw=>w_witness2)
 k_fill
 refine Z.walk (l:=PySem.Challenge.rw_rootcourt_k36_a_name_taken_out) rfl rfl (fun w h Y=>kIn_of Y) ?F
 case F=>
  intro w mg L h J G q
  refine' Z.all_mk J G q ?d1 ?d2 ?d3 ?d4 ?d5 ?d6 ?d7 ?d8 ?d9 ?d10 ?d11 ?d12 ?d13 ?d14 ?d15 ?d16 ?d17 ?d18 ?d19 ?d20 ?d21 ?d22 ?d23 ?d24 ?d25 ?d26 ?d27 ?d28 ?d29 ?d30 ?d31 ?d32 ?d33 ?d34 ?d35 ?d36 ?aNAMES ?aONE ?xtNAMES ?xtONE0 ?xtONE1 ?xtONE2 ?ztuple ?zsorted ?zrange ?zlen ?zisinstance ?zstr ?zmax ?zdivmod ?zdict ?zint ?zbool ?zall ?zzip ?zany ?zlist ?zenumerate
  (case aNAMES=>k_is);(case aONE=>k_is);(case xtNAMES=>k_is);(case xtONE0=>k_is);(case xtONE1=>k_is);(case xtONE2=>k_is)
  all_goals first | k_is | exact⟨_,_,_,_,_,_,_,_,_,_,by k_is,by k_is,by k_is,by k_is⟩
