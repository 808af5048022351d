import PyProof.Rows.All
import Wide.All
import OpenK.AllK
import Wide.FinOn
import Lean
import PyProof.EqAt
import PyProof.EqKinds
import PyProof.TupleCall
import PyProof.StrLaws
import PyProof.CompMap
import PyProof.NeKinds
import PyProof.ZipIter
import PyProof.SetKind
import PyProof.Rows.SetFrom
import KE.KDictSum
import PyProof.SetRoads
import PyProof.Rows.SortWalk
import PyProof.NsDelKeeps
import PyProof.StationsW
import KE.KSortTup
import PyProof.DictWalks
import KE.KDictList
import PySem.Challenge.RW_selfsay_k08_great_sayings
abbrev Za:=@Nat.le_of_ble_eq_true
abbrev Zb:=@PySem.wpAny_bind
abbrev Zc:=@PySem.Heap.get?_push_of_some
abbrev Zd:=@Nat.le_refl
abbrev Ze:=@List.mem_of_getElem?
abbrev Zg:=@List.mem_singleton
abbrev Zh:=@List.size_toArray
abbrev Zi:=@List.getElem?_eq_getElem
abbrev Zj:=@List.getElem?_eq_some_iff
abbrev Zk:=@PySem.wpAny_pure
abbrev Zl:=@List.length_map
abbrev Zm:=@Option.some.inj
abbrev Zn:=@PySem.Heap.get?_push_size
abbrev Zo:=@PySem.Heap.lt_size
abbrev Zp:=@List.getElem?_map
abbrev Zq:=@PySem.F.plainAttrs_list
abbrev Zr:=@List.mem_cons
abbrev Zs:=@if_neg
abbrev Zt:=@Nat.zero_le
abbrev Zu:=@Bool.false_ne_true
abbrev Zv:=@List.length_append
abbrev Zw:=@if_pos
abbrev Zx:=@PySem.F.slot_list_append
abbrev Zy:=@PySem.F.type_list_append
abbrev Zz:=@List.mem_cons_of_mem
abbrev Z0:=@List.mem_cons_self
abbrev Z2:=@decide_eq_true
abbrev Z3:=@Array.getElem?_eq_getElem
abbrev Z4:=@List.getD_eq_getElem?_getD
abbrev Z5:=@Nat.ne_of_lt
abbrev Z6:=@List.length_take
abbrev Z7:=@Nat.lt_of_lt_of_le
abbrev Z8:=@PySem.W.mg_none_of
abbrev Z9:=@decide_eq_false
abbrev Zaa:=@List.mem_append
abbrev Zab:=@List.length_cons
abbrev Zac:=@List.map_append
abbrev Zad:=@Array.length_toList
abbrev Zae:=@Array.toList_append
abbrev Zaf:=@of_decide_eq_true
abbrev Zag:=@List.getElem?_append_right
abbrev Zah:=@Nat.le_trans
abbrev Zai:=@List.eq_nil_of_length_eq_zero
abbrev Zaj:=@Array.getElem?_toList
abbrev Zak:=@List.mem_iff_getElem?
abbrev Zal:=@beq_self_eq_true
abbrev Zam:=@beq_eq_false_iff_ne
abbrev Zan:=@PySem.Str.length_append
abbrev Zao:=@List.take_add_one
abbrev Zap:=@Nat.le_succ_of_le
abbrev Zaq:=@List.mem_append_right
abbrev Zar:=@List.mem_map
abbrev Zas:=@Array.size_push
abbrev Zat:=@List.getElem?_append_left
abbrev Zau:=@List.extract_eq_take_drop
abbrev Zav:=@List.take_append_drop
abbrev Zaw:=@PyProof.Rows.callWith_type1
abbrev Zax:=@PySem.boot_len
abbrev Zay:=@Bool.and_eq_true
abbrev Zaz:=@List.take_length
abbrev Za0:=@PySem.PassesOwn.never
abbrev Za1:=@PySem.Heap.size_push
abbrev Za2:=@List.mem_map_of_mem
abbrev Za3:=@Nat.lt_irrefl
abbrev Za4:=@List.pairwise_append
abbrev Za5:=@PySem.W.kia_one
abbrev Za6:=@Bool.false_eq_true
abbrev Za7:=@PySem.Heap.get?_update_other
abbrev Za8:=@List.map_cons
abbrev Za9:=@PyProof.Rows.boot_isinstance
abbrev Zba:=@PySem.Value.type.inj
abbrev Zbb:=@PySem.wpAny_truthy_bool
abbrev Zbc:=@PySem.wpAny_holding
abbrev Zbd:=@List.reverse_cons
abbrev Zbe:=@PySem.Around.under_plainId
abbrev Zbf:=@Array.toList_extract
abbrev Zbg:=@PySem.wpAny_Call_Name_kw
abbrev Zbh:=@List.pairwise_cons
abbrev Zbi:=@Array.size_extract
abbrev Zbj:=@PySem.wpAny_seqItems
abbrev Zbk:=@Nat.lt_succ_self
abbrev Zbl:=@List.length_drop
abbrev Zbm:=@Nat.succ_le_succ
abbrev Zbn:=@PySem.Str.append_empty
abbrev Zbo:=@Nat.add_assoc
abbrev Zbp:=@Nat.le_succ
abbrev Zbq:=@Array.toList_push
abbrev Zbr:=@List.append_nil
abbrev Zbs:=@List.nodup_cons
abbrev Zbt:=@PySem.wpAny_mono
abbrev Zbu:=@PySem.wpAny_call_entry
abbrev Zbv:=@PySem.F.plain_max_loop
abbrev Zbw:=@Option.map_eq_some_iff
abbrev Zbx:=@PySem.wpAny_pyIter_list
abbrev Zby:=@PySem.wpAny_newObj_type
abbrev Zbz:=@PySem.W.mg_of
abbrev Zb0:=@List.getElem?_eq_none
abbrev Zb1:=@PySem.Calls.spliced_cons
abbrev Zb2:=@PySem.Str.append_assoc
abbrev Zb3:=@List.mem_append_left
abbrev Zb4:=@Array.getElem_toList
abbrev Zb5:=@List.append_assoc
abbrev Zb6:=@Nat.lt_succ_of_lt
abbrev Zb7:=@List.replicate_succ
abbrev Zb8:=@List.getElem_of_mem
abbrev Zb9:=@PySem.codeAny_builtin
abbrev Zca:=@List.length_reverse
abbrev Zcb:=@Array.getD_eq_getD_getElem?
abbrev Zcc:=@List.take_of_length_le
abbrev Zcd:=@List.not_mem_nil
abbrev Zce:=@PySem.Heap.get?_update_self
abbrev Zcf:=@PySem.plainId_quiet
abbrev Zcg:=@of_decide_eq_false
abbrev Zch:=@PySem.F.slot_list_pop
abbrev Zci:=@PySem.F.type_list_pop
abbrev Zcj:=@PySem.wpAny_field
abbrev Zck:=@List.pairwise_iff_getElem
abbrev Zcl:=@PySem.wpAny_passesOwn
abbrev Zcm:=@Bool.eq_iff_iff
abbrev Zcn:=@Option.isSome_iff_exists
abbrev Zco:=@List.find?_cons
abbrev Zcp:=@PySem.wpAny_specialOf
abbrev Zcq:=@PyProof.Rows.slot_tuple_getitem
abbrev Zcr:=@List.ext_getElem?
abbrev Zcs:=@List.reverse_perm
abbrev Zct:=@Int.emod_nonneg
abbrev Zcu:=@Array.size_append
abbrev Zcv:=@Nat.le_of_lt
abbrev Zcw:=@PySem.mem_of_lookup
abbrev Zcx:=@Bool.not_true
abbrev Zcy:=@PySem.Heap.SameBut.update
abbrev Zcz:=@List.map_congr_left
abbrev Zc0:=@List.getElem_mem
abbrev Zc1:=@beq_iff_eq
abbrev Zc2:=@PySem.Calls.callWith_builtin
abbrev Zc3:=@if_false
abbrev Zc4:=@PySem.SeqAt.EqAt.str_str
abbrev Zc5:=@PySem.wpAny_setField_rec
abbrev Zc6:=@List.getElem?_take
abbrev Zc7:=@Int.emod_lt_of_pos
abbrev Zc8:=@Nat.ne_of_gt
abbrev Zc9:=@PySem.Paired.snoc
abbrev Zda:=@List.map_map
abbrev Zdb:=@PyProof.Rows.boot_int
abbrev Zdc:=@Nat.zero_add
abbrev Zdd:=@PySem.Calls.spliced_nil
abbrev Zde:=@List.flatten_cons
abbrev Zdf:=@Array.toList_reverse
abbrev Zdg:=@PySem.wpAny_forIn_list
abbrev Zdh:=@PySem.wpAny_isInstance
abbrev Zdi:=@Ne.symm
abbrev Zdj:=@Nat.add_zero
abbrev Zdk:=@PySem.call_meets
abbrev Zdl:=@PySem.wpAny_rule
set_option Elab.async false
set_option linter.all false
set_option maxRecDepth 100000
set_option maxHeartbeats 8000000
namespace L2
noncomputable section
open PySem PySem.Spec PyProof.Rows
abbrev Key:=Sum Int Str
def keyIs:Key→Value→Bool
 | .inl k,v=>Value.isInt k v
 | .inr x,v=>Value.isStrOf x v
def keyH (w:World):Key→Int
 | .inl k=>hashInt k
 | .inr x=>hashStr w x
theorem keyIs_shape:∀ {k:Key} {v:Value},keyIs k v=true→(∃ i t,k=Sum.inl i∧v=Value.int i t)∨(∃ x t,k=Sum.inr x∧v=Value.str x t)
 | .inl i,v,h=>by
  obtain⟨t,e⟩:=Value.isInt_shape (k:=i) (v:=v) h
  exact .inl ⟨i,t,rfl,e⟩
 | .inr x,v,h=>by
  obtain⟨t,e⟩:=Value.isStrOf_shape (x:=x) (v:=v) h
  exact .inr ⟨x,t,rfl,e⟩
theorem keyIs_int (i:Int)(t:Tok):keyIs (.inl i) (.int i t)=true:=by simp[keyIs,Value.isInt]
theorem keyIs_str (x:Str)(t:Tok):keyIs (.inr x) (.str x t)=true:=by simp[keyIs,Value.isStrOf]
theorem key_ll (a b:Int):decide ((Sum.inl a:Key)=Sum.inl b)=(a == b):=by
 by_cases e:a=b
 ·subst e;simp
 ·have h:¬ (Sum.inl a:Key)=Sum.inl b:=fun q=>e (Sum.inl.inj q)
  rw[Z9 h]
  exact (Zam.mpr e).symm
theorem key_rr (a b:Str):decide ((Sum.inr a:Key)=Sum.inr b)=decide (a=b):=by
 by_cases e:a=b
 ·subst e;simp
 ·have h:¬ (Sum.inr a:Key)=Sum.inr b:=fun q=>e (Sum.inr.inj q)
  rw[Z9 h,Z9 e]
theorem key_lr (a:Int)(b:Str):decide ((Sum.inl a:Key)=Sum.inr b)=false:=Z9 (fun q=>nomatch q)
theorem key_rl (a:Str)(b:Int):decide ((Sum.inr a:Key)=Sum.inl b)=false:=Z9 (fun q=>nomatch q)
def Bc (prog:Program)(w:World):PySem.KeyKind prog w Key where
 is:=keyIs
 hash:=keyH w
 inj:=fun v a b ha hb=>by
  rcases keyIs_shape ha with ⟨i,t,rfl,rfl⟩ | ⟨x,t,rfl,rfl⟩
  ·rcases keyIs_shape hb with ⟨j,u,rfl,e⟩ | ⟨y,u,rfl,e⟩
   ·injection e with e1 _;rw[e1]
   ·exact nomatch e
  ·rcases keyIs_shape hb with ⟨j,u,rfl,e⟩ | ⟨y,u,rfl,e⟩
   ·exact nomatch e
   ·injection e with e1 _;rw[e1]
 byValue:=fun k v h=>by
  rcases keyIs_shape h with ⟨i,t,rfl,rfl⟩ | ⟨x,t,rfl,rfl⟩ <;> rfl
 pyHash:=fun hv h=>by
  rcases keyIs_shape hv with ⟨i,t,rfl,rfl⟩ | ⟨x,t,rfl,rfl⟩
  ·exact wpAny_pyHash_int h
  ·exact wpAny_pyHash_str h
 eqBool:=fun hu hv h=>by
  rcases keyIs_shape hu with ⟨i,t,rfl,rfl⟩ | ⟨x,t,rfl,rfl⟩
  ·rcases keyIs_shape hv with ⟨j,u,rfl,rfl⟩ | ⟨y,u,rfl,rfl⟩
   ·rw[key_ll] at h;exact wpAny_eqBool_int h
   ·rw[key_lr] at h;exact SeqAt.EqAt.int_str i t y u _ _ _ _ h
  ·rcases keyIs_shape hv with ⟨j,u,rfl,rfl⟩ | ⟨y,u,rfl,rfl⟩
   ·rw[key_rl] at h;exact SeqAt.EqAt.str_int x t j u _ _ _ _ h
   ·rw[key_rr] at h;exact wpAny_eqBool_str h
 «strs»:=fun k x t v h=>by
  rcases keyIs_shape h with ⟨i,u,rfl,e⟩ | ⟨y,u,rfl,e⟩
  ·exact nomatch e
  ·injection e with e1 _
   subst e1
   cases v <;> rfl
theorem mixKind_int (prog:Program)(w:World)(i:Int)(t:Tok):(Bc prog w).is (.inl i) (.int i t)=true:=keyIs_int i t
theorem mixKind_str (prog:Program)(w:World)(x:Str)(t:Tok):(Bc prog w).is (.inr x) (.str x t)=true:=keyIs_str x t
end
end L2
namespace L2
noncomputable section
open PySem PySem.Spec PyProof.Rows
inductive V where
 | non | bl (b:Bool) | int (i:Int) | str (x:Str) | byt (b:Array UInt8) | flt (b:UInt64) | ref (a:Addr) | ty (n:String)
 deriving DecidableEq
def Bl:V→Value→Prop
 | .non,u=>u=Value.none
 | .bl b,u=>u=Value.bool b
 | .int i,u=>∃ t,u=Value.int i t
 | .str x,u=>∃ t,u=Value.str x t
 | .byt b,u=>∃ t,u=Value.bytes b t
 | .flt b,u=>∃ t,u=Value.float b t
 | .ref a,u=>u=Value.ref a
 | .ty n,u=>u=Value.type n
abbrev Bi:List V→List Value→Prop:=Paired Bl
theorem Bi.length {xs:List V}{us:List Value}(r:Bi xs us):xs.length=us.length:=Paired.length r
theorem Bi.get:∀ {xs:List V} {us:List Value} {i:Nat} {x:V},Bi xs us→xs[i]?=some x→∃ u,us[i]?=some u∧Bl x u
 | _,_,_,_,.nil,e=>by simp at e
 | _,_,0,_,.cons r _,e=>by simp at e;subst e;exact⟨_,rfl,r⟩
 | _,_,i+1,x,.cons _ t,e=>by
  obtain⟨u,h1,h2⟩:=Bi.get (i:=i) (x:=x) t (by simpa using e)
  exact⟨u,by simpa using h1,h2⟩
theorem Bi.set (r:Bl x u):∀ {xs:List V} {us:List Value} (i:Nat),Bi xs us→Bi (xs.set i x) (us.set i u)
 | _,_,_,.nil=>.nil
 | _,_,0,.cons _ t=>.cons r t
 | _,_,i+1,.cons q t=>.cons q (Bi.set r i t)
theorem Bi.append:∀ {xs ys:List V} {us ws:List Value},Bi xs us→Bi ys ws→Bi (xs++ys) (us++ws)
 | _,_,_,_,.nil,s=>s
 | _,_,_,_,.cons r t,s=>.cons r (Bi.append t s)
theorem Bi.take:∀ {xs:List V} {us:List Value} (n:Nat),Bi xs us→Bi (xs.take n) (us.take n)
 | _,_,0,_=>.nil
 | _,_,_+1,.nil=>.nil
 | _,_,n+1,.cons r t=>.cons r (Bi.take n t)
theorem Bi.drop:∀ {xs:List V} {us:List Value} (n:Nat),Bi xs us→Bi (xs.drop n) (us.drop n)
 | _,_,0,r=>r
 | _,_,_+1,.nil=>.nil
 | _,_,n+1,.cons _ t=>Bi.drop n t
def RelO:Option V→Option Value→Prop
 | some v,some u=>Bl v u
 | none,none=>True
 | _,_=>False
def KV {κ:Type}:List (κ×V)→List (κ×Value)→Prop:=Paired fun (p:κ×V) (q:κ×Value)=>p.1=q.1∧Bl p.2 q.2
def kV:Key→V
 | .inl i=>.int i
 | .inr x=>.str x
inductive HO where
  | lst (xs:List V)
  | tup (xs:List V)
  | dK (kvs:List (Key×V)) | dT (kvs:List (List Key×V))
  | set (S:Int→Bool) (n:Nat)
  | ins (C dx:Addr) (fs:List (Str×V))
  | own (x:Addr)
  | xd (fs:List (Str×V))
  | met (f x:Addr)
  | rng (lo hi:Int)
  | frz (o:Obj) (u:HO)
  | tbl (ps:Array Value)
  | ext (φ:Heap→Prop)
abbrev Hp:=Addr→Option HO
def upd (H:Hp)(a:Addr)(o:HO):Hp:=fun b=>if b=a then some o else H b
theorem upd_same {H:Hp}:upd H a o a=some o:=by unfold upd;rw[Zw rfl]
theorem Ai {H:Hp}(h:b≠a):upd H a o b=H b:=by unfold upd;rw[Zs h]
theorem C4 {H:Hp}:upd (upd H a o) a u=upd H a u:=by
 funext b;unfold upd;split <;> rfl
theorem ne_of {H:Hp}{a b:Addr}{o u:HO}(h:H a=some o)(h' : H b=some u)(d:o≠u):a≠b:=by
 intro e;subst e;rw[h] at h';exact d (Zm h')
theorem Ae {H:Hp}{a b:Addr}{o:HO}(h:H a=some o)(h' : H b=none):a≠b:=by
 intro e;subst e;rw[h] at h';cases h'
section
variable (P:Program) (w:World)
def Cb (H:Hp)(h:Heap)(a:Addr):HO→Prop
 | .lst xs=>xs.length≤sizeLine∧∃ (its:List Value) (n:Nat),Bi xs its∧h.get? a=some { cls:=.type "list", data:=.seq its.toArray n }
 | .tup xs=>xs.length≤sizeLine∧∃ its:List Value,Bi xs its∧IsTup h a its.toArray
 | .dK kvs=>kvs.length≤sizeLine∧(a == sysModules)=false∧∃ vs,KV kvs vs∧h.DictOf (Bc P w) a vs
 | .dT kvs=>kvs.length≤sizeLine∧(a == sysModules)=false∧∃ xs:List (List Key×Addr×Value),
   Paired (fun (p:List Key×V) (q:List Key×Addr×Value)=>p.1=q.1∧H q.2.1=some (.tup (p.1.map kV))∧Bl p.2 q.2.2) kvs xs ∧
   ∃ o es ep,h.get? a=some o∧o.ExactDict∧o.data = .dict es ep∧es.toList=xs.map (entryOfKey (tupleKind (Bc P w)))∧(xs.map (·.1)).Nodup
 | .set S n=>h.SetOf (intKind P w) a S n
 | .ins C dx fs=>H dx=some (.own a)∧fs.length≤1000∧dx≠a∧h.get? a=some (PySem.W.instObj C dx) ∧
   ∃ mA,h.Ns1 dx mA∧(∀ f,RelO (fs.lookup f) (mA f))∧PySem.Within mA (fs.map (·.1))
 | .own _=>∃ o,h.get? a=some o
 | .xd fs=>∃ mA,h.Ns1 a mA∧∀ f,RelO (fs.lookup f) (mA f)
 | .rng lo hi=>∃ t u v,h.get? a=some { cls:=.type "range", data:=.fields #[.int lo t,.int hi u,.int 1 v] }
 | .frz o u=>h.get? a=some o∧Cb H h a u
 | .tbl ps=>h.get? a=some { cls:=.none,data:=.fields ps }
 | .met f x=>h.get? a=some (PySem.W.methodObj (.ref f) (.ref x))
 | .ext φ=>φ h∧(∃ o,h.get? a=some o)∧∀ h1 h2:Heap,φ h1→(∀ o,h1.get? a=some o→h2.get? a=some o)→φ h2
def HOk (H:Hp)(h:Heap):Prop:=∀ a o,H a=some o→Cb P w H h a o
end
section
variable {P:Program} {w:World} {H H' : Hp} {h h' : Heap} {a:Addr} {o:HO}
theorem Cb.lt (x:Cb P w H h a o):a<h.objs.size:=by
 cases o with
 | lst b=>obtain⟨_,_,_,_,e⟩:=x;exact Zo e
 | tup b=>obtain⟨_,_,_,p⟩:=x;exact p.lt
 | dK kvs=>obtain⟨_,_,_,_,o,_,_,e,_⟩:=x;exact Zo e
 | dT kvs=>obtain⟨_,_,_,_,o,_,_,e,_⟩:=x;exact Zo e
 | set S n=>obtain⟨o,_,_,_,e,_⟩:=x;exact Zo e
 | ins C g fs=>obtain⟨_,_,_,e,_⟩:=x;exact Zo e
 | own y=>obtain⟨_,e⟩:=x;exact Zo e
 | xd fs=>obtain⟨_,⟨_,_,_,e,_⟩,_⟩:=x;exact Zo e
 | rng c i=>obtain⟨_,_,_,e⟩:=x;exact Zo e
 | frz ob u=>obtain⟨e,_⟩:=x;exact Zo e
 | tbl d=>exact Zo (show h.get? a=some _ from x)
 | met f y=>exact Zo (show h.get? a=some _ from x)
 | ext φ=>obtain⟨_,⟨_,e⟩,_⟩:=x;exact Zo e
theorem Paired.mapP {α β:Type}{F G:α→β→Prop}:∀ {l₁:List α} {l₂:List β},Paired F l₁ l₂→(∀ a b,F a b→G a b)→Paired G l₁ l₂
 | _,_,.nil,_=>.nil
 | _,_,.cons r t,f=>.cons (f _ _ r) (Paired.mapP t f)
theorem Paired.imp' {α β:Type}{F G:α→β→Prop}(f:∀ a b,F a b→G a b){l₁:List α}{l₂:List β}(r:Paired F l₁ l₂):Paired G l₁ l₂:=Paired.mapP r f
theorem Cb.stay (x:Cb P w H h a o)(k:∀ b u,(b=a∨H b=some (.own a))→h.get? b=some u→h'.get? b=some u)(ho:∀ b,H b=some (.own a)→H' b=some (.own a))(ht:∀ b xs,H b=some (.tup xs)→H' b=some (.tup xs)):Cb P w H' h' a o:=by
 induction o with
 | lst xs=>obtain⟨z,j,n,r,e⟩:=x;exact⟨z,j,n,r,k _ _ (.inl rfl) e⟩
 | tup xs=>obtain⟨z,j,r,ob,e,c⟩:=x;exact⟨z,j,r,ob,k _ _ (.inl rfl) e,c⟩
 | dK kvs=>obtain⟨z,y,D,r,ob,i,g,e,c⟩:=x;exact⟨z,y,D,r,ob,i,g,k _ _ (.inl rfl) e,c⟩
 | dT kvs =>
  obtain⟨z,y,xs,r,ob,i,g,e,c⟩:=x
  exact⟨z,y,xs,Paired.mapP r fun p q z=>⟨z.1,ht _ _ z.2.1,z.2.2⟩,ob,i,g,k _ _ (.inl rfl) e,c⟩
 | set S n=>obtain⟨ob,i,g,t,e,c⟩:=x;exact⟨ob,i,g,t,k _ _ (.inl rfl) e,c⟩
 | ins C G fs =>
  obtain⟨d,z,ne,e,l,⟨m,i,g,E,c⟩,r⟩:=x
  exact⟨ho _ d,z,ne,k _ _ (.inl rfl) e,l,⟨m,i,g,k _ _ (.inr d) E,c⟩,r⟩
 | own y=>obtain⟨ob,e⟩:=x;exact⟨ob,k _ _ (.inl rfl) e⟩
 | xd fs=>obtain⟨l,⟨m,i,g,e,c⟩,r⟩:=x;exact⟨l,⟨m,i,g,k _ _ (.inl rfl) e,c⟩,r⟩
 | rng F I=>obtain⟨t,u,v,e⟩:=x;exact⟨t,u,v,k _ _ (.inl rfl) e⟩
 | frz ob u B=>obtain⟨e,q⟩:=x;exact⟨k _ _ (.inl rfl) e,B q⟩
 | tbl s =>
  have e:h.get? a=some { cls:=.none,data:=.fields s }:=x
  show h'.get? a=some { cls:=.none,data:=.fields s }
  exact k a _ (.inl rfl) e
 | met f y =>
  have e:h.get? a=some (PySem.W.methodObj (.ref f) (.ref y)):=x
  show h'.get? a=some (PySem.W.methodObj (.ref f) (.ref y))
  exact k a _ (.inl rfl) e
 | ext φ=>obtain⟨p,⟨o,e⟩,A⟩:=x;exact⟨A _ _ p fun o q=>k _ _ (.inl rfl) q,⟨o,k _ _ (.inl rfl) e⟩,A⟩
theorem HOk.lt (x:HOk P w H h)(e:H a=some o):a<h.objs.size:=(x a o e).lt
theorem HOk.fresh (x:HOk P w H h)(e:h.objs.size≤a):H a=none:=by
 cases q:H a with
 | none=>rfl
 | some u=>exact absurd (Z7 (x.lt q) e) (Za3 _)
theorem HOk.kept (x:HOk P w H h)(k:∀ b u,h.get? b=some u→h'.get? b=some u):HOk P w H h':=fun a o e =>
 (x a o e).stay (fun b u _ q=>k b u q) (fun _ q=>q) fun _ _ q=>q
theorem HOk.laid (x:HOk P w H h)(k:∀ b u,h.get? b=some u→h'.get? b=some u)(hp:h.objs.size≤a)(new:Cb P w (upd H a o) h' a o):HOk P w (upd H a o) h':=fun b u e=>by
 have d:=x.fresh hp
 by_cases f:b=a
 ·subst f;rw[upd_same] at e;cases e;exact new
 ·rw[Ai f] at e
  exact (x b u e).stay (fun c v _ q=>k c v q) (fun c q=>by rw[Ai (Ae q d)];exact q) fun c g q=>by rw[Ai (Ae q d)];exact q
end
def Rd (H:Hp)(a:Addr)(u:HO):Prop:=H a=some u∨∃ o,H a=some (.frz o u)
theorem Rd.ok {H:Hp}(r:Rd H a u)(x:HOk P w H h):Cb P w H h a u:=by
 rcases r with r | ⟨o,r⟩
 ·exact x a u r
 ·obtain⟨_,q⟩:=x a _ r
  exact q
def Mut:Option HO→Prop
 | some (.lst _)=>True
 | some (.dK _)=>True
 | some (.dT _)=>True
 | some (.set _ _)=>True
 | some (.ins _ _ _)=>True
 | some (.ext _)=>True
 | _=>False
section
variable {P:Program} {w:World} {H:Hp} {h h' : Heap} {x e:Addr} {o' : HO}
theorem HOk.write (ok:HOk P w H h)(mu:Mut (H x))(he:e=x∨H e=some (.own x))(k:∀ b u,b≠e→h.get? b=some u→h'.get? b=some u)(heo:∃ u,h'.get? e=some u)(new:Cb P w (upd H x o') h' x o'):HOk P w (upd H x o') h':=fun b u q=>by
 have d:∀ c y,H c=some (.own y)→c≠x:=fun c y r z=>by subst z;rw[r] at mu;exact mu
 have j:∀ c i,H c=some (.tup i)→c≠x:=fun c i r z=>by subst z;rw[r] at mu;exact mu
 by_cases f:b=x
 ·subst f;rw[upd_same] at q;cases q;exact new
 ·rw[Ai f] at q
  by_cases a:b=e
  ·have l : H b=some (.own x):=by
    rcases he with z | z
    ·exact absurd (a.trans z) f
    ·rw[a];exact z
   rw[q] at l;cases l
   obtain⟨v,m⟩:=heo
   exact⟨v,by rw[a];exact m⟩
  ·refine (ok b u q).stay (fun c v g r=>k c v ?_ r) (fun c r=>by rw[Ai (d c b r)];exact r) fun c i r=>by rw[Ai (j c i r)];exact r
   rcases g with rfl | g
   ·exact a
   ·rintro rfl
    rcases he with z | z
    ·exact d c b g z
    ·rw[g] at z;cases z;exact f rfl
end
structure Un (fs ex:List Addr) (H H' : Hp) (h h' : Heap):Prop where
 keep:∀ b o,h.get? b=some o→H b=none→b∉fs→b∉ex→h'.get? b=some o
 slot:∀ b o,h.get? b=some o→H b=none→b∈fs→b∉ex→∃ sl,h'.get? b=some { o with slots:=sl }
 free:∀ b o,h.get? b=some o→H b=none→b∉ex→H' b=none
 there:∀ b o,h.get? b=some o→b∉ex→∃ o',h'.get? b=some o'
 tups:∀ b xs,H b=some (.tup xs)→H' b=some (.tup xs)
 frzs:∀ b o u,H b=some (.frz o u)→H' b=some (.frz o u)
 tbls:∀ b ps,H b=some (.tbl ps)→∃ more,H' b=some (.tbl (ps++more))
section
variable {fs fs' ex ex' : List Addr} {H H1 H2:Hp} {h h1 h2 h' : Heap} {a x e:Addr} {o:HO}
theorem Un.any (u:Un fs ex H H1 h h1)(q:h.get? b=some ob)(n:H b=none)(hx:b∉ex):∃ sl,h1.get? b=some { ob with slots:=sl }:=by
 by_cases a:b∈fs
 ·exact u.slot b ob q n a hx
 ·exact⟨ob.slots,u.keep b ob q n a hx⟩
theorem Un.kept (k:∀ b u,h.get? b=some u→h'.get? b=some u):Un fs ex H H h h' :=
 ⟨fun b ob q _ _ _=>k b ob q,fun b ob q _ _ _=>⟨ob.slots,k b ob q⟩,fun _ _ _ n _=>n,fun b ob q _=>⟨ob,k b ob q⟩,fun _ _ q=>q,fun _ _ _ q=>q,fun _ a q=>⟨#[],by rw[q];simp⟩⟩
theorem Un.refl:Un fs ex H H h h:=Un.kept fun _ _ q=>q
theorem Un.laid (k:∀ b u,h.get? b=some u→h'.get? b=some u)(hp:h.objs.size≤a)(hn:H a=none):Un fs ex H (upd H a o) h h' where
 keep:=fun b u q _ _ _=>k b u q
 slot:=fun b u q _ _ _=>⟨u.slots,k b u q⟩
 free:=fun b u q n _=>by rw[Ai (Z5 (Z7 (Zo q) hp))];exact n
 there:=fun b u q _=>⟨u,k b u q⟩
 tups:=fun b c q=>by rw[Ai (Ae q hn)];exact q
 frzs:=fun b u c q=>by rw[Ai (Ae q hn)];exact q
 tbls:=fun b d q=>⟨#[],by rw[Ai (Ae q hn),q];simp⟩
theorem Un.write (mu:Mut (H x))(he:e=x∨H e=some (.own x))(k:∀ b u,b≠e→h.get? b=some u→h'.get? b=some u)(heo:∃ u,h'.get? e=some u):Un fs ex H (upd H x o) h h':=by
 have f:∀ b,H b=none→b≠x:=fun b n z=>by subst z;rw[n] at mu;exact mu
 have d:∀ b,H b=none→b≠e:=fun b n z=>by
  subst z
  rcases he with r | r
  ·exact f b n r
  ·rw[n] at r;cases r
 have c:∀ b u,H b=some u→¬ Mut (some u)→b≠x:=fun b u q g z=>by subst z;rw[q] at mu;exact g mu
 refine⟨fun b u q n _ _=>k b u (d b n) q,fun b u q n _ _=>⟨u.slots,k b u (d b n) q⟩,fun b u q n _=>by rw[Ai (f b n)];exact n,fun b u q _=>?_,
  fun b i q=>by rw[Ai (c b _ q fun z=>z)];exact q,fun b u i q=>by rw[Ai (c b _ q fun z=>z)];exact q,fun b j q=>⟨#[],by rw[Ai (c b _ q fun z=>z),q];simp⟩⟩
 by_cases a:b=e
 ·subst a;exact heo
 ·exact⟨u,k b u a q⟩
end
def trk (h:Heap)(H:Hp):List Addr:=(List.range h.objs.size).filter fun a=>(H a).isSome
def hidT (h:Heap)(H:Hp):Heap:=PySem.W.hideAll h (trk h H)
theorem hidT_size (h:Heap)(H:Hp):(hidT h H).objs.size=h.objs.size:=PySem.W.hideAll_size _ _
theorem hidT_get {h:Heap}{H:Hp}(e:h.get? b=some o)(n:H b=none):(hidT h H).get? b=some o :=
 PySem.W.hideAll_get _ e fun a=>by
  have q:(H b).isSome=true:=(List.mem_filter.mp a).2
  rw[n] at q;simp at q
theorem of_hidT {h:Heap}{H:Hp}(e:(hidT h H).get? b=some o):h.get? b=some o∧H b=none:=by
 have a : h.get? b=some o:=PySem.W.of_hideAll (trk h H) e
 refine⟨a,?_⟩
 cases q:H b with
 | none=>rfl
 | some x =>
  have c:b∈trk h H:=List.mem_filter.mpr ⟨List.mem_range.mpr (Zo a),by simp[q]⟩
  have z:(hidT h H).get? b=none:=PySem.W.hideAll_none (trk h H) c
  rw[z] at e;cases e
end
end L2
namespace L2
noncomputable section
open PySem PySem.Spec PyProof.Rows
structure Mod (K:PySem.W.Frag) (mg:Str→Option Value) (base:Heap):Prop where
 kin:K.In base
 glob:base.Ns mainGlobals mg
 blt:∃ mb,base.Ns builtinsNs mb∧∀ x:Str,x ≠ "__name__" → mb x=bootBuiltins x
 nolimit:base.NoLimit
structure Cx where
 prog:Program
 w:World
 K:PySem.W.Frag
 mg:Str→Option Value
 base:Heap
 A:Around
 N:List Str
 s₀:Shared
 H₀:Hp
 env:Env
 outer:List Env
 stack:List Env
 ex:List Addr
 fn:Str→Bool
 calm:Bool
 pn:List (Addr×Obj)
 xe:Value→Shared→Prop
def frs (l:List Env):List Addr:=l.filterMap (·.frame)
abbrev Cx.fs (X:Cx):List Addr:=frs X.outer
def Vis (sc:Scope)(x:Str):Prop:=sc.names.lookup x=some .local∨sc.names.lookup x=some .cell∨sc.names.lookup x=some .free
def Loc (sc:Scope)(x:Str):Prop:=sc.names.lookup x=some .local∨sc.names.lookup x=some .cell
def Look (env:Env)(h:Heap)(m:Str→Option Value)(x:Str)(u:Value):Prop :=
 (env.kindOf x=some .local∧m x=some u)∨((env.kindOf x=some .cell∨env.kindOf x=some .free)∧∃ c,env.cells.lookup x=some c∧h.IsCell c (some u))
structure Cx.Ok (X:Cx):Prop where
 mod:Mod X.K X.mg X.base
 kind:X.env.scope.kind = .function
 glob:X.env.globals=mainGlobals
 blt:X.env.builtins=builtinsNs
 above:X.s₀.heap.objs.size≤X.env.locals
 inj:∀ x y c,X.env.cells.lookup x=some c→X.env.cells.lookup y=some c→x=y
 has:∀ x,(X.env.kindOf x=some .cell∨X.env.kindOf x=some .free)→∃ c,X.env.cells.lookup x=some c
 cab:∀ x c,X.fn x=true→X.env.cells.lookup x=some c→X.s₀.heap.objs.size≤c
 hd:X.calm=true→X.A.handled=none
 frames:X.A.frames=some X.stack
 stk:X.stack=X.outer∨(X.stack=X.env::X.outer∧X.env.frame=some X.env.locals)
 exf:∀ b∈X.ex,b≠X.env.locals∧∀ x c,X.env.cells.lookup x=some c→c≠b
 bs:∀ b o,X.base.get? b=some o→X.s₀.heap.get? b=some o∧X.H₀ b=none
 bsz:X.base.objs.size≤X.s₀.heap.objs.size
 noex:∀ b o,X.base.get? b=some o→b∉X.ex
 exfs:∀ b∈X.ex,b∉X.fs
 funs:X.s₀.heap.FunFrames X.base X.outer
 frf:∀ b∈X.fs,X.H₀ b=none
structure Inv (X:Cx) (pins:List (Addr×Obj)) (σ:List (Option V)) (H:Hp) (s:Shared):Prop where
 ok:X.Ok
 os:s.os=X.s₀.os
 bare:AllBare s.gens
 base:Un X.fs X.ex X.H₀ H X.s₀.heap s.heap
 loc:∃ m,s.heap.Ns X.env.locals m∧∀ (i:Nat) (x:Str) (v:V),X.N[i]?=some x→σ[i]?=some (some v)→Vis X.env.scope x→∃ u,Bl v u∧Look X.env s.heap m x u
 cell:∀ x c,X.env.cells.lookup x=some c→∃ v,s.heap.IsCell c v
 free:H X.env.locals=none
 freeC:∀ x c,X.env.cells.lookup x=some c→H c=none
 pin:∀ p∈X.pn++pins,s.heap.get? p.1=some p.2∧H p.1=none∧p.1≠X.env.locals∧p.1∉X.fs∧∀ v,p.2.data ≠ .cell v
 hok:HOk X.prog X.w H s.heap
 len:σ.length=X.N.length
section
variable {X:Cx} {pins:List (Addr×Obj)} {σ:List (Option V)} {H H' : Hp} {s:Shared} {h' : Heap}
theorem Cx.Ok.nofr (ok:X.Ok)(e:X.base.get? b=some o):b∉X.fs:=fun a=>by
 have:=(ok.funs.mem a).1
 rw[e] at this;cases this
theorem Inv.bs (I:Inv X pins σ H s):∀ b o,X.base.get? b=some o→s.heap.get? b=some o∧H b=none:=fun b o e =>
 ⟨I.base.keep b o (I.ok.bs b o e).1 (I.ok.bs b o e).2 (I.ok.nofr e) (I.ok.noex b o e),I.base.free b o (I.ok.bs b o e).1 (I.ok.bs b o e).2 (I.ok.noex b o e)⟩
theorem Inv.bk (I:Inv X pins σ H s):∀ b o,X.base.get? b=some o→s.heap.get? b=some o:=fun b o e=>(I.bs b o e).1
theorem Inv.mod (I:Inv X pins σ H s):Mod X.K X.mg X.base:=I.ok.mod
theorem Inv.kIn (I:Inv X pins σ H s):X.K.In s.heap:=I.ok.mod.kin.keeps I.bk
theorem Inv.lt (I:Inv X pins σ H s):X.env.locals<s.heap.objs.size:=let ⟨_,hn,_⟩:=I.loc;hn.lt
theorem Inv.sz (I:Inv X pins σ H s):X.s₀.heap.objs.size≤s.heap.objs.size:=Zah I.ok.above (Zcv I.lt)
theorem Inv.nofs (I:Inv X pins σ H s)(h:s.heap.objs.size≤a):a∉X.fs:=fun b=>by
 obtain⟨_,o,c,_⟩:=I.ok.funs.mem b
 exact absurd (Z7 (Zo c) (Zah I.sz h)) (Za3 _)
theorem Inv.cne (I:Inv X pins σ H s):∀ x c,X.env.cells.lookup x=some c→c≠X.env.locals:=fun x c e z=>by
 obtain⟨v,o,a,b⟩:=I.cell x c e
 obtain⟨m,⟨h,g,i,f,d,_⟩,_⟩:=I.loc
 rw[z,f] at a;cases a;rw[d] at b;cases b
theorem Inv.funs (I:Inv X pins σ H s):s.heap.FunFrames X.base X.outer:=by
 have all:∀ (l:List Env),(∀ b∈frs l,b∈X.fs)→X.s₀.heap.FunFrames X.base l→s.heap.FunFrames X.base l:=by
  intro l
  induction l with
  | nil=>intro _ _;trivial
  | cons p r j =>
   intro f n
   obtain⟨g,⟨L,o,a,m,h,i⟩,k⟩:=n
   have c:L∈X.fs:=f L (by unfold frs;rw[List.filterMap_cons,a];exact Z0)
   obtain⟨q,e⟩:=I.base.slot L o h (I.ok.frf L c) c fun z=>I.ok.exfs L z c
   exact⟨g,⟨L,_,a,m,e,i⟩,j (fun b d=>f b (by unfold frs;rw[List.filterMap_cons,a];exact Zz _ d)) k⟩
 exact all X.outer (fun _ d=>d) I.ok.funs
theorem Inv.stack (I:Inv X pins σ H s):s.heap.FunFrames X.base X.stack:=by
 rcases I.ok.stk with e | ⟨e,b⟩
 ·rw[e];exact I.funs
 ·rw[e]
  obtain⟨m,a,_⟩:=I.loc
  refine .cons (by rw[I.ok.kind];decide) b a ?_ I.funs
  exact Heap.get?_none_of_le (Zah I.ok.bsz I.ok.above)
theorem Inv.stkSub (I:Inv X pins σ H s):∀ b∈frs X.stack,b∈X.env.locals::X.fs:=fun b a=>by
 rcases I.ok.stk with e | ⟨e,c⟩
 ·rw[e] at a;exact Zz _ a
 ·rw[e] at a
  unfold frs at a
  rw[List.filterMap_cons,c] at a
  exact a
theorem Inv.stkFree (I:Inv X pins σ H s):∀ b∈frs X.stack,H b=none:=fun b a=>by
 rcases Zr.mp (I.stkSub b a) with e | a
 ·rw[e];exact I.free
 ·obtain⟨_,o,c,_⟩:=I.ok.funs.mem a
  exact I.base.free b o c (I.ok.frf b a) fun z=>I.ok.exfs b z a
theorem Inv.step {g' : Array GenState}{t' : Nat}{d' : Drawn}{ch:List Addr}(I:Inv X pins σ H s)(hch:∀ b∈ch,(b∈X.ex∨X.s₀.heap.objs.size≤b)∧b≠X.env.locals∧(∀ x c,X.env.cells.lookup x=some c→c≠b)∧∀ p∈X.pn++pins,p.1≠b)(keep:∀ b o,b≠X.env.locals→b∉X.fs→b∉ch→s.heap.get? b=some o→H b=none→h'.get? b=some o)(slot:∀ b o,b≠X.env.locals→b∈X.fs→b∉ch→s.heap.get? b=some o→H b=none→∃ sl,h'.get? b=some { o with slots:=sl })(free:∀ b o,b∉ch→s.heap.get? b=some o→H b=none→H' b=none)(there:∀ b o,b∉ch→s.heap.get? b=some o→∃ o',h'.get? b=some o')(tups:∀ b xs,H b=some (.tup xs)→H' b=some (.tup xs))(frzs:∀ b o u,H b=some (.frz o u)→H' b=some (.frz o u))(tbls:∀ b ps,H b=some (.tbl ps)→∃ more,H' b=some (.tbl (ps++more)))(ns:∀ m,s.heap.Ns X.env.locals m→h'.Ns X.env.locals m)(hok:HOk X.prog X.w H' h')(hg:AllBare g') :
  Inv X pins σ H' { s with heap:=h',gens:=g',drawn:=d',toks:=t' }:=by
 have B:∀ b o,X.s₀.heap.get? b=some o→b≠X.env.locals:=fun b o e=>Z5 (Z7 (Zo e) I.ok.above)
 have j:∀ b o,X.s₀.heap.get? b=some o→b∉X.ex→b∉ch:=fun b o e a h=>by
  rcases (hch b h).1 with z | z
  ·exact a z
  ·exact absurd (Z7 (Zo e) z) (Za3 _)
 have t:∀ x c,X.env.cells.lookup x=some c→∀ v,s.heap.IsCell c v→h'.IsCell c v:=fun x c e v ⟨o,y,C⟩=>by
  have g:c∉ch:=fun z=>(hch c z).2.2.1 x c e rfl
  by_cases E:c∈X.fs
  ·obtain⟨sl,q⟩:=slot c o (I.cne x c e) E g y (I.freeC x c e)
   exact⟨_,q,C⟩
  ·exact⟨o,keep c o (I.cne x c e) E g y (I.freeC x c e),C⟩
 refine⟨I.ok,I.os,hg,⟨fun b o e n h a=>?_,fun b o e n h a=>?_,fun b o e n a=>?_,fun b o e a=>?_,fun b xs e=>tups b xs (I.base.tups b xs e),fun b o xs e=>frzs b o xs (I.base.frzs b o xs e),fun b ps e=>?_⟩,?_,fun x c e=>?_,?_,fun x c e=>?_,fun p G=>?_,hok,I.len⟩
 ·exact keep b o (B b o e) h (j b o e a) (I.base.keep b o e n h a) (I.base.free b o e n a)
 ·obtain⟨sl,f⟩:=I.base.slot b o e n h a
  obtain⟨D,A⟩:=slot b _ (B b o e) h (j b o e a) f (I.base.free b o e n a)
  exact⟨D,A⟩
 ·obtain⟨o',f⟩:=I.base.there b o e a
  exact free b o' (j b o e a) f (I.base.free b o e n a)
 ·obtain⟨o',f⟩:=I.base.there b o e a
  exact there b o' (j b o e a) f
 ·obtain⟨L,f⟩:=I.base.tbls b ps e
  obtain⟨M,A⟩:=tbls b _ f
  exact⟨L++M,by rw[A,Array.append_assoc]⟩
 ·obtain⟨m,K,N⟩:=I.loc
  refine⟨m,ns m K,fun i x v f A J=>?_⟩
  obtain⟨u,r,l⟩:=N i x v f A J
  refine⟨u,r,?_⟩
  rcases l with l | ⟨k,c,e,z⟩
  ·exact .inl l
  ·exact .inr ⟨k,c,e,t x c e _ z⟩
 ·obtain⟨v,z⟩:=I.cell x c e
  exact⟨v,t x c e v z⟩
 ·obtain⟨m,⟨o,_,_,y,_⟩,_⟩:=I.loc
  exact free _ o (fun z=>(hch _ z).2.1 rfl) y I.free
 ·obtain⟨v,o,y,C⟩:=I.cell x c e
  exact free c o (fun z=>(hch c z).2.2.1 x c e rfl) y (I.freeC x c e)
 ·obtain⟨e,n,ne,F,d⟩:=I.pin p G
  have g:p.1∉ch:=fun z=>(hch p.1 z).2.2.2 p G rfl
  exact⟨keep p.1 p.2 ne F g e n,free p.1 p.2 g e n,ne,F,d⟩
theorem Inv.un {t' : Nat}(I:Inv X pins σ H s)(u:Un X.fs [] H H' s.heap h')(hok:HOk X.prog X.w H' h'):Inv X pins σ H' { s with heap:=h',toks:=t' }:=by
 obtain⟨m,⟨o,p,l,f,r⟩,_⟩:=id I.loc
 obtain⟨q,h⟩:=u.any f I.free (by simp)
 exact I.step (g':=s.gens) (d':=s.drawn) (ch:=[]) (fun _ z=>nomatch z) (fun b o _ c _ e n=>u.keep b o e n c (by simp)) (fun b o _ c _ e n=>u.slot b o e n c (by simp)) (fun b o _ e n=>u.free b o e n (by simp)) (fun b o _ e=>u.there b o e (by simp)) u.tups u.frzs u.tbls (fun t j=>by
  obtain⟨k,g,d,a,i⟩:=j
  rw[f] at a;cases a
  exact⟨_,g,d,h,i⟩) hok I.bare
theorem Inv.call {g' : Array GenState}{t' : Nat}{d' : Drawn}{ch:List Addr}(I:Inv X pins σ H s)(u:Un (frs X.stack) ch H H' s.heap h')(hok:HOk X.prog X.w H' h')(hg:AllBare g')(hch:∀ b∈ch,(b∈X.ex∨X.s₀.heap.objs.size≤b)∧b≠X.env.locals∧(∀ x c,X.env.cells.lookup x=some c→c≠b)∧∀ p∈X.pn++pins,p.1≠b) :
  Inv X pins σ H' { s with heap:=h',gens:=g',drawn:=d',toks:=t' }:=by
 obtain⟨m,⟨o,v,t,h,r⟩,_⟩:=id I.loc
 obtain⟨y,f⟩:=u.any h I.free fun z=>(hch _ z).2.1 rfl
 exact I.step (ch:=ch) hch (fun b o f l a e n=>u.keep b o e n (fun z=>(Zr.mp (I.stkSub b z)).elim f l) a) (fun b o _ _ a e n=>u.any e n a) (fun b o a e n=>u.free b o e n a) (fun b o a e=>u.there b o e a) u.tups u.frzs u.tbls (fun A k=>by
  obtain⟨q,i,g,d,j⟩:=k
  rw[h] at d;cases d
  exact⟨_,i,g,f,j⟩) hok hg
theorem Inv.turned {t' : Nat}{it:Addr}(I:Inv X pins σ H s)(k:∀ b o,b≠it→s.heap.get? b=some o→h'.get? b=some o)(hn:H it=none)(hL:it≠X.env.locals)(h1:it∈X.ex∨X.s₀.heap.objs.size≤it)(h2:∀ x c,X.env.cells.lookup x=some c→c≠it)(h3:∀ p∈X.pn++pins,p.1≠it):Inv X pins σ H { s with heap:=h',toks:=t' }:=by
 have d:∀ b u,H b=some u→b≠it:=fun b u e z=>by rw[z,hn] at e;cases e
 refine I.step (g':=s.gens) (d':=s.drawn) (ch:=[it]) (fun b j=>?_) (fun b o _ _ a e _=>k b o (fun z=>a (by simp[z])) e) (fun b o _ _ a e _=>⟨o.slots,k b o (fun z=>a (by simp[z])) e⟩) (fun _ _ _ _ n=>n)
  (fun b o a e=>⟨o,k b o (fun z=>a (by simp[z])) e⟩) (fun _ _ e=>e) (fun _ _ _ e=>e) (fun b l e=>⟨#[],by rw[e];simp⟩) (fun m g=>?_) (fun b u e=>?_) I.bare
 ·have e:b=it:=by simpa using j
  subst e
  exact⟨h1,hL,h2,h3⟩
 ·obtain⟨o,i,h,f,r⟩:=g
  exact⟨o,i,h,k _ o (Zdi hL) f,r⟩
 ·refine (I.hok b u e).stay (fun c v a q=>k c v ?_ q) (fun _ q=>q) fun _ _ q=>q
  rcases a with z | z
  ·rw[z];exact d b u e
  ·exact d c _ z
theorem Inv.tok (I:Inv X pins σ H s)(t:Nat):Inv X pins σ H { s with toks:=t }:=I.un (h':=s.heap) (t':=t) Un.refl I.hok
theorem Inv.kept {t' : Nat}(I:Inv X pins σ H s)(k:∀ b u,s.heap.get? b=some u→h'.get? b=some u):Inv X pins σ H { s with heap:=h',toks:=t' }:=I.un (Un.kept k) (I.hok.kept k)
theorem Inv.laid {t' : Nat}(I:Inv X pins σ H s)(k:∀ b u,s.heap.get? b=some u→h'.get? b=some u)(hp:s.heap.objs.size≤a)(new:Cb X.prog X.w (upd H a o) h' a o) :
  Inv X pins σ (upd H a o) { s with heap:=h',toks:=t' }:=I.un (Un.laid k hp (I.hok.fresh hp)) (I.hok.laid k hp new)
theorem Inv.write {t' : Nat}(I:Inv X pins σ H s)(mu:Mut (H x))(he:e=x∨H e=some (.own x))(k:∀ b u,b≠e→s.heap.get? b=some u→h'.get? b=some u)(heo:∃ u,h'.get? e=some u)(new:Cb X.prog X.w (upd H x o) h' x o):Inv X pins σ (upd H x o) { s with heap:=h',toks:=t' }:=I.un (Un.write mu he k heo) (I.hok.write mu he k heo new)
theorem Inv.pins_of (I:Inv X pins σ H s)(h:∀ p∈pins',s.heap.get? p.1=some p.2∧H p.1=none∧p.1≠X.env.locals∧p.1∉X.fs∧∀ v,p.2.data ≠ .cell v):Inv X pins' σ H s :=
 ⟨I.ok,I.os,I.bare,I.base,I.loc,I.cell,I.free,I.freeC,fun p a=>(Zaa.mp a).elim (fun z=>I.pin p (Zb3 _ z)) (h p),I.hok,I.len⟩
theorem nodup_ix {N:List Str}(hN:N.Nodup){i j:Nat}{x:Str}(a:N[i]?=some x)(b:N[j]?=some x):i=j:=by
 obtain⟨e,d⟩:=Zj.mp a
 obtain⟨f,c⟩:=Zj.mp b
 exact (List.getElem_inj hN).mp (d.trans c.symm)
theorem store_ok2 {E:Value→Shared→Prop}{i:Nat}{x:Str}{Q:Unit→Shared→Prop}(I:Inv X pins σ H s)(hN:X.N.Nodup)(hi:X.N[i]?=some x)(hx:Loc X.env.scope x)(r:Bl v u)(h:∀ s',Inv X pins (σ.set i (some v)) H s'→(∃ a,Heap.SameBut a s.heap s'.heap∧(a=X.env.locals∨X.env.cells.lookup x=some a))→Q () s')(hf:X.fn x=true∨X.env.scope.names.lookup x=some .local:=by first | exact .inl rfl | exact .inr rfl | assumption):wpAny M A (storeName X.env x u) Q E s:=by
 obtain⟨m,hn,hl⟩:=id I.loc
 have aa:(X.env.scope.kind == .class || (X.env.scope.kind == .module && X.env.locals != X.env.globals))=false:=by rw[I.ok.kind];rfl
 have S:i<σ.length:=by rw[I.len];exact (Zj.mp hi).1
 have cne:=I.cne
 have t:∀ {a:Addr} {J : Heap},(∃ o,s.heap.get? a=some o∧H a=none)→Heap.SameBut a s.heap J→HOk X.prog X.w H J:=fun {a J} ha f b ob e=>by
  obtain⟨_,_,G⟩:=ha
  refine (I.hok b ob e).stay (fun c O l q=>(f.2 c ?_).trans q) (fun _ q=>q) fun _ _ q=>q
  rintro rfl
  rcases l with rfl | l
  ·rw[G] at e;cases e
  ·rw[G] at l;cases l
 rcases hx with C | C
 ·refine wpAny_storeName_local C hn (fun J ab f=>?_) aa
  obtain⟨oL,_,_,ac,_⟩:=id hn
  refine h _ ⟨I.ok,I.os,I.bare,⟨fun b o e n F hx=>?_,fun b o e n F hx=>?_,I.base.free,fun b o e hx=>?_,I.base.tups,I.base.frzs,I.base.tbls⟩,⟨_,ab,fun j y V g B e3=>?_⟩,fun y c e=>?_,I.free,I.freeC,fun p hp=>?_,t ⟨oL,ac,I.free⟩ f,by simpa using I.len⟩ ⟨_,f,.inl rfl⟩
  ·exact (f.2 b (Z5 (Z7 (Zo e) I.ok.above))).trans (I.base.keep b o e n F hx)
  ·obtain⟨sl,g⟩:=I.base.slot b o e n F hx
   exact⟨sl,(f.2 b (Z5 (Z7 (Zo e) I.ok.above))).trans g⟩
  ·obtain⟨U,g⟩:=I.base.there b o e hx
   exact⟨U,(f.2 b (Z5 (Z7 (Zo e) I.ok.above))).trans g⟩
  ·by_cases D:j=i
   ·subst D
    rw[hi] at g;cases g
    rw[List.getElem?_set_self S] at B
    cases B
    exact⟨u,r,.inl ⟨C,by simp⟩⟩
   ·rw[List.getElem?_set_ne (Zdi D)] at B
    obtain⟨Z,Y,q⟩:=hl j y V g B e3
    refine⟨Z,Y,?_⟩
    rcases q with ⟨k,e⟩ | ⟨k,c,e,z⟩
    ·refine .inl ⟨k,?_⟩
     have:y≠x:=fun e=>D (nodup_ix hN g (e ▸ hi))
     simp[this,e]
    ·exact .inr ⟨k,c,e,z.sameBut f (cne y c e)⟩
  ·obtain⟨O,z⟩:=I.cell y c e
   exact⟨O,z.sameBut f (cne y c e)⟩
  ·obtain⟨e,n,ne,nf,d⟩:=I.pin p hp
   exact⟨(f.2 p.1 ne).trans e,n,ne,nf,d⟩
 ·have K:X.fn x=true:=by
   rcases hf with z | z
   ·exact z
   ·rw[z] at C;cases C
  obtain⟨c,l⟩:=I.ok.has x (.inl C)
  obtain⟨O,z⟩:=I.cell x c l
  refine wpAny_storeName_cell I.ok.kind C l z (fun J R f=>?_)
  obtain⟨oc,P,W⟩:=id z
  refine h { s with heap:=J } ⟨I.ok,I.os,I.bare,⟨fun b o e n F hx=>?_,fun b o e n F hx=>?_,I.base.free,fun b o e hx=>?_,I.base.tups,I.base.frzs,I.base.tbls⟩,⟨m,hn.sameBut f (Zdi (cne x c l)),fun j y V g B e3=>?_⟩,fun y L e=>?_,I.free,I.freeC,fun p hp=>?_,t ⟨oc,P,I.freeC x c l⟩ f,by simpa using I.len⟩ ⟨c,f,.inr l⟩
  ·exact (f.2 b (Z5 (Z7 (Zo e) (I.ok.cab x c K l)))).trans (I.base.keep b o e n F hx)
  ·obtain⟨sl,g⟩:=I.base.slot b o e n F hx
   exact⟨sl,(f.2 b (Z5 (Z7 (Zo e) (I.ok.cab x c K l)))).trans g⟩
  ·obtain⟨U,g⟩:=I.base.there b o e hx
   exact⟨U,(f.2 b (Z5 (Z7 (Zo e) (I.ok.cab x c K l)))).trans g⟩
  ·by_cases D:j=i
   ·subst D
    rw[hi] at g;cases g
    rw[List.getElem?_set_self S] at B
    cases B
    exact⟨u,r,.inr ⟨.inl C,c,l,R⟩⟩
   ·rw[List.getElem?_set_ne (Zdi D)] at B
    obtain⟨Z,Y,q⟩:=hl j y V g B e3
    refine⟨Z,Y,?_⟩
    rcases q with q | ⟨k,L,e,z'⟩
    ·exact .inl q
    ·refine .inr ⟨k,L,e,z'.sameBut f ?_⟩
     rintro rfl
     exact D (nodup_ix hN g (I.ok.inj _ _ _ e l ▸ hi))
  ·by_cases T:L=c
   ·subst T;exact⟨_,R⟩
   ·obtain⟨w2,z2⟩:=I.cell y L e
    exact⟨w2,z2.sameBut f T⟩
  ·obtain⟨e,n,ne,nf,d⟩:=I.pin p hp
   refine⟨(f.2 p.1 ?_).trans e,n,ne,nf,d⟩
   intro q
   rw[q,P] at e
   have q' : oc=p.2:=Zm e
   exact d O (by rw[← q'];exact W)
theorem Iz {E:Value→Shared→Prop}{i:Nat}{x:Str}{Q:Unit→Shared→Prop}(I:Inv X pins σ H s)(hN:X.N.Nodup)(hi:X.N[i]?=some x)(hx:Loc X.env.scope x)(r:Bl v u)(h:∀ s',Inv X pins (σ.set i (some v)) H s'→Q () s')(hf:X.fn x=true∨X.env.scope.names.lookup x=some .local:=by first | exact .inl rfl | exact .inr rfl | assumption):wpAny M A (storeName X.env x u) Q E s :=
 store_ok2 I hN hi hx r (fun s' a _=>h s' a) hf
theorem Inv.call' {s' : Shared}(I:Inv X pins σ H s)(ho:s'.os=s.os)(u:Un (frs X.stack) ch H H' s.heap s'.heap)(hok:HOk X.prog X.w H' s'.heap)(hg:AllBare s'.gens)(hch:∀ b∈ch,(b∈X.ex∨X.s₀.heap.objs.size≤b)∧b≠X.env.locals∧(∀ x c,X.env.cells.lookup x=some c→c≠b)∧∀ p∈X.pn++pins,p.1≠b):Inv X pins σ H' s':=by
 obtain⟨d,g',d',t',a⟩:=s'
 have e:a=s.os:=ho
 subst e
 exact I.call (g':=g') (t':=t') (d':=d') u hok hg hch
end
abbrev XK:=Value→Option Addr→Hp→Prop
abbrev St:=List (Option V)
abbrev VK:=V→Hp→Prop
abbrev TE:=St→Hp→VK→Prop
abbrev TT:=St→Hp→(Bool→Hp→Prop)→Prop
abbrev TA:=St→Hp→(List V→Hp→Prop)→Prop
structure Ends where
 nx:St→Hp→Prop
 rt:VK
 bk:St→Hp→Prop:=fun _ _=>False
 ct:St→Hp→Prop:=fun _ _=>False
abbrev TS:=Ends→St→Hp→Prop
inductive EP (X:Cx) (pins:List (Addr×Obj)) (σ:St) (Q:VK) (u:Value) (s' : Shared):Prop
 | mk (v H' : _) (_:Inv X pins σ H' s') (_:Bl v u) (_:Q v H')
inductive TP (X:Cx) (pins:List (Addr×Obj)) (σ:St) (Q:Bool→Hp→Prop) (b:Bool) (s' : Shared):Prop
 | mk (H' : _) (_:Inv X pins σ H' s') (_:Q b H')
inductive AP (X:Cx) (pins:List (Addr×Obj)) (σ:St) (Q:List V→Hp→Prop) (us:List Value) (s' : Shared):Prop
 | mk (vs H' : _) (_:Inv X pins σ H' s') (_:Bi vs us) (_:Q vs H')
def SP (X:Cx)(pins:List (Addr×Obj))(D:Ends)(f:Flow)(s' : Shared):Prop :=
 match f with
 | .next=>∃ σ' H',Inv X pins σ' H' s'∧D.nx σ' H'
 | .brk=>∃ σ' H',Inv X pins σ' H' s'∧D.bk σ' H'
 | .cont=>∃ σ' H',Inv X pins σ' H' s'∧D.ct σ' H'
 | .ret u=>∃ v σ' H',Inv X pins σ' H' s'∧Bl v u∧D.rt v H'
structure PE (X:Cx) (e:Expr) (t:TE):Prop where
 run:∀ (pins:List (Addr×Obj)) (s:Shared) (σ:St) (H:Hp) (Q:VK),Inv X pins σ H s→t σ H Q→wpAny (model X.prog X.w) X.A (eval e X.env) (EP X pins σ Q) X.xe s
instance {X:Cx} {e:Expr} {t:TE}:CoeFun (PE X e t) fun _=>∀ (pins:List (Addr×Obj)) (s:Shared) (σ:St) (H:Hp) (Q:VK),Inv X pins σ H s→t σ H Q→wpAny (model X.prog X.w) X.A (eval e X.env) (EP X pins σ Q) X.xe s:=⟨PE.run⟩
structure PT (X:Cx) (e:Expr) (t:TT):Prop where
 run:∀ (pins:List (Addr×Obj)) (s:Shared) (σ:St) (H:Hp) (Q:Bool→Hp→Prop),Inv X pins σ H s→t σ H Q→wpAny (model X.prog X.w) X.A (isTrue e X.env (eval e X.env)) (TP X pins σ Q) X.xe s
instance {X:Cx} {e:Expr} {t:TT}:CoeFun (PT X e t) fun _=>∀ (pins:List (Addr×Obj)) (s:Shared) (σ:St) (H:Hp) (Q:Bool→Hp→Prop),Inv X pins σ H s→t σ H Q→wpAny (model X.prog X.w) X.A (isTrue e X.env (eval e X.env)) (TP X pins σ Q) X.xe s:=⟨PT.run⟩
structure PW (X:Cx) (e:Expr) (t:TT):Prop where
 run:∀ (whole:Sem Value) (pins:List (Addr×Obj)) (s:Shared) (σ:St) (H:Hp) (Q:Bool→Hp→Prop),Inv X pins σ H s→t σ H Q→wpAny (model X.prog X.w) X.A (isTrue e X.env whole) (TP X pins σ Q) X.xe s
instance {X:Cx} {e:Expr} {t:TT}:CoeFun (PW X e t) fun _=>∀ (whole:Sem Value) (pins:List (Addr×Obj)) (s:Shared) (σ:St) (H:Hp) (Q:Bool→Hp→Prop),Inv X pins σ H s→t σ H Q→wpAny (model X.prog X.w) X.A (isTrue e X.env whole) (TP X pins σ Q) X.xe s:=⟨PW.run⟩
theorem PW.pt {t:TT}(h:PW X e t):PT X e t:=⟨h _⟩
structure PA (X:Cx) (es:List Expr) (t:TA):Prop where
 run:∀ (pos:Pos) (pins:List (Addr×Obj)) (s:Shared) (σ:St) (H:Hp) (Q:List V→Hp→Prop),Inv X pins σ H s→t σ H Q→wpAny (model X.prog X.w) X.A (spliced (backTo pos (starEach es X.env))) (AP X pins σ Q) X.xe s
instance {X:Cx} {es:List Expr} {t:TA}:CoeFun (PA X es t) fun _=>∀ (pos:Pos) (pins:List (Addr×Obj)) (s:Shared) (σ:St) (H:Hp) (Q:List V→Hp→Prop),Inv X pins σ H s→t σ H Q→wpAny (model X.prog X.w) X.A (spliced (backTo pos (starEach es X.env))) (AP X pins σ Q) X.xe s:=⟨PA.run⟩
structure PS (X:Cx) (st:Stmt) (t:TS):Prop where
 run:∀ (pins:List (Addr×Obj)) (s:Shared) (σ:St) (H:Hp) (D:Ends),Inv X pins σ H s→t D σ H→wpAny (model X.prog X.w) X.A (exec st X.env) (SP X pins D) X.xe s
instance {X:Cx} {st:Stmt} {t:TS}:CoeFun (PS X st t) fun _=>∀ (pins:List (Addr×Obj)) (s:Shared) (σ:St) (H:Hp) (D:Ends),Inv X pins σ H s→t D σ H→wpAny (model X.prog X.w) X.A (exec st X.env) (SP X pins D) X.xe s:=⟨PS.run⟩
structure PSs (X:Cx) (st:List Stmt) (t:TS):Prop where
 run:∀ (pins:List (Addr×Obj)) (s:Shared) (σ:St) (H:Hp) (D:Ends),Inv X pins σ H s→t D σ H→wpAny (model X.prog X.w) X.A (execs st X.env) (SP X pins D) X.xe s
instance {X:Cx} {st:List Stmt} {t:TS}:CoeFun (PSs X st t) fun _=>∀ (pins:List (Addr×Obj)) (s:Shared) (σ:St) (H:Hp) (D:Ends),Inv X pins σ H s→t D σ H→wpAny (model X.prog X.w) X.A (execs st X.env) (SP X pins D) X.xe s:=⟨PSs.run⟩
theorem thn {α:Type}{t:Sem α}{Q Q' : α→Shared→Prop}{E:Value→Shared→Prop}(h:wpAny M A t Q E s)(hQ:∀ a s,Q a s→Q' a s):wpAny M A t Q' E s:=Zbt h hQ fun _ _ x=>x
end
end L2
namespace L2
noncomputable section
open PySem PySem.Spec PyProof.Rows
section
variable {X:Cx}
inductive tVar (i:Nat) (σ:L2.St) (H:Hp) (Q:VK):Prop
 | mk (v:_) (_:σ[i]?=some (some v)) (_:Q v H)
def tC (v:V):TE:=fun _ H Q=>Q v H
theorem pe_var {i:Nat}{x:Str}(hN:X.N[i]?=some x)(hv:Vis X.env.scope x)(hd:(x == ("__debug__" : Str))=false:=by decide)(hcd:(x == ("__classdict__" : Str))=false:=by decide):PE X (.Name x pos) (tVar i):=by
 refine⟨?_⟩
 intro d s σ H Q I h
 obtain⟨v,e,h⟩:=h
 obtain⟨m,j,k⟩:=I.loc
 obtain⟨u,r,l⟩:=k i x v hN e hv
 have fin:EP X d σ Q u s:=⟨v,H,I,r,h⟩
 rcases l with ⟨a,g⟩ | ⟨a,c,f,b⟩
 ·exact wpAny_Name (wpAny_loadName_local I.ok.kind a j g fin) hd
 ·rcases a with a | a
  ·exact wpAny_Name (wpAny_loadName_cell I.ok.kind a f b fin) hd
  ·exact wpAny_Name (wpAny_loadName_free I.ok.kind a f b fin hcd) hd
theorem Ad {i j pos}:PE X (.Constant (.int i) j pos) (tC (.int i)):=⟨fun _ _ _ H _ I h=>wpAny_Constant_int ⟨.int i,H,I.tok _,⟨_,rfl⟩,h⟩⟩
theorem J2 {b j pos}:PE X (.Constant (.bool b) j pos) (tC (.bl b)):=⟨fun _ _ _ H _ I h=>Constant_bool ⟨.bl b,H,I,rfl,h⟩⟩
theorem Ed {j pos}:PE X (.Constant .none j pos) (tC .non):=⟨fun _ _ _ H _ I h=>Constant_none ⟨.non,H,I,rfl,h⟩⟩
theorem Aw {x j pos}:PE X (.Constant (.str x) j pos) (tC (.str x)):=⟨fun _ _ _ H _ I h=>Calls.Constant_str ⟨.str x,H,I.tok _,⟨_,rfl⟩,h⟩⟩
def Gl (X:Cx)(x:Str):Prop:=X.env.kindOf x=some .globalImplicit
theorem Jg {E:Value→Shared→Prop}{H:Hp}{x:Str}{Q:Value→Shared→Prop}(I:Inv X pins σ H s)(hg:Gl X x)(hm:X.mg x=some u)(h:Q u s)(hd:(x == ("__debug__" : Str))=false:=by decide):wpAny (model X.prog X.w) X.A (eval (.Name x pos) X.env) Q E s :=
 Calls.Name_function_global I.ok.kind hg (Calls.loadGlobal_global (by rw[I.ok.glob];exact I.mod.glob.keeps I.bk) hm h) hd
theorem Dj {E:Value→Shared→Prop}{H:Hp}{x:Str}{Q:Value→Shared→Prop}(I:Inv X pins σ H s)(hg:Gl X x)(hm:X.mg x=none)(hv:bootBuiltins x=some u)(h:Q u s)(hn:x ≠ "__name__" := by decide)(hd:(x == ("__debug__" : Str))=false:=by decide):wpAny (model X.prog X.w) X.A (eval (.Name x pos) X.env) Q E s:=by
 obtain⟨c,a,b⟩:=I.mod.blt
 exact Calls.Name_function_global I.ok.kind hg (Calls.loadGlobal_builtin (by rw[I.ok.glob];exact I.mod.glob.keeps I.bk) hm (by rw[I.ok.blt];exact a.keeps I.bk) ((b x hn).trans hv) h) hd
theorem Ch {x:Str}(hg:Gl X x)(hm:X.mg x=some u)(r:Bl v u)(hd:(x == ("__debug__" : Str))=false:=by decide):PE X (.Name x pos) (tC v) :=
 ⟨fun _ _ _ H _ I h=>Jg I hg hm ⟨v,H,I,r,h⟩ hd⟩
theorem Fe {x:Str}(hg:Gl X x)(hm:X.mg x=none)(hv:bootBuiltins x=some u)(r:Bl v u)(hn:x ≠ "__name__" := by decide)(hd:(x == ("__debug__" : Str))=false:=by decide):PE X (.Name x pos) (tC v) :=
 ⟨fun _ _ _ H _ I h=>Dj I hg hm hv ⟨v,H,I,r,h⟩ hn hd⟩
variable {a b:Expr} {ta tb:TE} {pos:Pos}
def PC (X:Cx)(op:CmpOp)(a b:Expr)(t:TE):Prop :=
 ∀ (pins:List (Addr×Obj)) (s:Shared) (σ:St) (H:Hp) (Q:VK),Inv X pins σ H s→t σ H Q →
  wpAny (model X.prog X.w) X.A (eval a X.env) (fun v s₁=>wpAny (model X.prog X.w) X.A (eval b X.env) (fun u s₂=>wpAny (model X.prog X.w) X.A (compareOp op v u) (EP X pins σ Q) X.xe s₂) X.xe s₁) X.xe s
inductive tB_ (Q:Bool→Hp→Prop) (x:V) (H1:Hp):Prop
 | mk (c:_) (_:x = .bl c) (_:Q c H1)
def tB (t:TE):TT:=fun σ H Q=>t σ H fun x H1=>tB_ Q x H1
theorem pt_cmp {t:TE}(h:PC X op a b t)(h1:behindInMarks op b=false:=by first | exact nobehind _ (by decide) (by decide) | rfl):PT X (.Compare a [op] [b] pos) (tB t):=by
 refine⟨?_⟩
 intro e s σ H Q I l
 refine wpAny_isTrue_Compare1 (thn (h e s σ H _ I l) fun v o h1=>thn h1 fun u p g=>thn g fun c n f=>?_) h1
 obtain⟨x,k,j,m,i⟩:=f
 obtain⟨d,rfl,q⟩:=i
 cases m
 exact Zbb ⟨k,j,q⟩
theorem Fx {e:Expr}{t:TE}(h:PE X e t)(he:∀ whole,isTrue e X.env whole=(do let v ← whole;standAt e.pos;holding [v] (truthy v)):=by intro _;rfl):PT X e (tB t):=by
 refine⟨?_⟩
 intro a s σ H Q I f
 refine isTrue_plain (thn (h a s σ H _ I f) fun v k b=>?_) (he _)
 obtain⟨x,j,g,c,i⟩:=b
 obtain⟨d,rfl,q⟩:=i
 cases c
 exact Zbb ⟨j,g,q⟩
variable {tA tB' : TT} {rest:List Expr}
def tAnd (t u:TT):TT:=fun σ H Q=>t σ H fun c H1=>if c=true then u σ H1 Q else Q false H1
def tOr (t u:TT):TT:=fun σ H Q=>t σ H fun c H1=>if c=true then Q true H1 else u σ H1 Q
def tNot (t:TT):TT:=fun σ H Q=>t σ H fun c H1=>Q (!c) H1
theorem Dg (ha:PT X a tA):PW X (.BoolOp .And [a] pos) tA:=by
 refine⟨?_⟩
 intro f b s σ H Q I h
 refine isTrue_and (thn (ha b s σ H Q I h) fun c d e=>?_)
 cases c with
 | true=>exact isTrue_and_nil e
 | false=>exact e
theorem Il (ha:PT X a tA):PW X (.BoolOp .Or [a] pos) tA:=by
 refine⟨?_⟩
 intro f b s σ H Q I h
 refine isTrue_or (thn (ha b s σ H Q I h) fun c d e=>?_)
 cases c with
 | false=>exact isTrue_or_nil e
 | true=>exact e
theorem Ds (ha:PT X a tA)(hb:PW X (.BoolOp .And (b::rest) pos) tB'):PW X (.BoolOp .And (a::b::rest) pos) (tAnd tA tB'):=by
 refine⟨?_⟩
 intro j d s σ H Q I h
 refine isTrue_and (thn (ha d s σ H _ I h) fun c i ⟨g,e,f⟩=>?_)
 cases c with
 | true=>exact hb j d i σ g Q e f
 | false=>exact⟨g,e,f⟩
theorem Jf (ha:PT X a tA)(hb:PW X (.BoolOp .Or (b::rest) pos) tB'):PW X (.BoolOp .Or (a::b::rest) pos) (tOr tA tB'):=by
 refine⟨?_⟩
 intro j d s σ H Q I h
 refine isTrue_or (thn (ha d s σ H _ I h) fun c i ⟨g,e,f⟩=>?_)
 cases c with
 | true=>exact⟨g,e,f⟩
 | false=>exact hb j d i σ g Q e f
theorem Er (ha:PT X a tA):PT X (.UnaryOp .Not a pos) (tNot tA):=by
 refine⟨?_⟩
 intro b s σ H Q I h
 exact isTrue_not (thn (ha b s σ H (fun c d=>Q (!c) d) I h) fun c f ⟨d,e,q⟩=>⟨d,e,q⟩)
inductive tAndV_ (tb:TE) (σ:L2.St) (Q:VK) (x:V) (H1:Hp):Prop
 | mk (c:_) (_:x = .bl c) (_:if c=true then tb σ H1 Q else Q (.bl false) H1)
def tAndV (ta tb:TE):TE:=fun σ H Q=>ta σ H fun x H1=>tAndV_ tb σ Q x H1
inductive tOrV_ (tb:TE) (σ:L2.St) (Q:VK) (x:V) (H1:Hp):Prop
 | mk (c:_) (_:x = .bl c) (_:if c=true then Q (.bl true) H1 else tb σ H1 Q)
def tOrV (ta tb:TE):TE:=fun σ H Q=>ta σ H fun x H1=>tOrV_ tb σ Q x H1
inductive tNotV_ (Q:VK) (x:V) (H1:Hp):Prop
 | mk (c:_) (_:x = .bl c) (_:Q (.bl (!c)) H1)
def tNotV (ta:TE):TE:=fun σ H Q=>ta σ H fun x H1=>tNotV_ Q x H1
theorem Ih {op}{t:TE}(h:PE X a t):PE X (.BoolOp op [a] pos) t:=⟨fun b s σ H Q I c=>BoolOp_one (h b s σ H Q I c)⟩
theorem pe_and (ha:PE X a ta)(hb:PE X (.BoolOp .And (b::rest) pos) tb):PE X (.BoolOp .And (a::b::rest) pos) (tAndV ta tb):=by
 refine⟨?_⟩
 intro d s σ H Q I h
 refine BoolOp_and (thn (ha d s σ H _ I h) fun v j f=>?_)
 obtain⟨x,i,g,k,e⟩:=f
 obtain⟨c,rfl,e⟩:=e
 cases k
 refine Zbb ?_
 cases c with
 | true=>exact hb d j σ i Q g e
 | false=>exact⟨.bl false,i,g,rfl,e⟩
theorem pe_or (ha:PE X a ta)(hb:PE X (.BoolOp .Or (b::rest) pos) tb):PE X (.BoolOp .Or (a::b::rest) pos) (tOrV ta tb):=by
 refine⟨?_⟩
 intro d s σ H Q I h
 refine BoolOp_or (thn (ha d s σ H _ I h) fun v j f=>?_)
 obtain⟨x,i,g,k,e⟩:=f
 obtain⟨c,rfl,e⟩:=e
 cases k
 refine Zbb ?_
 cases c with
 | false=>exact hb d j σ i Q g e
 | true=>exact⟨.bl true,i,g,rfl,e⟩
theorem pe_not (ha:PE X a ta):PE X (.UnaryOp .Not a pos) (tNotV ta):=by
 refine⟨?_⟩
 intro b s σ H Q I h
 refine UnaryOp_ (thn (ha b s σ H _ I h) fun v j d=>?_)
 obtain⟨x,i,g,f,e⟩:=d
 obtain⟨c,rfl,e⟩:=e
 cases f
 exact not_of (Zbb ⟨.bl (!c),i,g,rfl,e⟩)
def tIf (t:TT)(ta tb:TE):TE:=fun σ H Q=>t σ H fun c H1=>if c=true then ta σ H1 Q else tb σ H1 Q
theorem Cp (hc:PT X c tA)(ha:PE X a ta)(hb:PE X b tb):PE X (.IfExp c a b pos) (tIf tA ta tb):=by
 refine⟨?_⟩
 intro e s σ H Q I h
 refine wpAny_IfExp (thn (hc e s σ H _ I h) fun d f ⟨g,j,i⟩=>?_)
 cases d with
 | true=>exact ha e f σ g Q j i
 | false=>exact hb e f σ g Q j i
end
end
end L2
namespace L2
noncomputable section
open PySem PySem.Spec PyProof.Rows
def SqL (K:PySem.W.Frag)(H:Hp)(a:Addr)(xs:List V):Prop :=
 Rd H a (.lst xs) ∨
  ∃ (o:Obj) (its:Array Value) (n:Nat),K.lookup a=some o∧o.cls = .type "list" ∧ o.dict=none∧o.data = .seq its n∧its.size≤sizeLine∧Bi xs its.toList
def SqT (K:PySem.W.Frag)(H:Hp)(a:Addr)(xs:List V):Prop :=
 Rd H a (.tup xs) ∨
  ∃ (o:Obj) (its:Array Value) (n:Nat),K.lookup a=some o∧o.cls = .type "tuple" ∧ o.data = .seq its n∧its.size≤sizeLine∧Bi xs its.toList
def absV:Value→Option V
 | .none=>some .non
 | .bool b=>some (.bl b)
 | .int i _=>some (.int i)
 | .str x _=>some (.str x)
 | .bytes b _=>some (.byt b)
 | .float b _=>some (.flt b)
 | .ref a=>some (.ref a)
 | .type n=>some (.ty n)
 | _=>none
theorem Bl.abs (r:Bl x u):absV u=some x:=by
 cases x with
 | non=>cases r;rfl
 | bl _=>cases r;rfl
 | int _=>obtain⟨t,rfl⟩:=r;rfl
 | str _=>obtain⟨t,rfl⟩:=r;rfl
 | byt _=>obtain⟨t,rfl⟩:=r;rfl
 | flt _=>obtain⟨t,rfl⟩:=r;rfl
 | ref _=>cases r;rfl
 | ty _=>cases r;rfl
theorem Bl.inj (r:Bl x u)(q:Bl y u):x=y:=Zm (r.abs.symm.trans q.abs)
theorem Bi.inj:∀ {xs ys:List V} {us:List Value},Bi xs us→Bi ys us→xs=ys
 | _,_,_,.nil,.nil=>rfl
 | _,_,_,.cons r t,.cons r' t'=>by rw[r.inj r',Bi.inj t t']
section
variable {X:Cx} {pins:List (Addr×Obj)} {σ:St} {H:Hp} {s:Shared} {a:Addr} {xs ys:List V}
theorem SqL.of {K:PySem.W.Frag}(h:H a=some (.lst xs)):SqL K H a xs:=.inl (.inl h)
theorem SqT.of {K:PySem.W.Frag}(h:H a=some (.tup xs)):SqT K H a xs:=.inl (.inl h)
theorem Inv.list (I:Inv X pins σ H s)(h:SqL X.K H a xs):∃ its:List Value,Bi xs its∧PlainL s.heap a its.toArray∧xs.length≤sizeLine:=by
 rcases h with h | ⟨o,its,n,b,c,f,d,g,r⟩
 ·obtain⟨z,its,n,r,e⟩:=h.ok I.hok
  exact⟨its,r,⟨_,n,e,rfl,rfl,rfl⟩,z⟩
 ·refine⟨its.toList,r,⟨o,n,I.kIn a o b,c,f,by simpa using d⟩,?_⟩
  have e:=r.length
  simp only[Zad] at e
  lia
theorem Inv.tuple (I:Inv X pins σ H s)(h:SqT X.K H a xs):∃ its:List Value,Bi xs its∧IsTup s.heap a its.toArray∧xs.length≤sizeLine:=by
 rcases h with h | ⟨o,its,n,b,c,d,f,r⟩
 ·obtain⟨z,its,r,p⟩:=h.ok I.hok
  exact⟨its,r,p,z⟩
 ·refine⟨its.toList,r,⟨o,I.kIn a o b,c,n,by simpa using d⟩,?_⟩
  have e:=r.length
  simp only[Zad] at e
  lia
theorem Inv.list_inj (I:Inv X pins σ H s)(h:SqL X.K H a xs)(h' : SqL X.K H a ys):xs=ys:=by
 obtain⟨g,r,⟨o,n,e,_,_,d⟩,_⟩:=I.list h
 obtain⟨b,i,⟨j,k,c,_,_,f⟩,_⟩:=I.list h'
 rw[e] at c;cases c
 rw[d] at f
 injection f with d1 _
 have:g=b:=by simpa using congrArg Array.toList d1
 subst this
 exact r.inj i
theorem Inv.tuple_inj (I:Inv X pins σ H s)(h:SqT X.K H a xs)(h' : SqT X.K H a ys):xs=ys:=by
 obtain⟨g,r,⟨o,e,_,n,d⟩,_⟩:=I.tuple h
 obtain⟨b,i,⟨j,c,_,k,f⟩,_⟩:=I.tuple h'
 rw[e] at c;cases c
 rw[d] at f
 injection f with d1 _
 have:g=b:=by simpa using congrArg Array.toList d1
 subst this
 exact r.inj i
end
abbrev Cx.wish (X:Cx) (E:Value→Shared→Prop):Cx:={ X with xe:=E }
abbrev Cx.nox (X:Cx):Cx:=X.wish fun _ _=>False
theorem Cx.Ok.wish {X:Cx}(ok:X.Ok)(E:Value→Shared→Prop):(X.wish E).Ok :=
 ⟨ok.mod,ok.kind,ok.glob,ok.blt,ok.above,ok.inj,ok.has,ok.cab,ok.hd,ok.frames,ok.stk,ok.exf,ok.bs,ok.bsz,ok.noex,ok.exfs,ok.funs,ok.frf⟩
theorem Cx.Ok.unwish {X:Cx}{E:Value→Shared→Prop}(ok:(X.wish E).Ok):X.Ok :=
 ⟨ok.mod,ok.kind,ok.glob,ok.blt,ok.above,ok.inj,ok.has,ok.cab,ok.hd,ok.frames,ok.stk,ok.exf,ok.bs,ok.bsz,ok.noex,ok.exfs,ok.funs,ok.frf⟩
section
variable {X:Cx} {pins:List (Addr×Obj)} {σ:St} {H:Hp} {s:Shared} {E:Value→Shared→Prop}
theorem Inv.wish (I:Inv X pins σ H s)(E:Value→Shared→Prop):Inv (X.wish E) pins σ H s:=⟨I.ok.wish E,I.os,I.bare,I.base,I.loc,I.cell,I.free,I.freeC,I.pin,I.hok,I.len⟩
theorem Inv.unwish (I:Inv (X.wish E) pins σ H s):Inv X pins σ H s:=⟨I.ok.unwish,I.os,I.bare,I.base,I.loc,I.cell,I.free,I.freeC,I.pin,I.hok,I.len⟩
theorem SP.unwish (h:SP (X.wish E) pins D f s'):SP X pins D f s':=by
 cases f with
 | next=>obtain⟨b,a,I,q⟩:=h;exact⟨b,a,I.unwish,q⟩
 | brk=>obtain⟨b,a,I,q⟩:=h;exact⟨b,a,I.unwish,q⟩
 | cont=>obtain⟨b,a,I,q⟩:=h;exact⟨b,a,I.unwish,q⟩
 | ret u=>obtain⟨v,b,a,I,r,q⟩:=h;exact⟨v,b,a,I.unwish,r,q⟩
theorem PSs.nox {st:List Stmt}{t:TS}(h:PSs X.nox st t):PSs X st t:=⟨fun a s σ H D I b =>
 Zbt (h a s σ H D (I.wish _) b) (fun _ _ q=>q.unwish) fun _ _ z=>False.elim z⟩
end
section
variable {X:Cx} {st:Stmt} {rest:List Stmt} {t u:TS} {e:Expr} {te:TE} {pos:Pos}
def tNext:TS:=fun D σ H=>D.nx σ H
def Fk (t u:TS):TS:=fun D σ H=>t { D with nx:=u D } σ H
theorem Av:PSs X [] tNext:=⟨fun _ _ σ H _ I h=>wpAny_execs_nil ⟨σ,H,I,h⟩⟩
theorem Ab (h1:PS X st t)(h2:PSs X rest u):PSs X (st::rest) (Fk t u):=by
 refine⟨?_⟩
 intro a s σ H D I h
 refine wpAny_execs_cons (thn (h1 a s σ H { D with nx:=u D } I h) fun f e q=>?_)
 cases f with
 | next =>
  obtain⟨c,b,d,q⟩:=q
  exact h2 a e c b D d q
 | ret v=>exact q
 | brk=>exact q
 | cont=>exact q
theorem Ah (h1:PS X st t):PSs X [st] t:=by
 refine⟨?_⟩
 intro a s σ H D I h
 refine wpAny_execs_cons (thn (h1 a s σ H D I h) fun f b q=>?_)
 cases f with
 | next=>exact wpAny_execs_nil q
 | ret v=>exact q
 | brk=>exact q
 | cont=>exact q
def tBreak:TS:=fun D σ H=>D.bk σ H
theorem ps_break:PS X (.Break pos) tBreak:=⟨fun _ _ σ H _ I h=>wpAny_Break ⟨σ,H,I,h⟩⟩
theorem Inv.quiet {H:Hp}(I:Inv X pins σ H s):interactive X.env=false:=by simp[interactive,I.ok.kind]
def tDrop (te:TE):TS:=fun D σ H=>te σ H fun _ H1=>D.nx σ H1
theorem Bj (he:PE X e te)(hs:swapsWith e none pos.line X.env=pure false:=by rfl):PS X (.Expr e pos) (tDrop te):=by
 refine⟨?_⟩
 intro a s σ H D I h
 exact wpAny_Expr_any (thn (he a s σ H _ I h) fun v f ⟨x,d,b,g,c⟩=>⟨σ,d,b,c⟩) I.quiet hs
def tRet (te:TE):TS:=fun D σ H=>te σ H D.rt
theorem Ap (he:PE X e te):PS X (.Return (some e) pos) (tRet te):=by
 refine⟨?_⟩
 intro a s σ H D I h
 exact wpAny_Return_some (thn (he a s σ H _ I h) fun v g ⟨x,f,c,b,d⟩=>⟨x,σ,f,c,b,d⟩)
def tIfS (c:TT)(t u:TS):TS:=fun D σ H=>c σ H fun b H1=>if b=true then t D σ H1 else u D σ H1
theorem Bo (hc:PT X c tc)(ha:PSs X a t)(hb:PSs X b u):PS X (.If c a b pos) (tIfS tc t u):=by
 refine⟨?_⟩
 intro e s σ H D I h
 refine wpAny_If (thn (hc e s σ H _ I h) fun d f ⟨g,j,i⟩=>?_)
 cases d with
 | true=>exact ha e f σ g D j i
 | false=>exact hb e f σ g D j i
def tNever:TS:=fun _ _ _=>False
theorem Gm:PS X st tNever:=⟨fun _ _ _ _ _ _ h=>h.elim⟩
theorem pss_never:PSs X sts tNever:=⟨fun _ _ _ _ _ _ h=>h.elim⟩
end
abbrev TG:=V→St→Hp→(St→Hp→Prop)→Prop
abbrev TGs:=List V→St→Hp→(St→Hp→Prop)→Prop
structure PG (X:Cx) (target:Expr) (t:TG):Prop where
 run:∀ (pins:List (Addr×Obj)) (s:Shared) (σ:St) (H:Hp) (v:V) (u:Value) (Q:St→Hp→Prop),Inv X pins σ H s→Bl v u→t v σ H Q →
  wpAny (model X.prog X.w) X.A (assign target X.env u) (fun _ s'=>∃ σ' H',Inv X pins σ' H' s'∧Q σ' H') X.xe s
instance {X:Cx} {target:Expr} {t:TG}:CoeFun (PG X target t) fun _=>∀ (pins:List (Addr×Obj)) (s:Shared) (σ:St) (H:Hp) (v:V) (u:Value) (Q:St→Hp→Prop),Inv X pins σ H s→Bl v u→t v σ H Q →
  wpAny (model X.prog X.w) X.A (assign target X.env u) (fun _ s'=>∃ σ' H',Inv X pins σ' H' s'∧Q σ' H') X.xe s:=⟨PG.run⟩
structure PGs (X:Cx) (ts:List Expr) (t:TGs):Prop where
 run:∀ (pins:List (Addr×Obj)) (s:Shared) (σ:St) (H:Hp) (vs:List V) (us:List Value) (Q:St→Hp→Prop),Inv X pins σ H s→Bi vs us→t vs σ H Q →
  wpAny (model X.prog X.w) X.A (assignInOrder ((assignEach ts X.env).map (·.2)) us) (fun _ s'=>∃ σ' H',Inv X pins σ' H' s'∧Q σ' H') X.xe s
instance {X:Cx} {ts:List Expr} {t:TGs}:CoeFun (PGs X ts t) fun _=>∀ (pins:List (Addr×Obj)) (s:Shared) (σ:St) (H:Hp) (vs:List V) (us:List Value) (Q:St→Hp→Prop),Inv X pins σ H s→Bi vs us→t vs σ H Q →
  wpAny (model X.prog X.w) X.A (assignInOrder ((assignEach ts X.env).map (·.2)) us) (fun _ s'=>∃ σ' H',Inv X pins σ' H' s'∧Q σ' H') X.xe s:=⟨PGs.run⟩
abbrev TSet:=V→V→V→Hp→(Hp→Prop)→Prop
def PSet (X:Cx)(t:TSet):Prop :=
 ∀ (pins:List (Addr×Obj)) (s:Shared) (σ:St) (H:Hp) (o i v:V) (ov iv u:Value) (Q:Hp→Prop),Inv X pins σ H s→Bl o ov→Bl i iv→Bl v u→t o i v H Q →
  wpAny (model X.prog X.w) X.A (setItem ov iv u) (fun _ s'=>∃ H',Inv X pins σ H' s'∧Q H') X.xe s
abbrev TIp:=V→V→Hp→VK→Prop
def PIp (X:Cx)(op:Operator)(t:TIp):Prop :=
 ∀ (pins:List (Addr×Obj)) (s:Shared) (σ:St) (H:Hp) (x y:V) (v u:Value) (Q:VK),Inv X pins σ H s→Bl x v→Bl y u→t x y H Q →
  wpAny (model X.prog X.w) X.A (inplaceOp op v u) (EP X pins σ Q) X.xe s
section
variable {X:Cx} {pos:Pos}
def Hs (i:Nat):TG:=fun v σ H Q=>Q (σ.set i (some v)) H
theorem Bn {i:Nat}{x:Str}(hN:X.N.Nodup)(hi:X.N[i]?=some x)(hx:Loc X.env.scope x)(hf:X.fn x=true∨X.env.scope.names.lookup x=some .local:=by first | exact .inl rfl | exact .inr rfl | assumption):PG X (.Name x pos) (Hs i):=by
 refine⟨?_⟩
 intro b s σ H v u Q I r h
 exact wpAny_assign_Name (Iz I hN hi hx r (fun c a=>⟨_,H,a,h⟩) hf)
def gNil:TGs:=fun vs σ H Q=>vs=[]∧Q σ H
inductive gCons (t:TG) (u:TGs) (vs:List V) (σ:L2.St) (H:Hp) (Q:L2.St→Hp→Prop):Prop
 | mk (v r:_) (_:vs=v::r) (_:t v σ H fun σ' H'=>u r σ' H' Q)
theorem Fm:PGs X [] gNil:=by
 refine⟨?_⟩
 intro a s σ H b c Q I r h
 obtain⟨e,h⟩:=h
 subst e
 cases r
 exact assignInOrder_nil ⟨σ,H,I,h⟩
theorem Br {t:TG}(h1:PG X e t)(h2:PGs X es u)(hs:(assignEach (e::es) X.env).map (·.2)=assign e X.env::(assignEach es X.env).map (·.2):=by rfl):PGs X (e::es) (gCons t u):=by
 refine⟨?_⟩
 intro a s σ H n l Q I r h
 obtain⟨v,m,f,h⟩:=h
 subst f
 cases r with
 | cons r j =>
  rw[hs]
  refine assignInOrder_cons (thn (h1 a s σ H _ _ _ I r h) fun _ k b=>?_)
  obtain⟨c,i,g,d⟩:=b
  exact h2 a k c i _ _ Q g j d
inductive gTup (K:PySem.W.Frag) (n:Nat) (t:TGs) (v:V) (σ:L2.St) (H:Hp) (Q:L2.St→Hp→Prop):Prop
 | mk (a xs:_) (_:v = .ref a) (_:SqT K H a xs) (_:xs.length=n) (_:t xs σ H Q)
theorem Hy {k:Nat}{t:TGs}{n:Nat}(hc:X.calm=true)(h:PGs X es t)(hn:(assignEach es X.env).length=n:=by rfl)(hst:(assignEach es X.env).findIdx? (·.1)=none:=by rfl):PG X (.Tuple es k pos) (gTup X.K n t):=by
 refine⟨?_⟩
 intro c s σ H v u Q I r d
 obtain⟨a,p,g,q,l,d⟩:=d
 subst g
 cases r
 obtain⟨w,f,ht,x⟩:=I.tuple q
 refine assign_Tuple_tuple (I.ok.hd hc) ht (by simp[hn,← l,f.length]) hst fun m j=>?_
 have i:Inv X c σ H { s with heap:=m }:=I.kept (t':=s.toks) fun b o e=>j b o (Z5 (Zo e)) e
 exact h c _ σ H p _ Q i (by simpa using f) d
def gSub (to ti:TE)(t:TSet):TG:=fun v σ H Q=>to σ H fun o H1=>ti σ H1 fun i H2=>t o i v H2 fun H3=>Q σ H3
theorem pg_sub {t:TSet}(ho:PE X o to)(hi:PE X i ti)(hs:PSet X t)(ha:∀ v,assign (.Subscript o i pos) X.env v=(do
   let ov ← holding [v] (eval o X.env)
   let iv ← holding [v,ov] (eval i X.env)
   standAt pos
   holding [v,ov,iv] (setItem ov iv v)
   release [v,ov,iv] []):=by intro _;rfl):PG X (.Subscript o i pos) (gSub to ti t):=by
 refine⟨?_⟩
 intro a s σ H v u Q I r h
 rw[ha]
 refine Zb (Zbc (thn (ho a s σ H _ I h) fun ov n b=>?_))
 obtain⟨x,g,j,w,d⟩:=b
 refine Zb (Zbc (thn (hi a n σ g _ j d) fun iv q b=>?_))
 obtain⟨y,m,c,e,l⟩:=b
 refine Zb (wpAny_standAt (Zb (Zbc (thn (hs a q σ m x y v ov iv u _ c w e r l) fun _ z ⟨f,p,k⟩=>?_))))
 exact wpAny_release ⟨σ,f,p,k⟩
def tAsg (te:TE)(g:TG):TS:=fun D σ H=>te σ H fun x H1=>g x σ H1 D.nx
theorem ps_asg (he:PE X e te)(hg:PG X tg g)(hs:swapsWithSole [tg] e pos.line X.env=pure false:=by rfl)(hw:swappedStores [tg] e X.env=pure none:=by rfl)(h1:(assignEach [tg] X.env).map (·.2)=[assign tg X.env]:=by rfl):PS X (.Assign [tg] e pos) (tAsg te g):=by
 refine⟨?_⟩
 intro a s σ H D I h
 refine wpAny_Assign_stores (thn (he a s σ H _ I h) fun v c b=>?_) hs hw
 obtain⟨x,j,f,d,i⟩:=b
 rw[h1]
 exact thn (hg a c σ j x v _ f d i) fun _ k q=>q
theorem An {i:Nat}{x:Str}(hN:X.N.Nodup)(hi:X.N[i]?=some x)(hx:Loc X.env.scope x)(he:PE X e te)(hs:swapsWith e (some (.Name x pos')) pos.line X.env=pure false:=by rfl)(hf:X.fn x=true∨X.env.scope.names.lookup x=some .local:=by first | exact .inl rfl | exact .inr rfl | assumption) :
  PS X (.Assign [.Name x pos'] e pos) (tAsg te (Hs i)):=by
 refine⟨?_⟩
 intro a s σ H D I h
 refine wpAny_Assign_Name (thn (he a s σ H _ I h) fun v k b=>?_) hs
 obtain⟨y,d,g,f,j⟩:=b
 exact Iz g hN hi hx f (fun l c=>⟨_,d,c,j⟩) hf
inductive tAug (i:Nat) (te:TE) (ti:TIp) (D:Ends) (σ:L2.St) (H:Hp):Prop
 | mk (x:_) (_:σ[i]?=some (some x)) (_:te σ H fun y H1=>ti x y H1 fun z H2=>D.nx (σ.set i (some z)) H2)
theorem ps_aug {i:Nat}{x:Str}(hN:X.N.Nodup)(hi:X.N[i]?=some x)(hx:Loc X.env.scope x)(he:PE X e te)(ho:PIp X op ti)(hf:X.fn x=true∨X.env.scope.names.lookup x=some .local:=by first | exact .inl rfl | exact .inr rfl | assumption) :
  PS X (.AugAssign (.Name x pos') op e pos) (tAug i te ti):=by
 refine⟨?_⟩
 intro b s σ H D I h
 obtain⟨v,t,h⟩:=h
 obtain⟨m,G,M⟩:=I.loc
 have vis:Vis X.env.scope x:=by rcases hx with k | k;exact .inl k;exact .inr (.inl k)
 obtain⟨u,r,l⟩:=M i x v hi t vis
 refine wpAny_AugAssign_Name ?_
 have g:wpAny (model X.prog X.w) X.A (eval e X.env) (fun w j=>wpAny (model X.prog X.w) X.A (inplaceOp op u w) (fun r P=>wpAny (model X.prog X.w) X.A (storeName X.env x r) (fun _=>SP X b D .next) X.xe P) X.xe j) X.xe s:=by
  refine thn (he b s σ H _ I h) fun w K d=>?_
  obtain⟨y,C,E,O,p⟩:=d
  refine thn (ho b K σ C v y u w _ E r O p) fun z S d=>?_
  obtain⟨Q,J,n,q,F⟩:=d
  exact Iz n hN hi hx q (fun R L=>⟨_,J,L,F⟩) hf
 rcases l with ⟨a,B⟩ | ⟨a,c,o,f⟩
 ·exact wpAny_loadName_local I.ok.kind a G B g
 ·rcases a with a | a
  ·exact wpAny_loadName_cell I.ok.kind a o f g
  ·rcases hx with k | k
   ·have:X.env.scope.names.lookup x=some .free:=a
    rw[k] at this;cases this
   ·have:X.env.scope.names.lookup x=some .free:=a
    rw[k] at this;cases this
inductive ipI (f:Int→Int→Int) (x y:V) (H:Hp) (Q:VK):Prop
 | mk (i j:_) (_:x = .int i) (_:y = .int j) (_:Q (.int (f i j)) H)
theorem ip_add:PIp X .Add (ipI fun i j=>i+j):=by
 intro a s σ H x y v u Q I d b h
 obtain⟨i,j,c,e,q⟩:=h
 subst c;subst e
 obtain⟨t,rfl⟩:=d
 obtain⟨f,rfl⟩:=b
 exact iadd_int ⟨.int _,H,I.tok _,⟨_,rfl⟩,q⟩
end
section
variable {X:Cx} {pos:Pos}
def tWhile (c:TT)(tb:TS):TS:=fun D σ H=>∃ W:Nat→St→Hp→Prop,(∃ m,W m σ H)∧∀ m σ H,W m σ H →
 c σ H fun b H1=>if b=true then ∃ N:St→Hp→Prop,(∀ σ' H',N σ' H'→∃ m',m'<m∧W m' σ' H')∧tb { D with nx:=N,ct:=N,bk:=D.nx } σ H1 else D.nx σ H1
theorem Dc (hp:PassesOwn (model X.prog X.w) X.A X.env X.xe)(hc:PT X c tc)(hb:PSs X body tb):PS X (.While c body [] pos) (tWhile tc tb):=by
 refine⟨?_⟩
 intro a s σ H D I h
 obtain⟨W,⟨B,w0⟩,q⟩:=h
 refine wpAny_While (codeAny_whileLoop (fun n E=>∃ y x,Inv X a y x E∧W n y x) ?_ B ⟨σ,H,I,w0⟩)
 rintro n G ⟨g,t,F,C⟩
 refine Zcl hp (thn (hc a G g t _ F (q n g t C)) fun b J ⟨z,r,j⟩=>?_)
 cases b with
 | true =>
  obtain⟨N,u,j⟩:=j
  rw[Zw rfl]
  refine Zcl hp (thn (hb a J g z _ r j) fun f K i=>?_)
  cases f with
  | next =>
   obtain⟨e,d,o,m⟩:=i
   obtain⟨p,l,k⟩:=u e d m
   exact⟨p,l,e,d,o,k⟩
  | cont =>
   obtain⟨e,d,o,m⟩:=i
   obtain⟨p,l,k⟩:=u e d m
   exact⟨p,l,e,d,o,k⟩
  | brk=>exact i
  | ret v=>exact i
 | false =>
  rw[Zs Zu]
  exact wpAny_execs_nil ⟨g,z,r,j⟩
end
structure It where
 go:Nat→Hp→Prop
 yld:Nat→Hp→V→Hp→Prop
 stop:Nat→Hp→Prop
def Ic (X:Cx)(pins:List (Addr×Obj))(H:Hp)(b:Addr):Prop :=
 H b=none∧b≠X.env.locals∧b∉X.fs∧(b∈X.ex∨X.s₀.heap.objs.size≤b)∧(∀ x c,X.env.cells.lookup x=some c→c≠b)∧∀ p∈X.pn++pins,p.1≠b
theorem Inv.fpOk {H H' : Hp}{s:Shared}(I:Inv X pins σ H s)(hb:s.heap.objs.size≤b)(hn:H' b=none):Ic X pins H' b:=by
 refine⟨hn,Zc8 (Z7 I.lt hb),I.nofs hb,.inr (Zah I.sz hb),fun x c e z=>?_,fun p a z=>?_⟩
 ·obtain⟨v,q⟩:=I.cell x c e
  exact absurd (Z7 q.lt (by rw[z];exact hb)) (Za3 _)
 ·exact absurd (Z7 (Zo (I.pin p a).1) (by rw[z];exact hb)) (Za3 _)
structure Turn (P:Program) (w:World) (K:PySem.W.Frag) (tg:Expr) (J:It) (fp:List Addr) (it:Addr) (tn:Nat→Heap→Prop):Prop where
 mem:it∈fp
 obj:∀ i h,tn i h→∀ b∈fp,∃ o,h.get? b=some o∧∀ v,o.data ≠ .cell v
 keep:∀ i h h',tn i h→(∀ b∈fp,∀ o,h.get? b=some o→h'.get? b=some o)→tn i h'
 item:∀ (X:Cx),X.prog=P→X.w=w→X.K=K→X.calm=true→∀ (i:Nat) (pins:List (Addr×Obj)) (s:Shared) (σ:St) (H:Hp) (E:Value→Shared→Prop),Inv X pins σ H s→(∀ b∈fp,Ic X pins H b)→tn i s.heap→J.go i H →
  wpAny (model P w) X.A (pyNext (.ref it)) (fun r s1=>∃ u,r=some u ∧
   wpAny (model P w) X.A (letOwnedTupleGo tg (.ref it) u) (fun _ s2=>∃ x H',Inv X pins σ H' s2∧Bl x u∧J.yld i H x H'∧tn (i+1) s2.heap∧∀ b∈fp,H' b=none) E s1) E s
 done:∀ (X:Cx),X.prog=P→X.w=w→X.K=K→X.calm=true→∀ (i:Nat) (pins:List (Addr×Obj)) (s:Shared) (σ:St) (H:Hp) (E:Value→Shared→Prop),Inv X pins σ H s→(∀ b∈fp,Ic X pins H b)→tn i s.heap→J.stop i H →
  wpAny (model P w) X.A (pyNext (.ref it)) (fun r s1=>r=none∧Inv X pins σ H s1) E s
 self:∀ (A:Around) (i:Nat) (s:Shared) (Q:Value→Shared→Prop) (E:Value→Shared→Prop),tn i s.heap→Q (.ref it) s→wpAny (model P w) A (pyIter (.ref it)) Q E s
abbrev TI:=St→Hp→(It→Hp→Prop)→Prop
inductive PIE (X:Cx) (pins:List (Addr×Obj)) (σ:St) (tg:Expr) (R:It→Hp→Prop) (itv:Value) (s2:Shared):Prop
 | mk (it:Addr) (fp:List Addr) (tn:Nat→Heap→Prop) (J:It) (H' : Hp) (_:itv = .ref it) (_:Inv X pins σ H' s2) (_:Turn X.prog X.w X.K tg J fp it tn) (_:tn 0 s2.heap) (_:(∀ b∈fp,Ic X pins H' b)) (_:R J H')
structure PI (X:Cx) (tg iter:Expr) (wi:TI):Prop where
 run:∀ (pins:List (Addr×Obj)) (s:Shared) (σ:St) (H:Hp) (R:It→Hp→Prop),Inv X pins σ H s→wi σ H R →
  wpAny (model X.prog X.w) X.A (eval iter X.env) (fun v s1=>wpAny (model X.prog X.w) X.A (pyIter v) (PIE X pins σ tg R) X.xe s1) X.xe s
instance {X:Cx} {tg iter:Expr} {wi:TI}:CoeFun (PI X tg iter wi) fun _=>∀ (pins:List (Addr×Obj)) (s:Shared) (σ:St) (H:Hp) (R:It→Hp→Prop),Inv X pins σ H s→wi σ H R →
  wpAny (model X.prog X.w) X.A (eval iter X.env) (fun v s1=>wpAny (model X.prog X.w) X.A (pyIter v) (PIE X pins σ tg R) X.xe s1) X.xe s:=⟨PI.run⟩
theorem go_of {E:Value→Shared→Prop}{s:Shared}{o:Obj}{n:String}{Q:Unit→Shared→Prop}(ho:s.heap.get? it=some o)(hc:o.cls = .type n)(hd:o.data = .fields vs)(hn : ["enumerate","zip","dict_itemiterator","dict_reverseitemiterator","odict_iterator","itertools.zip_longest","itertools.pairwise"].contains n=false)(hQ:Q () s):wpAny M A (letOwnedTupleGo tg (.ref it) u) Q E s:=by
 unfold letOwnedTupleGo
 cases tg <;> first
  | exact Zk hQ
  | (cases u <;> first
    | exact Zk hQ
    | (refine Zb (wpAny_load ho ?_)
       rw[hc,hd]
       show wpAny M A (if (["enumerate","zip","dict_itemiterator","dict_reverseitemiterator","odict_iterator","itertools.zip_longest","itertools.pairwise"].contains n && vs[0]? == some (rawInt _))=true then _ else _) Q E s
       rw[Zs (by intro h;rw[hn,Bool.false_and] at h;cases h)]
       exact Zk hQ))
def Itl (K:PySem.W.Frag)(a:Addr):It :=
 ⟨fun i H=>∃ xs x,SqL K H a xs∧xs[i]?=some x,fun i H x H'=>H'=H∧∀ xs,SqL K H a xs→xs[i]?=some x,fun i H=>∃ xs,SqL K H a xs∧xs.length≤i⟩
def Itr (lo:Int)(n:Nat):It:=⟨fun i _=>i<n,fun i H x H'=>H'=H∧x = .int (lo+i),fun i _=>n≤i⟩
theorem turn_list {P:Program}{w:World}{K:PySem.W.Frag}{tg:Expr}(a it:Addr):Turn P w K tg (Itl K a) [it] it (fun i h=>h.IsListIter it a i) where
 mem:=by simp
 obj:=fun i h f b g=>by
  have e:b=it:=by simpa using g
  subst e
  obtain⟨o,e,c,d⟩:=f
  exact⟨o,e,fun v z=>by rw[d] at z;cases z⟩
 keep:=fun i h m f k=>f.at fun o e=>k it (by simp) o e
 item:=by
  intro X G B L M i j s σ H E I l f A
  subst G B L
  obtain⟨R,x,n,C⟩:=A
  obtain⟨N,y,p,U⟩:=I.list n
  obtain⟨u,Q,V⟩:=y.get C
  obtain⟨t,r,S,F,D,J⟩:=l it (by simp)
  refine wpAny_pyNext_list_item f p.isList (x:=u) (by simpa using Q) fun m q Z=>?_
  have T:Inv X j σ H { s with heap:=m }:=I.turned (t':=s.toks) (fun b o g e=>(Z.2 b g).trans e) t r F D J
  obtain⟨o,e,c,d⟩:=id q
  exact⟨u,rfl,go_of (s:={ s with heap:=m }) e c d (by decide) ⟨x,H,T,V,⟨rfl,fun ys O=>by rw[I.list_inj O n];exact C⟩,q,fun b g=>(l b g).1⟩⟩
 done:=by
  intro X G B L M i j s σ H E I l f A
  subst G B L
  obtain⟨R,n,C⟩:=A
  obtain⟨N,y,p,U⟩:=I.list n
  obtain⟨t,r,S,F,D,J⟩:=l it (by simp)
  have hl:=y.length
  exact wpAny_pyNext_list_end (I.ok.hd M) f p.isList (by simp;lia) fun m Y=>⟨rfl,I.turned (t':=s.toks) (fun b o g e=>Y b o g e) t r F D J⟩
 self:=fun _ _ _ _ _ f h=>wpAny_pyIter_listiter f h
theorem turn_range {P:Program}{w:World}{K:PySem.W.Frag}{tg:Expr}(it:Addr)(lo:Int)(n:Nat):Turn P w K tg (Itr lo n) [it] it (fun i h=>IsRangeIter h it (lo+(i:Nat) * 1) ((n:Int) - (i:Nat)) 1) where
 mem:=by simp
 obj:=fun i h a b c=>by
  have e:b=it:=by simpa using c
  subst e
  exact⟨_,a,fun v z=>by
   have L : Data.fields _=Data.cell v:=z
   cases L⟩
 keep:=fun i h g a k=>k it (by simp) _ a
 item:=by
  intro X y r B m i d s σ H E I f a q
  subst y r B
  obtain⟨p,l,G,x,u,A⟩:=f it (by simp)
  have W:=Walks.range (prog:=X.prog) (w:=X.w) (I.ok.hd m) it lo 1 n
  refine W.item i s _ _ q a fun v g C D j J=>?_
  obtain⟨t,rfl⟩:=D
  have F:Inv X d σ H { s with heap:=g,toks:=C }:=I.turned (fun b o c e=>J b o (by simpa using c) e) p l x u A
  refine⟨_,rfl,go_of (s:={ s with heap:=g,toks:=C }) (n := "range_iterator") j rfl rfl (by decide) ⟨.int (lo+i),H,F,⟨t,?_⟩,⟨rfl,rfl⟩,j,fun b c=>(f b c).1⟩⟩
  rw[Int.mul_one]
 done:=by
  intro X y r B m i d s σ H E I f a q
  subst y r B
  obtain⟨p,l,G,x,u,A⟩:=f it (by simp)
  exact wpAny_pyNext_range_end (I.ok.hd m) a (by have:n≤i:=q;lia) fun g M=>⟨rfl,I.turned (t':=s.toks) (fun b o c e=>M b o c e) p l x u A⟩
 self:=fun _ _ _ _ _ a h=>wpAny_pyIter_rangeiter a h
end
end L2
namespace L2
noncomputable section
open PySem PySem.Spec PyProof.Rows
section
variable {X:Cx} {tg:Expr}
inductive iList_ (K:PySem.W.Frag) (R:It→Hp→Prop) (x:V) (H1:Hp):Prop
 | mk (a:_) (_:x = .ref a) (_:(∃ xs,SqL K H1 a xs)) (_:R (Itl K a) H1)
def iList (K:PySem.W.Frag)(tl:TE):TI:=fun σ H R=>tl σ H fun x H1=>iList_ K R x H1
theorem C3 {l:Expr}{tl:TE}(hl:PE X l tl):PI X tg l (iList X.K tl):=by
 refine⟨?_⟩
 intro f s σ H R I h
 refine thn (hl f s σ H _ I h) fun v d g=>?_
 obtain⟨x,j,c,m,i⟩:=g
 obtain⟨a,e,⟨w,n⟩,q⟩:=i
 subst e
 cases m
 obtain⟨r,t,p,u⟩:=c.list n
 refine Zbx p.isList ?_
 refine⟨d.heap.objs.size,[d.heap.objs.size],_,_,j,rfl,c.kept (t':=d.toks) fun b o e=>Zc _ e,turn_list a _,⟨_,Zn _ rfl,rfl,rfl⟩,fun b k=>?_,q⟩
 have e:b=d.heap.objs.size:=by simpa using k
 subst e
 exact c.fpOk (Zd _) (c.hok.fresh (Zd _))
theorem range_it {pins:List (Addr×Obj)}{σ:St}{H:Hp}{s:Shared}{R:It→Hp→Prop}{E:Value→Shared→Prop}{lo hi:Int}{t u v:Tok}{tk:Nat}(I:Inv X pins σ H s)(h1 : -(2 ^ 62)≤lo)(h2:lo<2 ^ 62)(h3 : -(2 ^ 62)≤hi)(h4:hi<2 ^ 62)(q:R (Itr lo (hi - lo).toNat) H):wpAny (model X.prog X.w) X.A (pyIter (.ref s.heap.objs.size)) (PIE X pins σ tg R) E { s with heap:=s.heap.push { cls:=.type "range", data:=.fields #[.int lo t,.int hi u,.int 1 v] },toks:=tk }:=by
 refine wpAny_pyIter_range (IsRange.new ..) (small_one h1 h2 h3 h4) ?_
 have a:Inv X pins σ H { s with heap:=s.heap.push { cls:=.type "range", data:=.fields #[.int lo t,.int hi u,.int 1 v] },toks:=tk }:=I.kept fun b o e=>Zc _ e
 refine⟨(s.heap.push { cls:=.type "range", data:=.fields #[.int lo t,.int hi u,.int 1 v] }).objs.size,[(s.heap.push { cls:=.type "range", data:=.fields #[.int lo t,.int hi u,.int 1 v] }).objs.size],_,_,H,rfl,
  a.kept (t':=tk) fun b o e=>Zc _ e,turn_range _ lo (hi - lo).toNat,?_,fun b c=>?_,q⟩
 ·have d:lo+((0:Nat):Int) * 1=lo:=by simp
  have f:(((hi - lo).toNat:Nat):Int) - ((0:Nat):Int)=Builtin.Range.rangeSize lo hi 1:=by rw[rangeSize_one];split <;> lia
  show IsRangeIter _ _ (lo+((0:Nat):Int) * 1) ((((hi - lo).toNat:Nat):Int) - ((0:Nat):Int)) 1
  rw[d,f]
  exact Zn _ rfl
 ·have e:b=(s.heap.push { cls:=.type "range", data:=.fields #[.int lo t,.int hi u,.int 1 v] }).objs.size:=by simpa using c
  subst e
  exact a.fpOk (Zd _) (a.hok.fresh (Zd _))
inductive iRng1_ (R:It→Hp→Prop) (vs:List V) (H1:Hp):Prop
 | mk (j:Int) (_:vs=[.int j]) (_ : -(2 ^ 62)≤j) (_:j<2 ^ 62) (_:R (Itr 0 j.toNat) H1)
def iRng1 (ta:TA):TI:=fun σ H R=>ta σ H fun vs H1=>iRng1_ R vs H1
theorem pi_range1 {a:Expr}{ta:TA}{p pos:Pos}(hg:Gl X "range")(hm:X.mg "range" = none)(ha:PA X [a] ta)(hs:starEach [a] X.env=[(false,eval a X.env)]:=by rfl):PI X tg (.Call (.Name "range" p) [a] [] pos) (iRng1 ta):=by
 refine⟨?_⟩
 intro b s σ H R I h
 refine Call_ (Dj I hg hm boot_range (Zaw (thn (ha pos b s σ H _ I h) fun l o d=>?_) hs rfl))
 obtain⟨n,m,f,k,c⟩:=d
 obtain⟨j,e,c,i,q⟩:=c
 subst e
 cases k with
 | cons r g =>
  cases g
  obtain⟨t,rfl⟩:=r
  exact call_range_1 (range_it f (by lia) (by lia) c i (by simpa using q))
def tFor (wi:TI)(g:TG)(tb:TS):TS:=fun D σ H=>wi σ H fun J H1=>∃ W:Nat→Nat→St→Hp→Prop,(∃ m,W 0 m σ H1)∧∀ i m σ H,W i m σ H →
 (J.stop i H∧D.nx σ H)∨(J.go i H∧∃ N:St→Hp→Prop,(∀ σ' H',N σ' H'→∃ m',m'<m∧W (i+1) m' σ' H')∧∀ x H',J.yld i H x H'→g x σ H' fun σ2 H2=>tb { D with nx:=N,ct:=N,bk:=D.nx } σ2 H2)
def pinsAt (fp:List Addr)(h:Heap):List (Addr×Obj):=fp.filterMap fun b=>(h.get? b).map fun o=>(b,o)
theorem Eb {h:Heap}(hb:b∈fp)(e:h.get? b=some o):(b,o)∈pinsAt fp h:=List.mem_filterMap.mpr ⟨b,hb,by rw[e];rfl⟩
theorem of_pinsAt {h:Heap}{p:Addr×Obj}(hp:p∈pinsAt fp h):p.1∈fp∧h.get? p.1=some p.2:=by
 obtain⟨b,a,e⟩:=List.mem_filterMap.mp hp
 cases q:h.get? b with
 | none=>rw[q] at e;cases e
 | some o =>
  rw[q] at e
  have c : (b,o)=p:=Zm e
  subst c
  exact⟨a,q⟩
theorem Inv.pinned {H:Hp}{s:Shared}(I:Inv X pins σ H s)(hf:∀ b∈fp,Ic X pins H b)(ho:∀ b∈fp,∃ o,s.heap.get? b=some o∧∀ v,o.data ≠ .cell v):Inv X (pins++pinsAt fp s.heap) σ H s :=
 I.pins_of fun p i=>(Zaa.mp i).elim (fun z=>I.pin p (Zaq _ z)) fun z=>by
  obtain⟨a,e⟩:=of_pinsAt z
  obtain⟨f,h,g,_⟩:=hf p.1 a
  obtain⟨o,c,d⟩:=ho p.1 a
  rw[e] at c;cases c
  exact⟨e,f,h,g,d⟩
theorem Inv.unpinned {H:Hp}(I:Inv X (pins++pl) σ H s):Inv X pins σ H s:=I.pins_of fun p a=>I.pin p (Zaq _ (Zb3 _ a))
theorem Fu (hp:PassesOwn (model X.prog X.w) X.A X.env X.xe)(hc:X.calm=true)(hi:PI X tg iter wi)(hg:PG X tg g)(hb:PSs X body tb)(hs:∀ x,foldedSetIterable iter X.env x=pure x:=by intro _;rfl):PS X (.For tg iter body [] pos) (tFor wi g tb):=by
 refine⟨?_⟩
 intro a s σ H D I h
 refine wpAny_For (thn (hi a s σ H _ I h) fun v s1 h1=>thn h1 fun aa s2 h2=>?_) hs
 obtain⟨it,F,tn,J,H2,e,I2,T,U,S,W,⟨m0,w0⟩,P⟩:=h2
 subst e
 -- what stays true of the iterator's objects through the loop
 have q:∀ {l : Hp},(∀ b∈F,l b=none)→∀ b∈F,Ic X a l b:=fun hn b hb=>⟨hn b hb,(S b hb).2⟩
 refine codeAny_forLoop_any (fun n Z=>∃ i z l,Inv X a z l Z∧tn i Z.heap∧(∀ b∈F,l b=none)∧W i n z l) ?_ m0 ⟨0,σ,H2,I2,U,fun b hb=>(S b hb).1,w0⟩
 rintro n s3 ⟨i,E,G,I3,K,L,w3⟩
 rcases P i n E G w3 with ⟨M,qn⟩ | ⟨go,N,hN,step⟩
 ·refine Zcl hp (thn (T.done X rfl rfl rfl hc i a s3 E G X.xe I3 (q L) K M) fun r s4 ⟨O,I4⟩=>?_)
  subst O
  exact wpAny_execs_nil ⟨E,G,I4,qn⟩
 ·refine Zcl hp (thn (T.item X rfl rfl rfl hc i a s3 E G X.xe I3 (q L) K go) fun r s4 ⟨u,O,h4⟩=>?_)
  subst O
  refine Zcl hp (thn h4 fun _ s5 t=>?_)
  obtain⟨x,V,I5,r5,y5,C,R⟩:=t
  have Y:=I5.pinned (q R) (T.obj _ _ C)
  refine Zcl hp (thn (hg _ s5 E V x u _ Y r5 (step x V y5)) fun _ s6 t=>?_)
  obtain⟨σ6,H6,I6,q6⟩:=t
  refine Zcl hp (thn (hb _ s6 σ6 H6 _ I6 q6) fun f Q p=>?_)
  have y:∀ {j:St} {k:Hp},Inv X (a++pinsAt F s5.heap) j k Q→N j k→∃ m,m<n∧∃ i z l,Inv X a z l Q∧tn i Q.heap∧(∀ b∈F,l b=none)∧W i m z l:=fun {j k} c B=>by
   obtain⟨m',hm,w7⟩:=hN j k B
   refine⟨m',hm,i+1,j,k,c.unpinned,T.keep _ _ _ C fun b hb o e=>(c.pin (b,o) (Zaq _ (Zaq _ (Eb hb e)))).1,fun b hb=>?_,w7⟩
   obtain⟨o,e,d⟩:=T.obj _ _ C b hb
   exact (c.pin (b,o) (Zaq _ (Zaq _ (Eb hb e)))).2.1
  cases f with
  | next=>obtain⟨j,k,c,B⟩:=p;exact y c B
  | cont=>obtain⟨j,k,c,B⟩:=p;exact y c B
  | brk=>obtain⟨j,k,c,p⟩:=p;exact⟨j,k,c.unpinned,p⟩
  | ret v=>obtain⟨x7,j,k,c,r7,p⟩:=p;exact⟨x7,j,k,c.unpinned,r7,p⟩
end
theorem for_list {K:PySem.W.Frag}{a:Addr}{xs:List V}{g:TG}{tb:TS}{D:Ends}{σ:St}{H:Hp}(Pv:Nat→St→Hp→Prop)(h0:Pv 0 σ H)(hl:∀ i σ H,i≤xs.length→Pv i σ H→SqL K H a xs)(hs:∀ i x σ H,xs[i]?=some x→Pv i σ H→g x σ H fun σ2 H2=>tb { D with nx:=Pv (i+1),ct:=Pv (i+1),bk:=D.nx } σ2 H2)(hd:∀ σ H,Pv xs.length σ H→D.nx σ H) :
  ∃ W:Nat→Nat→St→Hp→Prop,(∃ m,W 0 m σ H)∧∀ i m σ H,W i m σ H →
   ((Itl K a).stop i H∧D.nx σ H)∨((Itl K a).go i H∧∃ N:St→Hp→Prop,(∀ σ' H',N σ' H'→∃ m',m'<m∧W (i+1) m' σ' H')∧∀ x H',(Itl K a).yld i H x H'→g x σ H' fun σ2 H2=>tb { D with nx:=N,ct:=N,bk:=D.nx } σ2 H2):=by
 refine⟨fun i m σ H=>m=xs.length - i∧i≤xs.length∧Pv i σ H,⟨xs.length,by simp,Zt _,h0⟩,?_⟩
 rintro i m σ H ⟨rfl,d,p⟩
 have q:=hl i σ H d p
 by_cases b:i<xs.length
 ·refine .inr ⟨⟨xs,xs[i],q,by simp[b]⟩,Pv (i+1),fun σ' H' c=>⟨xs.length - (i+1),by lia,rfl,b,c⟩,fun x H' y=>?_⟩
  obtain⟨e,y⟩:=y
  subst e
  exact hs i x σ _ (y xs q) p
 ·have e:i=xs.length:=by lia
  subst e
  exact .inl ⟨⟨xs,q,Zd _⟩,hd σ H p⟩
theorem for_range {lo:Int}{n:Nat}{g:TG}{tb:TS}{D:Ends}{σ:St}{H:Hp}(Pv:Nat→St→Hp→Prop)(h0:Pv 0 σ H)(hs:∀ i σ H,i<n→Pv i σ H→g (.int (lo+i)) σ H fun σ2 H2=>tb { D with nx:=Pv (i+1),ct:=Pv (i+1),bk:=D.nx } σ2 H2)(hd:∀ σ H,Pv n σ H→D.nx σ H) :
  ∃ W:Nat→Nat→St→Hp→Prop,(∃ m,W 0 m σ H)∧∀ i m σ H,W i m σ H →
   ((Itr lo n).stop i H∧D.nx σ H)∨((Itr lo n).go i H∧∃ N:St→Hp→Prop,(∀ σ' H',N σ' H'→∃ m',m'<m∧W (i+1) m' σ' H')∧∀ x H',(Itr lo n).yld i H x H'→g x σ H' fun σ2 H2=>tb { D with nx:=N,ct:=N,bk:=D.nx } σ2 H2):=by
 refine⟨fun i m σ H=>m=n - i∧i≤n∧Pv i σ H,⟨n,by simp,Zt _,h0⟩,?_⟩
 rintro i m σ H ⟨rfl,c,p⟩
 by_cases a:i<n
 ·refine .inr ⟨a,Pv (i+1),fun σ' H' b=>⟨n - (i+1),by lia,rfl,a,b⟩,fun x H' y=>?_⟩
  obtain⟨e,y⟩:=y
  subst e y
  exact hs i σ _ a p
 ·have e:i=n:=by lia
  subst e
  exact .inl ⟨Zd _,hd σ H p⟩
end
end L2
namespace L2
noncomputable section
open PySem PySem.Spec PyProof.Rows
abbrev R2:=V→V→Hp→VK→Prop
def OpR (X:Cx)(f:Value→Value→Sem Value)(r:R2):Prop :=
 ∀ (pins:List (Addr×Obj)) (s:Shared) (σ:St) (H:Hp) (x y:V) (v u:Value) (Q:VK),Inv X pins σ H s→Bl x v→Bl y u→r x y H Q →
  wpAny (model X.prog X.w) X.A (f v u) (EP X pins σ Q) X.xe s
def UnR (X:Cx)(f:Value→Sem Value)(r:V→Hp→VK→Prop):Prop :=
 ∀ (pins:List (Addr×Obj)) (s:Shared) (σ:St) (H:Hp) (x:V) (v:Value) (Q:VK),Inv X pins σ H s→Bl x v→r x H Q →
  wpAny (model X.prog X.w) X.A (f v) (EP X pins σ Q) X.xe s
def Dd (X:Cx)(f:Value)(r:List V→Hp→VK→Prop):Prop :=
 ∀ (pins:List (Addr×Obj)) (s:Shared) (σ:St) (H:Hp) (xs:List V) (us:List Value) (Q:VK),Inv X pins σ H s→Bi xs us→r xs H Q →
  wpAny (model X.prog X.w) X.A (call f us) (EP X pins σ Q) X.xe s
def TruR (X:Cx)(r:V→Hp→(Bool→Hp→Prop)→Prop):Prop :=
 ∀ (pins:List (Addr×Obj)) (s:Shared) (σ:St) (H:Hp) (x:V) (v:Value) (Q:Bool→Hp→Prop),Inv X pins σ H s→Bl x v→r x H Q →
  wpAny (model X.prog X.w) X.A (truthy v) (TP X pins σ Q) X.xe s
def tOp (r:R2)(ta tb:TE):TE:=fun σ H Q=>ta σ H fun x H1=>tb σ H1 fun y H2=>r x y H2 Q
def tUn (r:V→Hp→VK→Prop)(ta:TE):TE:=fun σ H Q=>ta σ H fun x H1=>r x H1 Q
inductive rI (C:Int→Int→Prop) (g:Int→Int→V) (x y:V) (H:Hp) (Q:VK):Prop
 | mk (i j:_) (_:x = .int i) (_:y = .int j) (_:C i j) (_:Q (g i j) H)
inductive rI0 (g:Int→Int→V) (x y:V) (H:Hp) (Q:VK):Prop
 | mk (i j:_) (_:x = .int i) (_:y = .int j) (_:Q (g i j) H)
inductive rU (g:Int→V) (x:V) (H:Hp) (Q:VK):Prop
 | mk (i:_) (_:x = .int i) (_:Q (g i) H)
section
variable {X:Cx} {a b c:Expr} {ta tb tc:TE} {pos:Pos}
theorem binT (ha:PE X a ta)(hb:PE X b tb){H:Hp}{R:V→V→Hp→Prop}(I:Inv X pins σ H s)(h:ta σ H fun x H1=>tb σ H1 fun y H2=>R x y H2){Q:Value→Shared→Prop}{f:Value→Value→Sem Value}(hf:∀ v u s2 x y H2,Inv X pins σ H2 s2→Bl x v→Bl y u→R x y H2→wpAny (model X.prog X.w) X.A (f v u) Q X.xe s2) :
  wpAny (model X.prog X.w) X.A (eval a X.env) (fun v s₁=>wpAny (model X.prog X.w) X.A (eval b X.env) (fun u s₂=>wpAny (model X.prog X.w) X.A (f v u) Q X.xe s₂) X.xe s₁) X.xe s:=by
 refine thn (ha pins s σ H _ I h) fun v e c=>?_
 obtain⟨x,H1,k,i,l⟩:=c
 refine thn (hb pins e σ H1 _ k l) fun u s2 c=>?_
 obtain⟨y,H2,d,g,j⟩:=c
 exact hf v u s2 x y H2 d i g j
theorem Au (ho:OpR X (binaryOp op) r)(ha:PE X a ta)(hb:PE X b tb):PE X (.BinOp a op b pos) (tOp r ta tb):=by
 refine⟨?_⟩
 intro c s σ H Q I h
 exact wpAny_BinOp (binT ha hb I h fun v u f x y d e g i q=>ho c f σ d x y v u Q e g i q)
theorem Dl {r:V→Hp→VK→Prop}(ho:UnR X (unaryOp op) r)(ha:PE X a ta):PE X (.UnaryOp op a pos) (tUn r ta):=by
 refine⟨?_⟩
 intro b s σ H Q I h
 exact UnaryOp_ (thn (ha b s σ H _ I h) fun v c ⟨x,g,e,d,f⟩=>ho b c σ g x v Q e d f)
theorem opI {f:Value→Value→Sem Value}{C:Int→Int→Prop}{g:Int→Int→Int}(rule:∀ (i j:Int) (t u:Tok) (s:Shared) (Q:Value→Shared→Prop) (E:Value→Shared→Prop),C i j→Q (.int (g i j) s.toks) { s with toks:=s.toks+1 }→wpAny (model X.prog X.w) X.A (f (.int i t) (.int j u)) Q E s) :
  OpR X f (rI C fun i j=>.int (g i j)):=by
 intro b s σ H x y v u Q I c d h
 obtain⟨i,j,rfl,rfl,a,q⟩:=h
 obtain⟨t,rfl⟩:=c
 obtain⟨e,rfl⟩:=d
 exact rule i j t e s _ _ a ⟨.int (g i j),H,I.tok _,⟨_,rfl⟩,q⟩
theorem opI0 {f:Value→Value→Sem Value}{g:Int→Int→Int}(rule:∀ (i j:Int) (t u:Tok) (s:Shared) (Q:Value→Shared→Prop) (E:Value→Shared→Prop),Q (.int (g i j) s.toks) { s with toks:=s.toks+1 }→wpAny (model X.prog X.w) X.A (f (.int i t) (.int j u)) Q E s) :
  OpR X f (rI0 fun i j=>.int (g i j)):=by
 intro a s σ H x y v u Q I b c h
 obtain⟨i,j,rfl,rfl,q⟩:=h
 obtain⟨t,rfl⟩:=b
 obtain⟨d,rfl⟩:=c
 exact rule i j t d s _ _ ⟨.int (g i j),H,I.tok _,⟨_,rfl⟩,q⟩
theorem opB0 {f:Value→Value→Sem Value}{g:Int→Int→Bool}(rule:∀ (i j:Int) (t u:Tok) (s:Shared) (Q:Value→Shared→Prop) (E:Value→Shared→Prop),Q (.bool (g i j)) s→wpAny (model X.prog X.w) X.A (f (.int i t) (.int j u)) Q E s) :
  OpR X f (rI0 fun i j=>.bl (g i j)):=by
 intro a s σ H x y v u Q I b c h
 obtain⟨i,j,rfl,rfl,q⟩:=h
 obtain⟨t,rfl⟩:=b
 obtain⟨d,rfl⟩:=c
 exact rule i j t d s _ _ ⟨.bl (g i j),H,I,rfl,q⟩
def CDiv (i j:Int):Prop:=0<j∧j<1073741824
def CPow (i j:Int):Prop:=0≤j∧j≤1000000∧i.natAbs<2 ^ 64
def CMul (i j:Int):Prop:=(-(2 ^ 64)<i∧i<2 ^ 64)∨(-(2 ^ 64)<j∧j<2 ^ 64)
theorem CMul.ok {i j:Int}(h:CMul i j):IntMulOk i j:=by
 rcases h with ⟨a,b⟩ | ⟨a,b⟩
 ·exact .of_left (intBits_le_64 a b)
 ·exact .of_right (intBits_le_64 a b)
theorem two_pow_nn (k:Nat):(0:Int)≤2 ^ k:=by
 rw[two_pow_cast]
 exact Int.natCast_nonneg _
theorem Ca:OpR X (binaryOp .Add) (rI0 fun i j=>.int (i+j)):=opI0 fun _ _ _ _ _ _ _ q=>add_int q
theorem Fw:OpR X (binaryOp .Sub) (rI0 fun i j=>.int (i - j)):=opI0 fun _ _ _ _ _ _ _ q=>sub_int q
theorem G0:OpR X (binaryOp .Mult) (rI CMul fun i j=>.int (i * j)):=opI fun _ _ _ _ _ _ _ a q=>mul_int q a.ok
theorem Fo:OpR X (binaryOp .FloorDiv) (rI CDiv fun i j=>.int (i / j)):=opI fun i j _ _ _ _ _ a q=>by
 have b:(0:Int)<j:=a.1
 have c:j<1073741824:=a.2
 exact floordiv_int (by lia) (by rw[Int.fdiv_eq_ediv_of_nonneg i (by lia)];exact q) (.inl (PyProof.noPylong_small (by lia)))
theorem B9:OpR X (binaryOp .Mod) (rI (fun _ j=>0<j) fun i j=>.int (i % j)):=opI fun i j _ _ _ _ _ a q=>by
 have b:(0:Int)<j:=a
 exact mod_int' (by lia) (by rw[Int.fmod_eq_emod_of_nonneg i (by lia)];exact q)
theorem op_pow:OpR X (binaryOp .Pow) (rI CPow fun i j=>.int (i ^ j.toNat)):=opI fun _ _ _ _ _ _ _ a q=>pow_int_small a.1 a.2.1 a.2.2 q
theorem op_shr:OpR X (binaryOp .RShift) (rI (fun _ j=>0≤j) fun i j=>.int (i / 2 ^ j.toNat)):=opI fun i j _ _ _ _ _ a q =>
 rshift_int a (by rw[Int.fdiv_eq_ediv_of_nonneg i (two_pow_nn _)];exact q)
theorem unI {f:Value→Sem Value}{g:Int→Int}(rule:∀ (i:Int) (t:Tok) (s:Shared) (Q:Value→Shared→Prop) (E:Value→Shared→Prop),Q (.int (g i) s.toks) { s with toks:=s.toks+1 }→wpAny (model X.prog X.w) X.A (f (.int i t)) Q E s) :
  UnR X f (rU fun i=>.int (g i)):=by
 intro a s σ H x v Q I b h
 obtain⟨i,rfl,q⟩:=h
 obtain⟨t,rfl⟩:=b
 exact rule i t s _ _ ⟨.int (g i),H,I.tok _,⟨_,rfl⟩,q⟩
theorem Cm:UnR X (unaryOp .USub) (rU fun i=>.int (-i)):=unI fun _ _ _ _ _ q=>neg_int q
end
def scal:V→V→Bool
 | .non,.non=>true | .non,.int _=>true | .int _,.non=>true | .non,.bl _=>true | .bl _,.non=>true | .non,.str _=>true | .str _,.non=>true
 | .int _,.int _=>true | .bl _,.bl _=>true | .str _,.str _=>true | .byt _,.byt _=>true
 | .int _,.str _=>true | .str _,.int _=>true | .bl _,.str _=>true | .str _,.bl _=>true
 | _,_=>false
def rEq:R2:=fun x y H Q=>scal x y=true∧Q (.bl (decide (x=y))) H
def rNe:R2:=fun x y H Q=>scal x y=true∧Q (.bl (!decide (x=y))) H
theorem dec_int {i j:Int}:decide (V.int i=V.int j)=(i == j):=by
 rw[Zcm]
 simp
theorem dec_bl {i j:Bool}:decide (V.bl i=V.bl j)=(i == j):=by
 rw[Zcm]
 simp
theorem dec_str {i j:Str}:decide (V.str i=V.str j)=(i == j):=by
 rw[Zcm]
 simp
theorem dec_byt {i j:Array UInt8}:decide (V.byt i=V.byt j)=(i.toList == j.toList):=by
 rw[Zcm]
 cases i
 cases j
 simp
section
variable {X:Cx} {a b c:Expr} {ta tb tc:TE} {pos:Pos}
theorem Bm {H:Hp}{k k' : Bool}(I:Inv X pins σ H s)(q:Q (.bl k) H)(e:k=k'):EP X pins σ Q (.bool k') s:=by
 subst e
 exact⟨.bl k,H,I,rfl,q⟩
theorem Cw:OpR X (compareOp .Eq) rEq:=by
 intro e s σ H x y v u Q I d a h
 obtain⟨c,q⟩:=h
 cases x with
 | non =>
  cases d
  cases y with
  | non=>cases a;exact PySem.EqNone.eq_none_none (Bm I q (by simp))
  | bl j=>cases a;exact PySem.EqNone.eq_none_bool (Bm I q (by simp))
  | int j=>obtain⟨b,rfl⟩:=a;exact PySem.EqNone.eq_none_int (Bm I q (by simp))
  | str j=>obtain⟨b,rfl⟩:=a;exact PySem.EqNone.eq_none_str (Bm I q (by simp))
  | _=>exact absurd (show false=true from c) Zu
 | bl i =>
  cases d
  cases y with
  | non=>cases a;exact PySem.EqNone.eq_bool_none (Bm I q (by simp))
  | bl j=>cases a;exact eq_bool (Bm I q dec_bl)
  | str j=>obtain⟨b,rfl⟩:=a;exact PySem.EqMixed.eq_bool_str (Bm I q (by simp))
  | _=>exact absurd (show false=true from c) Zu
 | int i =>
  obtain⟨t,rfl⟩:=d
  cases y with
  | non=>cases a;exact PySem.EqNone.eq_int_none (Bm I q (by simp))
  | int j=>obtain⟨b,rfl⟩:=a;exact eq_int (Bm I q dec_int)
  | str j=>obtain⟨b,rfl⟩:=a;exact PySem.EqMixed.eq_int_str (Bm I q (by simp))
  | _=>exact absurd (show false=true from c) Zu
 | str i =>
  obtain⟨t,rfl⟩:=d
  cases y with
  | non=>cases a;exact PySem.EqNone.eq_str_none (Bm I q (by simp))
  | bl j=>cases a;exact PySem.EqMixed.eq_str_bool (Bm I q (by simp))
  | int j=>obtain⟨b,rfl⟩:=a;exact PySem.EqMixed.eq_str_int (Bm I q (by simp))
  | str j=>obtain⟨b,rfl⟩:=a;exact eq_str (Bm I q dec_str)
  | _=>exact absurd (show false=true from c) Zu
 | byt i =>
  obtain⟨t,rfl⟩:=d
  cases y with
  | byt j=>obtain⟨b,rfl⟩:=a;exact PySem.W.eq_bytes (Bm I q dec_byt)
  | _=>exact absurd (show false=true from c) Zu
 | _=>cases y <;> exact absurd (show false=true from c) Zu
theorem op_ne:OpR X (compareOp .NotEq) rNe:=by
 intro e s σ H x y v u Q I d a h
 obtain⟨c,q⟩:=h
 cases x with
 | non =>
  cases d
  cases y with
  | non=>cases a;exact PySem.EqNone.ne_none_none (Bm I q (by simp))
  | bl j=>cases a;exact PySem.EqNone.ne_none_bool (Bm I q (by simp))
  | int j=>obtain⟨b,rfl⟩:=a;exact PySem.EqNone.ne_none_int (Bm I q (by simp))
  | str j=>obtain⟨b,rfl⟩:=a;exact PySem.EqNone.ne_none_str (Bm I q (by simp))
  | _=>exact absurd (show false=true from c) Zu
 | bl i =>
  cases d
  cases y with
  | non=>cases a;exact PySem.EqNone.ne_bool_none (Bm I q (by simp))
  | bl j=>cases a;exact ne_bool (Bm I q (congrArg not dec_bl))
  | str j=>obtain⟨b,rfl⟩:=a;exact PySem.EqMixed.ne_bool_str (Bm I q (by simp))
  | _=>exact absurd (show false=true from c) Zu
 | int i =>
  obtain⟨t,rfl⟩:=d
  cases y with
  | non=>cases a;exact PySem.EqNone.ne_int_none (Bm I q (by simp))
  | int j=>obtain⟨b,rfl⟩:=a;exact ne_int (Bm I q (congrArg not dec_int))
  | str j=>obtain⟨b,rfl⟩:=a;exact PySem.EqMixed.ne_int_str (Bm I q (by simp))
  | _=>exact absurd (show false=true from c) Zu
 | str i =>
  obtain⟨t,rfl⟩:=d
  cases y with
  | non=>cases a;exact PySem.EqNone.ne_str_none (Bm I q (by simp))
  | bl j=>cases a;exact PySem.EqMixed.ne_str_bool (Bm I q (by simp))
  | int j=>obtain⟨b,rfl⟩:=a;exact PySem.EqMixed.ne_str_int (Bm I q (by simp))
  | str j=>obtain⟨b,rfl⟩:=a;exact ne_str (Bm I q (congrArg not dec_str))
  | _=>exact absurd (show false=true from c) Zu
 | byt i =>
  obtain⟨t,rfl⟩:=d
  cases y with
  | byt j=>obtain⟨b,rfl⟩:=a;exact PySem.W.ne_bytes (Bm I q (congrArg not dec_byt))
  | _=>exact absurd (show false=true from c) Zu
 | _=>cases y <;> exact absurd (show false=true from c) Zu
theorem Jt:OpR X (compareOp .Lt) (rI0 fun i j=>.bl (decide (i<j))):=opB0 fun _ _ _ _ _ _ _ q=>lt_int q
theorem op_le:OpR X (compareOp .LtE) (rI0 fun i j=>.bl (decide (i≤j))):=opB0 fun _ _ _ _ _ _ _ q=>le_int q
theorem Ht:OpR X (compareOp .Gt) (rI0 fun i j=>.bl (decide (j<i))):=opB0 fun _ _ _ _ _ _ _ q=>gt_int q
theorem op_isN:OpR X (compareOp .Is) (fun x y H Q=>y = .non∧Q (.bl (decide (x = .non))) H):=by
 intro b s σ H x y v u Q I a c h
 obtain⟨rfl,q⟩:=h
 cases c
 refine is_none_gen (Bm I q ?_)
 cases x <;> first
  | (cases a;rfl)
  | (obtain⟨t,rfl⟩:=a;rfl)
theorem op_notN:OpR X (compareOp .IsNot) (fun x y H Q=>y = .non∧Q (.bl (!decide (x = .non))) H):=by
 intro b s σ H x y v u Q I a c h
 obtain⟨rfl,q⟩:=h
 cases c
 refine isnot_none_gen (Bm I q ?_)
 cases x <;> first
  | (cases a;rfl)
  | (obtain⟨t,rfl⟩:=a;rfl)
theorem Aq (b:Expr)(h:op ≠ .In:=by decide)(h2:op ≠ .NotIn:=by decide):behindInMarks op b=false:=by
 have c:(op == CmpOp.In)=false:=by cases op <;> first | rfl | exact absurd rfl h
 have a:(op == CmpOp.NotIn)=false:=by cases op <;> first | rfl | exact absurd rfl h2
 cases b <;> simp[behindInMarks,c,a]
theorem C1 (ho:OpR X (compareOp op) r)(ha:PE X a ta)(hb:PE X b tb)(hm:behindInMarks op b=false):PE X (.Compare a [op] [b] pos) (tOp r ta tb):=by
 refine⟨?_⟩
 intro c s σ H Q I h
 exact wpAny_Compare1 (binT ha hb I h fun v u f x y d e g i q=>ho c f σ d x y v u Q e g i q) hm
inductive tTest_ (Q:Bool→Hp→Prop) (x:V) (H' : Hp):Prop
 | mk (k:_) (_:x = .bl k) (_:Q k H')
def tTest (t:TE):TT:=fun σ H Q=>t σ H fun x H'=>tTest_ Q x H'
theorem Ao (ho:OpR X (compareOp op) r)(ha:PE X a ta)(hb:PE X b tb)(hm:behindInMarks op b=false):PT X (.Compare a [op] [b] pos) (tTest (tOp r ta tb)):=by
 refine⟨?_⟩
 intro d s σ H Q I h
 refine wpAny_isTrue_Compare1 (thn (ha d s σ H _ I h) fun v t ⟨x,m,l,B,g⟩=>thn (hb d t σ m _ l g) fun u A ⟨y,q,f,i,o⟩ =>
  thn (ho d A σ q x y v u _ f B i o) fun c C ⟨z,j,w,p,k,e,n⟩=>?_) hm
 subst e
 cases p
 exact Zbb ⟨j,w,n⟩
def TruV (K:PySem.W.Frag)(x:V)(H:Hp)(k:Bool):Prop :=
 match x with
 | .non=>k=false
 | .bl b=>k=b
 | .int i=>k=(i != 0)
 | .str y=>y.length≤sizeLine∧k=((y.length:Int) != 0)
 | .byt y=>y.size≤sizeLine∧k=((y.size:Int) != 0)
 | .ref p=>(∃ xs,SqL K H p xs∧k = !xs.isEmpty)∨(∃ xs,SqT K H p xs∧k = !xs.isEmpty)∨∃ kvs,H p=some (.dK kvs)∧k = !kvs.isEmpty
 | _=>False
theorem isEmpty_kv {κ:Type}{kvs:List (κ×V)}{vs:List (κ×Value)}(r:KV kvs vs):(!vs.isEmpty) = !kvs.isEmpty:=by
 cases r <;> rfl
theorem Ir {xs:List V}{its:List Value}(r:Bi xs its):(!its.toArray.isEmpty) = !xs.isEmpty:=by
 cases r <;> simp
theorem Hb:(sizeLine:Nat)<2 ^ 63:=by rw[sizeLine_eq];decide
theorem tru_ok:TruR X (fun x H Q=>∃ k,TruV X.K x H k∧Q k H):=by
 intro u s σ H x v Q I d h
 obtain⟨k,e,q⟩:=h
 have C:=Hb
 have B:sizeLine=16777216:=sizeLine_eq
 cases x with
 | non =>
  cases d
  have a : k=false:=e
  subst a
  exact truthy_none ⟨H,I,q⟩
 | bl b =>
  cases d
  have a : k=b:=e
  subst a
  exact Zbb ⟨H,I,q⟩
 | int i =>
  obtain⟨t,rfl⟩:=d
  have a : k=(i != 0):=e
  subst a
  exact PySem.P.truthy_int ⟨H,I,q⟩
 | str y =>
  obtain⟨t,rfl⟩:=d
  obtain⟨z,a⟩:y.length≤sizeLine∧k=((y.length:Int) != 0):=e
  subst a
  exact PySem.P.truthy_str (by lia) ⟨H,I.tok _,q⟩
 | byt y =>
  obtain⟨t,rfl⟩:=d
  obtain⟨z,a⟩:y.size≤sizeLine∧k=((y.size:Int) != 0):=e
  subst a
  exact PySem.W.truthy_bytes (by lia) ⟨H,I.tok _,q⟩
 | ref p =>
  cases d
  have a : (∃ c,SqL X.K H p c∧k = !c.isEmpty)∨(∃ c,SqT X.K H p c∧k = !c.isEmpty)∨∃ kvs,H p=some (.dK kvs)∧k = !kvs.isEmpty:=e
  rcases a with ⟨c,g,a⟩ | ⟨c,g,a⟩ | ⟨kvs,g,a⟩
  ·subst a
   obtain⟨o,r,l,n⟩:=I.list g
   have f:=r.length
   exact wpAny_truthy_list l.isList (by simp only[Zh];lia) ⟨H,I.tok _,by rw[Ir r];exact q⟩
  ·subst a
   obtain⟨o,r,l,n⟩:=I.tuple g
   have f:=r.length
   exact truthy_tuple l (by simp only[Zh];lia) ⟨H,I.tok _,by rw[Ir r];exact q⟩
  ·subst a
   obtain⟨n,A,j,r,m⟩:kvs.length≤sizeLine∧(p == sysModules)=false∧∃ j,KV kvs j∧s.heap.DictOf (Bc X.prog X.w) p j:=I.hok p _ g
   have f:kvs.length=j.length:=Paired.length r
   exact wpAny_truthy_dict A m (by lia) ⟨H,I.tok _,by rw[isEmpty_kv r];exact q⟩
 | _=>exact (show False from e).elim
theorem Bw (ha:PE X a ta)(he:∀ whole,isTrue a X.env whole=(do let v ← whole;standAt a.pos;holding [v] (truthy v))) :
  PT X a (fun σ H Q=>ta σ H fun x H'=>∃ k,TruV X.K x H' k∧Q k H'):=by
 refine⟨?_⟩
 intro b s σ H Q I h
 exact isTrue_plain (thn (ha b s σ H _ I h) fun v c ⟨x,g,e,d,f⟩=>tru_ok b c σ g x v Q e d f) (he _)
theorem A7:OpR X (binaryOp .Add) (fun x y H Q=>∃ i j,x = .str i∧y = .str j∧i.length+j.length≤sizeLine∧Q (.str (i++j)) H):=by
 intro a s σ H x y v u Q I b d h
 obtain⟨i,j,rfl,rfl,c,q⟩:=h
 obtain⟨t,rfl⟩:=b
 obtain⟨e,rfl⟩:=d
 exact add_str (fun e f=>⟨.str (i++j),H,I.tok _,⟨_,rfl⟩,q⟩) c
theorem Cs (r:Bi [x] us):∃ u,us=[u]∧Bl x u:=by
 cases r with
 | cons a b=>cases b;exact⟨_,rfl,a⟩
theorem vals2 (r:Bi [x,y] us):∃ u w',us=[u,w']∧Bl x u∧Bl y w':=by
 cases r with
 | cons b d =>
  cases d with
  | cons c a=>cases a;exact⟨_,_,rfl,b,c⟩
theorem Gu:Dd X (.type "int") (fun xs H Q=>(∃ i,xs=[.int i]∧Q (.int i) H)∨∃ k,xs=[.bl k]∧Q (.int (if k then 1 else 0)) H):=by
 intro a s σ H xs c Q I r h
 rcases h with ⟨i,rfl,q⟩ | ⟨k,rfl,q⟩
 ·obtain⟨u,rfl,t,rfl⟩:=Cs r
  exact call_int_int ⟨.int i,H,I,⟨_,rfl⟩,q⟩
 ·obtain⟨u,rfl,b⟩:=Cs r
  cases b
  exact call_int_bool ⟨.int (if k then 1 else 0),H,I.tok _,⟨_,rfl⟩,q⟩
end
end
end L2
namespace L2
noncomputable section
open PySem PySem.Spec PyProof.Rows
structure ObjM (h:Heap) (x dx C:Addr) (mA:Str→Option Value):Prop where
 obj:h.get? x=some (PySem.W.instObj C dx)
 ns:h.Ns1 dx mA
 ne:dx≠x
theorem lookIn_ns {h:Heap}{mA:Str→Option Value}(n:h.Ns1 dx mA):∃ od,h.get? dx=some od∧∀ name,PySem.W.lookIn name od=some (mA name):=by
 obtain⟨o,c,l,f,j,d,_,k⟩:=n
 refine⟨o,f,fun name=>?_⟩
 have e:=k name
 unfold nsFind findBy at e
 rw[← Array.find?_toList] at e
 unfold PySem.W.lookIn
 rw[j]
 dsimp only
 split
 ·rename_i y q
  rw[q] at e
  exact congrArg some e
 ·rename_i q
  rw[q] at e
  have a:c.toList.any (·.refKey)=false:=by
   rw[List.any_eq_false]
   intro y g
   obtain⟨z,t,b⟩:=d y (Array.mem_toList_iff.mp g)
   simp[DictEntry.refKey,b]
  have i : ¬ c.toList.any (·.refKey)=true:=by rw[a];exact Zu
  rw[Zs i]
  exact congrArg some e
theorem ObjM.look {mA:Str→Option Value}(I:ObjM h x dx C mA):∃ od,PySem.W.InstAt h x (PySem.W.instObj C dx) C (some od)∧∀ name,PySem.W.lookIn name od=some (mA name) :=
 let ⟨od,ho,hl⟩:=lookIn_ns I.ns
 ⟨od,⟨I.obj,rfl,rfl,ho⟩,hl⟩
section
variable {prog:Program} {w:World} {A:Around} {E:Value→Shared→Prop} {s:Shared} {K:PySem.W.Frag} {x dx C f:Addr} {mA:Str→Option Value} {name:Str} {v:Value}
theorem get_map {expr:Bool}{Q:Value→Shared→Prop}(X:K.In s.heap)(I:ObjM s.heap x dx C mA)(hg:PySem.W.plainGet K C name=true)(hh:PySem.W.hasDictIn K C=true)(ha:PySem.W.findIn K (.ref C) name=some none)(hv:mA name=some v)(hv' : PySem.W.handedIn v=true)(h:Q v { s with toks:=s.toks+1 }) :
  wpAny (model prog w) A (getAttr (.ref x) name expr) Q E s:=by
 obtain⟨b,J,a⟩:=I.look
 exact PySem.W.get_value X J (PySem.W.plainGet_of hg).1 (PySem.W.findObj_own hh ha rfl (by rw[a,hv])) hv' h
theorem get_meth {Q:Value×List Value→Shared→Prop}(X:K.In s.heap)(I:ObjM s.heap x dx C mA)(hg:PySem.W.plainGet K C name=true)(hf:PySem.W.findIn K (.ref C) name=some (some (.ref f)))(ht:PySem.W.isFn K (.ref f)=true)(hv:mA name=none)(h:Q (.ref f,[.ref x]) s) :
  wpAny (model prog w) A (getMethod (.ref x) name pl) Q E s:=by
 obtain⟨a,J,b⟩:=I.look
 exact PySem.W.method_fn X J (PySem.W.plainGet_of hg).1 (PySem.W.plainGet_of hg).2 hf (Zc1.mp ht) (by show (PySem.W.lookIn name a).map (·.isSome)=some false;rw[b,hv];rfl) h
theorem set_map {ns:List Str}{Q:Unit→Shared→Prop}(X:K.In s.heap)(I:ObjM s.heap x dx C mA)(hs:PySem.W.findIn K (.ref C) "__setattr__" = some (some (.builtin "object.__setattr__")))(hp:PySem.W.plainOver K C=true)(ht:PySem.W.takerIn K C name=some none)(hh:PySem.W.hasDictIn K C=true)(hw:PySem.Within mA ns)(hsz:ns.length≤sizeLine)(h:∀ h',ObjM h' x dx C (fun y=>if y=name then some v else mA y)→Heap.SameBut dx s.heap h'→Q () { s with heap:=h',toks:=s.toks+2 }) :
  wpAny (model prog w) A (setAttr (.ref x) name v) Q E s:=by
 obtain⟨n,J,o⟩:=I.look
 refine PySem.W.set_plain X J hs (PySem.W.osa_open (s:={ s with toks:=s.toks+1 }) (r:=none) X J hp ht fun b=>?_)
 obtain⟨q,j,g⟩:=PySem.W.any_some hh
 have k:s.heap.get? x=some ⟨.ref C,some dx,.plain,#[]⟩:=I.obj
 refine Zb (Zk (Zb (Zb (wpAny_loadPart k (Zb (PySem.W.Looks.here (s:={ s with toks:=s.toks+1 }) (PySem.W.looks_clsIn X j) ?_))))))
 rw[g]
 refine Zk (a:=some dx) (Zb (Zk (Zb ?_)))
 refine wpAny_nsSet1 (s:={ s with toks:=s.toks+1 }) I.ns fun h' c d=>?_
 obtain⟨p,m,l,f,e,i⟩:=c.count (PySem.Within.cons name v hw)
 refine Zb (wpAny_lookBehind f (by rw[e];exact pastItsLine_dict (Zah i (by rw[Zab];lia))) ?_)
 exact Zk (h _ ⟨(d.2 _ (Zdi I.ne)).trans I.obj,c,I.ne⟩ d)
theorem make_map {R:Result→Shared→Prop}(X:K.In s.heap)(hm:PySem.W.makesIn K C=true)(hi:PySem.W.findIn K (.ref C) "__init__" = some (some (.ref f)))(hf:PySem.W.typeIn K (.ref f)=some (.type "function"))(h:codeAny (model prog w) (A.under (.builtin "type.__call__" ⟨.ref C::vs,kw⟩)) (.call (.ref f) ⟨.ref (s.heap.objs.size+1)::vs,kw⟩) (PySem.W.InitBack (s.heap.objs.size+1) R)
   { s with heap:=(s.heap.push PySem.W.emptyDict).push (PySem.W.instObj C s.heap.objs.size) }) :
  codeAny (model prog w) A (.call (.ref C) ⟨vs,kw⟩) R s:=by
 obtain⟨b,g,d,t,c⟩:=s
 exact PySem.W.make_core (PySem.W.makes_of X hm) (PySem.W.looks_findIn X hi) (fun a=>PySem.W.bind_fn X a hf) (.inl rfl) h
end
def Bb (f:Str)(v:V):List (Str×V)→List (Str×V)
 | []=>[(f,v)]
 | (g,x)::r=>if g=f then (g,v)::r else (g,x)::Bb f v r
theorem Gr (f g:Str)(v:V):∀ fs:List (Str×V),(Bb f v fs).lookup g=if g=f then some v else fs.lookup g
 | []=>by
  show List.lookup g [(f,v)]=_
  by_cases h:g=f
  ·have hb:(g == f)=true:=Zc1.mpr h
   simp only[List.lookup,hb,Zw h]
  ·have hb:(g == f)=false:=Zam.mpr h
   simp only[List.lookup,hb,Zs h]
 | (k,x)::r=>by
  have ih:=Gr f g v r
  rw[show Bb f v ((k,x)::r)=(if k=f then (k,v)::r else (k,x)::Bb f v r) from rfl]
  by_cases hk:k=f
  ·rw[Zw hk]
   by_cases h:g=k
   ·have hb:(g == k)=true:=Zc1.mpr h
    simp only[List.lookup,hb,Zw (h.trans hk)]
   ·have hb:(g == k)=false:=Zam.mpr h
    simp only[List.lookup,hb,Zs (fun e:g=f=>h (e.trans hk.symm))]
  ·rw[Zs hk]
   by_cases h:g=k
   ·have hb:(g == k)=true:=Zc1.mpr h
    simp only[List.lookup,hb,Zs (fun e:g=f=>hk (h.symm.trans e))]
   ·have hb:(g == k)=false:=Zam.mpr h
    simp only[List.lookup,hb]
    exact ih
theorem G8 (f:Str)(v:V):∀ fs:List (Str×V),f∈(Bb f v fs).map (·.1)∧∀ g,g∈fs.map (·.1)→g∈(Bb f v fs).map (·.1)
 | []=>⟨by simp[Bb],fun g h=>by simp at h⟩
 | (k,x)::r=>by
  obtain⟨i1,i2⟩:=G8 f v r
  rw[show Bb f v ((k,x)::r)=(if k=f then (k,v)::r else (k,x)::Bb f v r) from rfl]
  by_cases hk:k=f
  ·rw[Zw hk]
   subst hk
   exact⟨by simp,fun g h=>by simpa using h⟩
  ·rw[Zs hk]
   refine⟨?_,fun g h=>?_⟩
   ·rw[Za8]
    exact Zz _ i1
   ·rw[Za8] at h ⊢
    rcases Zr.mp h with e | e
    ·exact Zr.mpr (.inl e)
    ·exact Zz _ (i2 g e)
theorem G5 (f:Str)(v:V):∀ fs:List (Str×V),(Bb f v fs).length≤fs.length+1
 | []=>by simp[Bb]
 | (k,x)::r=>by
  have ih:=G5 f v r
  rw[show Bb f v ((k,x)::r)=(if k=f then (k,v)::r else (k,x)::Bb f v r) from rfl]
  by_cases hk:k=f
  ·rw[Zw hk,Zab,Zab];lia
  ·rw[Zs hk,Zab,Zab];lia
theorem RelO.some_of (r:RelO (some v) o):∃ u,o=some u∧Bl v u:=by
 cases o with
 | none=>exact (show False from r).elim
 | some u=>exact⟨u,rfl,r⟩
theorem RelO.none_of (r:RelO none o):o=none:=by
 cases o with
 | none=>rfl
 | some u=>exact (show False from r).elim
theorem handed_of (r:Bl v u):PySem.W.handedIn u=true:=by
 cases v with
 | non=>cases (show u=Value.none from r);rfl
 | bl b=>cases (show u=Value.bool b from r);rfl
 | int i=>obtain⟨t,e⟩:=(show ∃ t,u=Value.int i t from r);cases e;rfl
 | str x=>obtain⟨t,e⟩:=(show ∃ t,u=Value.str x t from r);cases e;rfl
 | byt b=>obtain⟨t,e⟩:=(show ∃ t,u=Value.bytes b t from r);cases e;rfl
 | flt b=>obtain⟨t,e⟩:=(show ∃ t,u=Value.float b t from r);cases e;rfl
 | ref a=>cases (show u=Value.ref a from r);rfl
 | ty n=>cases (show u=Value.type n from r);rfl
section
variable {P:Program} {w:World} {H H' : Hp} {h h' : Heap} {a C dx:Addr} {fs fs' : List (Str×V)}
theorem Jy (hok:HOk P w H h)(e:H a=some (.ins C dx fs)):∃ mA,ObjM h a dx C mA∧(∀ f,RelO (fs.lookup f) (mA f))∧PySem.Within mA (fs.map (·.1))∧fs.length≤1000∧H dx=some (.own a):=by
 obtain⟨d,z,ne,ob,mA,n,r,q⟩:=(show Cb P w H h a (.ins C dx fs) from hok a _ e)
 exact⟨mA,⟨ob,n,ne⟩,r,q,z,d⟩
end
structure Cls (K:PySem.W.Frag) (C:Addr):Prop where
 pg:PySem.W.plainGet K C Str.empty=true
 hd:PySem.W.hasDictIn K C=true
 po:PySem.W.plainOver K C=true
 sa:PySem.W.findIn K (.ref C) "__setattr__" = some (some (.builtin "object.__setattr__"))
theorem Cls.get {K:PySem.W.Frag}{C:Addr}(c:Cls K C)(f:Str):PySem.W.plainGet K C f=true:=c.pg
def Ce (K:PySem.W.Frag)(C:Addr)(f:Str):Prop:=PySem.W.findIn K (.ref C) f=some none
theorem Ce.taker {K:PySem.W.Frag}{C:Addr}{f:Str}(n:Ce K C f):PySem.W.takerIn K C f=some none:=by
 unfold PySem.W.takerIn
 rw[show PySem.W.findIn K (.ref C) f=some none from n]
 rfl
structure Meth (K:PySem.W.Frag) (C:Addr) (m:Str) (f:Addr):Prop where
 at_:PySem.W.findIn K (.ref C) m=some (some (.ref f))
 fn:PySem.W.isFn K (.ref f)=true
 kp:PySem.W.keepIn K (.ref f)=true
section
variable {X:Cx} {pins:List (Addr×Obj)} {σ:St} {H:Hp} {s:Shared} {a C dx:Addr} {fs:List (Str×V)} {f:Str} {v:V} {A:Around} {E:Value→Shared→Prop}
theorem Hz {b:Bool}{Q:Value→Shared→Prop}(I:Inv X pins σ H s)(e:H a=some (.ins C dx fs))(c:Cls X.K C)(n:Ce X.K C f)(l:fs.lookup f=some v)(h:∀ u s',Inv X pins σ H s'→Bl v u→Q u s'):wpAny (model X.prog X.w) A (getAttr (.ref a) f b) Q E s:=by
 obtain⟨i,O,r,_,_,_⟩:=Jy I.hok e
 obtain⟨u,g,d⟩:=RelO.some_of (v:=v) (o:=i f) (by rw[← l];exact r f)
 exact get_map I.kIn O (c.get f) c.hd n g (handed_of d) (h u _ (I.tok _) d)
theorem Io {m:Str}{Q:Value×List Value→Shared→Prop}(I:Inv X pins σ H s)(e:H a=some (.ins C dx fs))(c:Cls X.K C)(k:Meth X.K C m g)(l:fs.lookup m=none)(h:Q (.ref g,[.ref a]) s):wpAny (model X.prog X.w) A (getMethod (.ref a) m pl) Q E s:=by
 obtain⟨d,O,r,_,_,_⟩:=Jy I.hok e
 have b:d m=none:=RelO.none_of (by rw[← l];exact r m)
 exact get_meth I.kIn O (c.get m) k.at_ k.fn b h
theorem Ip {Q:Unit→Shared→Prop}(I:Inv X pins σ H s)(e:H a=some (.ins C dx fs))(c:Cls X.K C)(n:Ce X.K C f)(hl:fs.length<1000)(ry:Bl y u)(h:∀ s',Inv X pins σ (upd H a (.ins C dx (Bb f y fs))) s'→Q () s'):wpAny (model X.prog X.w) A (setAttr (.ref a) f u) Q E s:=by
 obtain⟨k,O,r,i,_,j⟩:=Jy I.hok e
 have m:(fs.map (·.1)).length≤sizeLine:=by rw[Zl,sizeLine_eq];lia
 refine set_map I.kIn O c.sa c.po n.taker c.hd i m fun t d v=>h _ ?_
 have p:∃ o,t.get? dx=some o:=let ⟨o,_,_,e',_⟩:=d.ns;⟨o,e'⟩
 refine I.write (x:=a) (e:=dx) (by rw[e];exact True.intro) (.inr j) (fun b q l z=>(v.2 b l).trans z) p ?_
 refine⟨by rw[Ai O.ne];exact j,?_,O.ne,d.obj,_,d.ns,fun g=>?_,fun g B=>?_⟩
 ·have:=G5 f y fs;lia
 ·show RelO ((Bb f y fs).lookup g) (if g=f then some u else k g)
  rw[Gr]
  by_cases q:g=f
  ·rw[Zw q,Zw q];exact ry
  ·rw[Zs q,Zs q];exact r g
 ·by_cases q:g=f
  ·rw[q];exact (G8 f y fs).1
  ·refine (G8 f y fs).2 g (i g fun z=>B ?_)
   show (if g=f then some u else k g)=none
   rw[Zs q];exact z
theorem Inv.made (I:Inv X pins σ H s):Inv X pins σ (upd (upd H s.heap.objs.size (.own (s.heap.objs.size+1))) (s.heap.objs.size+1) (.ins C s.heap.objs.size []))
  { s with heap:=(s.heap.push PySem.W.emptyDict).push (PySem.W.instObj C s.heap.objs.size) }:=by
 have c:(s.heap.push PySem.W.emptyDict).get? s.heap.objs.size=some PySem.W.emptyDict:=Zn s.heap rfl
 have i:((s.heap.push PySem.W.emptyDict).push (PySem.W.instObj C s.heap.objs.size)).get? (s.heap.objs.size+1)=some (PySem.W.instObj C s.heap.objs.size):=by
  have:=Zn (s.heap.push PySem.W.emptyDict) (o:=PySem.W.instObj C s.heap.objs.size) rfl
  rwa [Za1] at this
 have g:(s.heap.push PySem.W.emptyDict).Ns s.heap.objs.size (fun _=>none):=⟨PySem.W.emptyDict,#[],_,c,rfl,(fun e f=>absurd f (by simp)),fun _=>rfl⟩
 have h:=I.laid (a:=s.heap.objs.size) (o:=.own (s.heap.objs.size+1)) (h':=s.heap.push PySem.W.emptyDict) (t':=s.toks) (fun b u q=>Zc _ q) (Zd _) ⟨_,c⟩
 refine h.laid (a:=s.heap.objs.size+1) (o:=.ins C s.heap.objs.size []) (t':=s.toks) (fun b u q=>Zc _ q) (Nat.le_of_eq (Za1 _ _)) ?_
 have ne:s.heap.objs.size≠s.heap.objs.size+1:=Z5 (Zbk _)
 refine⟨by rw[Ai ne,upd_same],Zt _,ne,i,fun _=>none,(Heap.Ns1.of_empty g).at fun o q=>Zc _ q,fun _=>True.intro,fun y d=>absurd rfl d⟩
theorem attr_of {f:Str}{Q:Value→Shared→Prop}(hb:attributeBase e f env (eval e env)=eval e env)(h:wpAny (model prog w) A (eval e env) (fun o s₁=>wpAny (model prog w) A (getAttr o f true) Q E s₁) E s):wpAny (model prog w) A (eval (.Attribute e f pos) env) Q E s :=
 Attribute_any_ h (by rw[arm_eval_Attribute,hb])
end
inductive tFld_ (K:PySem.W.Frag) (f:Str) (Q:VK) (x:V) (H1:Hp):Prop
 | mk (a C dx fs v:_) (_:x = .ref a) (_:H1 a=some (.ins C dx fs)) (_:Cls K C) (_:Ce K C f) (_:fs.lookup f=some v) (_:Q v H1)
def tFld (K:PySem.W.Frag)(ta:TE)(f:Str):TE:=fun σ H Q=>ta σ H fun x H1=>tFld_ K f Q x H1
def sFld (K:PySem.W.Frag)(ta tv:TE)(f:Str):TS:=fun D σ H=>tv σ H fun y H1=>ta σ H1 fun x H2=>∃ a C dx fs,x = .ref a∧H2 a=some (.ins C dx fs)∧Cls K C∧Ce K C f∧fs.length<1000 ∧
 D.nx σ (upd H2 a (.ins C dx (Bb f y fs)))
def InOp (X:Cx)(op:Operator)(rd:V→V→Hp→VK→Prop):Prop :=
 ∀ (pins:List (Addr×Obj)) (s:Shared) (σ:St) (H:Hp) (x y:V) (u v:Value) (Q:VK),Inv X pins σ H s→Bl x u→Bl y v→rd x y H Q→wpAny (model X.prog X.w) X.A (inplaceOp op u v) (EP X pins σ Q) X.xe s
def sFldAug (K:PySem.W.Frag)(ta tv:TE)(rd:V→V→Hp→VK→Prop)(f:Str):TS:=fun D σ H=>ta σ H fun x H1=>∃ a C dx fs v,x = .ref a∧H1 a=some (.ins C dx fs)∧Cls K C∧Ce K C f∧fs.lookup f=some v ∧
 tv σ H1 fun y H2=>rd v y H2 fun z H3=>∃ dx' fs',H3 a=some (.ins C dx' fs')∧fs'.length<1000∧D.nx σ (upd H3 a (.ins C dx' (Bb f z fs')))
section
variable {X:Cx} {o e value:Expr} {f:Str} {pos pos' tpos:Pos} {ta tv:TE}
theorem Bh (he:PE X e ta)(hb:attributeBase e f X.env (eval e X.env)=eval e X.env):PE X (.Attribute e f pos) (tFld X.K ta f):=by
 refine⟨?_⟩
 intro b s σ H Q I h
 refine attr_of hb (thn (he b s σ H _ I h) fun u t d=>?_)
 obtain⟨x,m,k,j,a,C,y,fs,v,i,o,c,n,l,q⟩:=d
 subst i
 obtain rfl:u=Value.ref a:=j
 exact Hz k o c n l fun r w g p=>⟨v,m,g,p,q⟩
theorem Ct (ha:PE X o ta)(hv:PE X value tv)(hs:swapsWith value (some (.Attribute o f pos')) pos.line X.env=pure false):PS X (.Assign [.Attribute o f pos'] value pos) (sFld X.K ta tv f):=by
 refine⟨?_⟩
 intro b s σ H D I h
 refine plainObj_wpAny_Assign_Attribute (thn (hv b s σ H _ I h) fun u v ⟨y,k,m,r,q⟩=>thn (ha b v σ k _ m q) fun g B d=>?_) hs
 obtain⟨x,z,e,j,a,C,E,fs,i,t,c,n,l,p⟩:=d
 subst i
 obtain rfl:g=Value.ref a:=j
 exact Ip e t c n l r fun A w=>⟨σ,_,w,p⟩
theorem Es {rd:V→V→Hp→VK→Prop}(ha:PE X o ta)(hv:PE X value tv)(hop:InOp X op rd):PS X (.AugAssign (.Attribute o f tpos) op value pos) (sFldAug X.K ta tv rd f):=by
 refine⟨?_⟩
 intro b s σ H D I h
 refine wpAny_AugAssign_AttributeAny (thn (ha b s σ H _ I h) fun k Y d=>?_)
 obtain⟨x,A,B,r,a,C,Z,fs,v,p,G,c,n,l,q⟩:=d
 subst p
 obtain rfl:k=Value.ref a:=r
 refine Hz B G c n l fun u N g P=>thn (hv b N σ A _ g q) fun i L ⟨y,J,M,F,w⟩=>thn (hop b L σ J v y u i _ M P F w) fun S T d=>?_
 obtain⟨z,U,O,t,Q,R,e,j,E⟩:=d
 exact Ip O e c n j t fun W m=>⟨σ,_,m,E⟩
inductive rAdd (x y:V) (H:Hp) (Q:VK):Prop
 | mk (i j:_) (_:x = .int i) (_:y = .int j) (_:Q (.int (i+j)) H)
theorem in_add:InOp X .Add rAdd:=by
 rintro b s σ H x y u v Q I c d ⟨i,j,rfl,rfl,q⟩
 obtain⟨t,rfl⟩:=(show ∃ t,u=Value.int i t from c)
 obtain⟨a,rfl⟩:=(show ∃ a,v=Value.int j a from d)
 exact PyProof.Rows.iadd_int ⟨.int (i+j),H,I.tok _,⟨_,rfl⟩,q⟩
end
section
variable {X:Cx} {pins:List (Addr×Obj)} {σ:St} {H:Hp} {s:Shared} {A:Around} {E:Value→Shared→Prop} {Q:Value→Shared→Prop} {c:Value} {b:Bool}
inductive TyOf (K:PySem.W.Frag) (H:Hp):V→Value→Prop where
 | non:TyOf K H .non (.type "NoneType")
 | bl (x:Bool):TyOf K H (.bl x) (.type "bool")
 | int (i:Int):TyOf K H (.int i) (.type "int")
 | str (x:Str):TyOf K H (.str x) (.type "str")
 | flt (x:UInt64):TyOf K H (.flt x) (.type "float")
 | lst {a:Addr} {xs:List V} (e:H a=some (.lst xs)):TyOf K H (.ref a) (.type "list")
 | frz {a:Addr} {o:Obj} {xs:List V} (e:H a=some (.frz o (.lst xs))):TyOf K H (.ref a) (.type "list")
 | tup {a:Addr} {xs:List V} (e:H a=some (.tup xs)):TyOf K H (.ref a) (.type "tuple")
 | dK {a:Addr} {kvs:List (Key×V)} (e:H a=some (.dK kvs)):TyOf K H (.ref a) (.type "dict")
 | dT {a:Addr} {kvs:List (List Key×V)} (e:H a=some (.dT kvs)):TyOf K H (.ref a) (.type "dict")
 | ins {a C dx:Addr} {fs:List (Str×V)} (e:H a=some (.ins C dx fs)) (cl:Cls K C) (ha:PySem.W.findIn K (.ref C) "__class__" = some (some (.builtin "object.__class__")))
   (hn:PySem.W.specialIn K (.builtin "object.__class__") "__get__" = some (some (.builtin "getset_descriptor.__get__"))) (htk:PySem.W.takesIn K (.builtin "object.__class__")=some true)
   (hm:PySem.W.mroIn K C (.type "object")=some true):TyOf K H (.ref a) (.ref C)
theorem G4 {u t:Value}(I:Inv X pins σ H s)(rx:Bl x u)(ty:TyOf X.K H x t)(e:PySem.W.kitOne X.K t c=some b)(h:∀ tk,Q (.bool b) { s with toks:=tk }) :
  wpAny (model X.prog X.w) A (call (.builtin "isinstance") [u,c]) Q E s:=by
 cases ty with
 | non=>cases (show u=Value.none from rx);exact Za5 PySem.W.kitx_none I.kIn True.intro e (fun z=>nomatch z) h
 | bl y=>cases (show u=Value.bool y from rx);exact Za5 PySem.W.kitx_bool I.kIn True.intro e (fun z=>nomatch z) h
 | int i=>obtain⟨t,q⟩:=(show ∃ t,u=Value.int i t from rx);cases q;exact Za5 PySem.W.kitx_int I.kIn True.intro e (fun z=>nomatch z) h
 | str y=>obtain⟨t,q⟩:=(show ∃ t,u=Value.str y t from rx);cases q;exact Za5 PySem.W.kitx_str I.kIn True.intro e (fun z=>nomatch z) h
 | flt y=>obtain⟨t,q⟩:=(show ∃ t,u=Value.float y t from rx);cases q;exact Za5 PySem.W.kitx_float I.kIn True.intro e (fun z=>nomatch z) h
 | @lst a g d =>
  cases (show u=Value.ref a from rx)
  obtain⟨_,_,n,_,f⟩:=(show Cb X.prog X.w H s.heap a (.lst g) from I.hok a _ d)
  exact Za5 PySem.W.kitx_list I.kIn ⟨_,f,rfl⟩ e (fun z=>nomatch z) h
 | @frz a ob g d =>
  cases (show u=Value.ref a from rx)
  obtain⟨_,_,_,n,_,f⟩:=(show Cb X.prog X.w H s.heap a (.frz ob (.lst g)) from I.hok a _ d)
  exact Za5 PySem.W.kitx_list I.kIn ⟨_,f,rfl⟩ e (fun z=>nomatch z) h
 | @tup a g d =>
  cases (show u=Value.ref a from rx)
  obtain⟨_,_,_,p⟩:=(show Cb X.prog X.w H s.heap a (.tup g) from I.hok a _ d)
  obtain⟨o,f,j,_⟩:=p
  exact Za5 PySem.W.kitx_tuple I.kIn ⟨o,f,j⟩ e (fun z=>nomatch z) h
 | @dK a kvs d =>
  cases (show u=Value.ref a from rx)
  obtain⟨_,_,G,_,p⟩:=(show Cb X.prog X.w H s.heap a (.dK kvs) from I.hok a _ d)
  obtain⟨o,B,v,f,j,_⟩:=p
  exact Za5 PySem.W.kitx_dict I.kIn ⟨o,f,j.1⟩ e (fun z=>nomatch z) h
 | @dT a kvs d =>
  cases (show u=Value.ref a from rx)
  obtain⟨_,_,g,_,o,B,v,f,j,_⟩:=(show Cb X.prog X.w H s.heap a (.dT kvs) from I.hok a _ d)
  exact Za5 PySem.W.kitx_dict I.kIn ⟨o,f,j.1⟩ e (fun z=>nomatch z) h
 | @ins a C M fs d l m D k r =>
  cases (show u=Value.ref a from rx)
  obtain⟨F,O,_⟩:=Jy I.hok d
  obtain⟨L,J,_⟩:=O.look
  exact Za5 (PySem.W.kitx_own (l.get _) l.hd m D k r) I.kIn J e (fun z=>nomatch z) h
end
end
end L2
namespace L2
noncomputable section
open PySem PySem.Spec PyProof.Rows
structure Room (k:Nat) (A:Around):Prop where
 hd:A.handled=none
 dp:A.depth+3 * k+5<recursionLimit
 un:A.units+16 * k+200<cLine
theorem Room.mono {j k:Nat}(r:Room k A)(h:j≤k):Room j A:=⟨r.hd,by have:=r.dp;lia,by have:=r.un;lia⟩
theorem Room.deeper {k:Nat}{A:Around}(r:Room (k+1) A)(env:Env):Room k (A.deeper env) :=
 ⟨r.hd,by have:=r.dp;show A.depth+1+3 * k+5<_;lia,by have:=r.un;show A.units+3+16 * k+200<_;lia⟩
theorem make_depth {A:Around}:(A.under (.builtin "type.__call__" ⟨.ref C::us,kw⟩)).depth=A.depth+1:=by
 first | rfl | simp[Around.under,Code.weight,Code.isCreation,Code.isGuard,Code.isCaller,Code.frames,Code.isFrame,guardIds]
theorem make_units {A:Around}:(A.under (.builtin "type.__call__" ⟨.ref C::us,kw⟩)).units=A.units+1:=by
 first | rfl | simp[Around.under,Code.cUnits,Code.frames,Code.isFrame]
theorem Room.make {k:Nat}{A:Around}(r:Room (k+1) A)(C:Addr)(us:List Value)(kw:List (Str×Value)):Room k (A.under (.builtin "type.__call__" ⟨.ref C::us,kw⟩)) :=
 ⟨r.hd,by have:=r.dp;rw[make_depth];lia,by have:=r.un;rw[make_units];lia⟩
theorem Room.depth {k:Nat}{A:Around}(r:Room k A):A.depth<recursionLimit:=by have:=r.dp;lia
theorem Room.units {k:Nat}{A:Around}(r:Room k A):A.units+64<cLine:=by have:=r.un;lia
theorem Room.units0 {k:Nat}{A:Around}(r:Room k A):A.units<cLine:=by have:=r.un;lia
def tNil:TA:=fun _ H Q=>Q [] H
def tCons (ta:TE)(tr:TA):TA:=fun σ H Q=>ta σ H fun x H1=>tr σ H1 fun xs H2=>Q (x::xs) H2
section
variable {X:Cx} {e:Expr} {es:List Expr} {te:TE} {t:TA} {pos:Pos}
theorem Ac:PA X [] tNil:=⟨fun _ _ _ _ H Q I h=>Zdd ⟨[],H,I,.nil,h⟩⟩
theorem Aa (ha:PE X e te)(hr:PA X es t)(hs:starEach (e::es) X.env=(false,eval e X.env)::starEach es X.env:=by rfl):PA X (e::es) (tCons te t):=by
 refine⟨?_⟩
 intro b a s σ H Q I h
 rw[hs]
 show wpAny _ _ (spliced ((false,eval e X.env)::backTo b (starEach es X.env))) _ _ s
 refine Zb1 (thn (ha a s σ H _ I h) fun u m c=>?_)
 obtain⟨x,j,i,n,f⟩:=c
 exact thn (hr b a m σ j _ i f) fun p q ⟨o,l,d,g,k⟩=>⟨x::o,l,d,.cons n g,k⟩
def tTup (t:TA):TE:=fun σ H Q=>t σ H fun xs H1=>xs.length≤sizeLine∧∀ p,H1 p=none→Q (.ref p) (upd H1 p (.tup xs))
def tLst (t:TA):TE:=fun σ H Q=>t σ H fun xs H1=>xs.length≤sizeLine∧∀ p,H1 p=none→Q (.ref p) (upd H1 p (.lst xs))
theorem Bg {x1}(h:PA X es t):PE X (.Tuple es x1 pos) (tTup t):=by
 refine⟨?_⟩
 intro c s σ H Q I k
 refine wpAny_Tuple_spliced (thn (h pos c s σ H _ I k) fun g a ⟨j,f,d,r,z,q⟩=>⟨by rw[← r.length];exact z,?_⟩)
 have i:f a.heap.objs.size=none:=d.hok.fresh (Zd _)
 refine⟨.ref a.heap.objs.size,upd f a.heap.objs.size (.tup j),d.laid (t':=a.toks) (fun b u e=>Zc _ e) (Zd _) ?_,rfl,q _ i⟩
 exact⟨z,g,r,⟨_,Zn _ rfl,rfl,_,rfl⟩⟩
theorem Bp (h:PA X es t):PE X (.List es pos) (tLst t):=by
 refine⟨?_⟩
 intro c s σ H Q I k
 refine wpAny_List_spliced (thn (h pos c s σ H _ I k) fun g a ⟨j,f,d,r,z,q⟩=>⟨by rw[← r.length];exact z,?_⟩)
 have i:f a.heap.objs.size=none:=d.hok.fresh (Zd _)
 refine⟨.ref a.heap.objs.size,upd f a.heap.objs.size (.lst j),d.laid (t':=a.toks) (fun b u e=>Zc _ e) (Zd _) ?_,rfl,q _ i⟩
 exact⟨z,g,0,r,Zn _ rfl⟩
end
abbrev Sp:=List V→Hp→VK→XK→Prop
abbrev CXT:=List Env→Hp→Shared→XK→Value→Shared→Prop
structure Env0 (P:Program) (w:World) (K:PySem.W.Frag) (mg:Str→Option Value) (base:Heap) (A:Around) (outer:List Env) (s:Shared) (H:Hp):Prop where
 frames:A.frames=some outer
 mod:Mod K mg base
 bs:∀ b o,base.get? b=some o→s.heap.get? b=some o∧H b=none
 bsz:base.objs.size≤s.heap.objs.size
 funs:s.heap.FunFrames base outer
 frf:∀ b∈frs outer,H b=none
 hok:HOk P w H s.heap
 bare:AllBare s.gens
def CE (outer:List Env)(P:Program)(w:World)(H:Hp)(s:Shared)(Q:VK)(u:Value)(s' : Shared):Prop :=
 ∃ v H',s'.os=s.os∧AllBare s'.gens∧Un (frs outer) [] H H' s.heap s'.heap∧HOk P w H' s'.heap∧Bl v u∧Q v H'
def CR (CX:CXT)(outer:List Env)(P:Program)(w:World)(H:Hp)(s:Shared)(Q:VK)(E:XK)(r:Result)(s' : Shared):Prop :=
 match r with
 | .ok (.ret u)=>CE outer P w H s Q u s'
 | .ok _=>False
 | .error e=>CX outer H s E e s'
structure FnOk (P:Program) (w:World) (K:PySem.W.Frag) (mg:Str→Option Value) (base:Heap) (CX:CXT) (k:Nat) (f:Addr) (fd:FuncData) (ps:List Str) (sp:Sp):Prop where
 len:∀ vs H Q E,sp vs H Q E→vs.length=ps.length
 run:∀ (A:Around) (outer:List Env) (s:Shared) (H:Hp) (args:Args) (us:List Value) (vs:List V) (Q:VK) (E:XK),Room k A→Env0 P w K mg base A outer s H→BindsTo s fd args (ps.zip us)→Bi vs us→sp vs H Q E →
  codeAny (model P w) A (.call (.ref f) args) (CR CX outer P w H s Q E) s
theorem Env0.make {P:Program}{w:World}{K:PySem.W.Frag}{mg:Str→Option Value}{base:Heap}{A:Around}{outer:List Env}{s:Shared}{H:Hp}(e:Env0 P w K mg base A outer s H)(C:Addr)(us:List Value)(kw:List (Str×Value)) :
  Env0 P w K mg base (A.under (.builtin "type.__call__" ⟨.ref C::us,kw⟩)) outer s H:=⟨by first | exact e.frames | (simpa [Around.under,Code.envs,Code.isFrame,pushEnvs] using e.frames),e.mod,e.bs,e.bsz,e.funs,e.frf,e.hok,e.bare⟩
section
variable {X:Cx} {pins:List (Addr×Obj)} {σ:St} {H:Hp} {s s' : Shared}
theorem Inv.env0 (I:Inv X pins σ H s):Env0 X.prog X.w X.K X.mg X.base X.A X.stack s H :=
 ⟨I.ok.frames,I.ok.mod,I.bs,Zah I.ok.bsz I.sz,I.stack,I.stkFree,I.hok,I.bare⟩
theorem Inv.after (I:Inv X pins σ H s)(h:CE X.stack X.prog X.w H s Q u s'):EP X pins σ Q u s':=by
 obtain⟨v,f,j,a,un,e,r,q⟩:=h
 obtain⟨i,g,d,t,c⟩:=s'
 obtain rfl:c=s.os:=j
 exact⟨v,f,I.call (h':=i) (g':=g) (d':=d) (t':=t) (ch:=[]) un e a (fun b z=>absurd z (by simp)),r,q⟩
end
def tCall (sp:Sp)(dvs:List V)(E:XK)(t:TA):TE:=fun σ H Q=>t σ H fun vs H1=>sp (vs++dvs) H1 Q E
inductive tMeth_ (C:Addr) (m:Str) (sp:Sp) (dvs:List V) (E:XK) (t:TA) (σ:L2.St) (Q:VK) (x:V) (H1:Hp):Prop
 | mk (a dx fs:_) (_:x = .ref a) (_:H1 a=some (.ins C dx fs)) (_:fs.lookup m=none) (_:t σ H1 fun vs H2=>sp (x::(vs++dvs)) H2 Q E)
def tMeth (C:Addr)(m:Str)(sp:Sp)(dvs:List V)(E:XK)(ta:TE)(t:TA):TE:=fun σ H Q=>ta σ H fun x H1=>tMeth_ C m sp dvs E t σ Q x H1
def tMake (C:Addr)(sp:Sp)(dvs:List V)(E:XK)(t:TA):TE:=fun σ H Q=>t σ H fun vs H1=>∀ x dx,H1 x=none→H1 dx=none→dx≠x →
 sp (.ref x::(vs++dvs)) (upd (upd H1 dx (.own x)) x (.ins C dx [])) (fun v H2=>v = .non∧Q (.ref x) H2) E
def Da (K:PySem.W.Frag)(fd:FuncData)(ps:List Str)(ds:List Value):Prop :=
 ∀ (s:Shared) (us:List Value),K.In s.heap→(us++ds).length=ps.length→BindsTo s fd ⟨us,[]⟩ (ps.zip (us++ds))
theorem Da.all {K:PySem.W.Frag}{fd:FuncData}{ps:List Str}(h:∀ us:List Value,us.length=ps.length→bindArgs fd ⟨us,[]⟩=pure (ps.zip us)):Da K fd ps []:=fun s us _ a=>by
 rw[Zbr] at a ⊢
 exact .of_eq (h us a)
def Dk (CX:CXT)(X:Cx)(E:XK):Prop:=∀ (pins:List (Addr×Obj)) (σ:St) (H:Hp) (s:Shared) (e:Value) (s' : Shared),Inv X pins σ H s→CX X.stack H s E e s'→X.xe e s'
section
variable {X:Cx} {CX:CXT} {k:Nat} {f C:Addr} {fd:FuncData} {ps:List Str} {sp:Sp} {dvs:List V} {ds:List Value} {E:XK} {x m:Str} {p pos apos:Pos} {e o:Expr} {es:List Expr} {ta:TE} {t:TA}
theorem run_fn {H:Hp}(F:FnOk X.prog X.w X.K X.mg X.base CX k f fd ps sp)(hr:Room k X.A)(hb:Da X.K fd ps ds)(hd:Bi dvs ds)(hx:Dk CX X E)(I:Inv X pins σ H s)(r:Bi vs us)(h:sp (vs++dvs) H Q E):wpAny (model X.prog X.w) X.A (call (.ref f) us) (EP X pins σ Q) X.xe s:=by
 have b:Bi (vs++dvs) (us++ds):=r.append hd
 have d:(us++ds).length=ps.length:=by rw[← b.length];exact F.len _ _ _ _ h
 refine wpAny_call (codeAny_mono (F.run X.A X.stack s H ⟨us,[]⟩ (us++ds) (vs++dvs) Q E hr I.env0 (hb s us I.kIn d) b h) fun r c a=>?_)
 cases r with
 | error e=>exact hx pins σ H s e c I a
 | ok g =>
  cases g with
  | ret u=>exact I.after a
  | next=>exact False.elim a
  | brk=>exact False.elim a
  | cont=>exact False.elim a
theorem pe_call (F:FnOk X.prog X.w X.K X.mg X.base CX k f fd ps sp)(hr:Room k X.A)(hg:Gl X x)(hm:X.mg x=some (.ref f))(hk:PySem.W.keepIn X.K (.ref f)=true)(hb:Da X.K fd ps ds)(hd:Bi dvs ds)(hx:Dk CX X E)(ha:PA X (e::es) t)(hdb:(x == ("__debug__" : Str))=false:=by decide)(he:starEach (e::es) X.env=(false,eval e X.env)::starEach es X.env:=by rfl)(hpl:(backTo pos (starEach es X.env)).any (·.1)=false:=by rfl) :
  PE X (.Call (.Name x p) (e::es) [] pos) (tCall sp dvs E t):=by
 refine⟨?_⟩
 intro a s σ H Q I h
 refine Zbg (Jg I hg hm ?_ hdb)
 refine PySem.W.callWith_K (h₀:=X.base) I.ok.mod.kin hk (thn (ha pos a s σ H _ I h) fun i c ⟨g,d,b,r,q⟩=>⟨b.kIn,?_⟩) he hpl
 exact run_fn F hr hb hd hx b r q
theorem pe_call0 (F:FnOk X.prog X.w X.K X.mg X.base CX k f fd ps sp)(hr:Room k X.A)(hg:Gl X x)(hm:X.mg x=some (.ref f))(hk:PySem.W.keepIn X.K (.ref f)=true)(hb:Da X.K fd ps ds)(hd:Bi dvs ds)(hx:Dk CX X E)(hdb:(x == ("__debug__" : Str))=false:=by decide):PE X (.Call (.Name x p) [] [] pos) (tCall sp dvs E tNil):=by
 refine⟨?_⟩
 intro a s σ H Q I h
 refine Zbg (Jg I hg hm ?_ hdb)
 exact PySem.W.callWith_K0 I.kIn hk (run_fn (us:=[]) F hr hb hd hx I .nil h)
theorem pe_meth (he:PE X o ta)(c:Cls X.K C)(hm:Meth X.K C m f)(F:FnOk X.prog X.w X.K X.mg X.base CX k f fd ps sp)(hr:Room k X.A)(hb:Da X.K fd ps ds)(hd:Bi dvs ds)(hx:Dk CX X E)(ha:PA X (e::es) t)(hst:starEach (e::es) X.env=(false,eval e X.env)::starEach es X.env:=by rfl)(hpl:(backTo pos (starEach es X.env)).any (·.1)=false:=by rfl)(ht:eval (.Call (.Attribute o m apos) (e::es) [] pos) X.env=(do
   let ov ← eval o X.env
   standAt apos.atName
   let (f,first) ← holding [ov] (getMethod ov m pl)
   callWith pos f first (backTo pos (starEach (e::es) X.env)) (backToKw pos (keywordEach [] X.env))):=by rfl) :
  PE X (.Call (.Attribute o m apos) (e::es) [] pos) (tMeth C m sp dvs E ta t):=by
 refine⟨?_⟩
 intro b s σ H Q I h
 refine PySem.W.methodCall_KW (pl:=pl) (thn (he b s σ H _ I h) fun u z d=>?_) ht
 obtain⟨x,p,i,n,a,G,fs,j,y,l,q⟩:=d
 subst j
 obtain rfl:u=Value.ref a:=n
 refine Io i y c hm l ?_
 refine PySem.W.callWith_K (first:=[.ref a]) (h₀:=X.base) I.ok.mod.kin hm.kp (thn (ha pos b z σ p _ i q) fun us D ⟨vs,B,g,r,v⟩=>⟨g.kIn,?_⟩) hst hpl
 exact run_fn (us:=.ref a::us) (vs:=.ref a::vs) F hr hb hd hx g (.cons rfl r) v
theorem pe_meth0 (he:PE X o ta)(c:Cls X.K C)(hm:Meth X.K C m f)(F:FnOk X.prog X.w X.K X.mg X.base CX k f fd ps sp)(hr:Room k X.A)(hb:Da X.K fd ps ds)(hd:Bi dvs ds)(hx:Dk CX X E)(ht:eval (.Call (.Attribute o m apos) [] [] pos) X.env=(do
   let ov ← eval o X.env
   standAt apos.atName
   let (f,first) ← holding [ov] (getMethod ov m pl)
   callWith pos f first (backTo pos (starEach [] X.env)) (backToKw pos (keywordEach [] X.env))):=by rfl) :
  PE X (.Call (.Attribute o m apos) [] [] pos) (tMeth C m sp dvs E ta tNil):=by
 refine⟨?_⟩
 intro b s σ H Q I h
 refine PySem.W.methodCall_KW (pl:=pl) (thn (he b s σ H _ I h) fun u p e=>?_) ht
 obtain⟨x,n,d,i,a,r,fs,g,j,l,q⟩:=e
 subst g
 obtain rfl:u=Value.ref a:=i
 refine Io d j c hm l ?_
 exact PySem.W.callWith_K0 (first:=[.ref a]) d.kIn hm.kp (run_fn (us:=[.ref a]) (vs:=[.ref a]) F hr hb hd hx d (.cons rfl .nil) q)
structure Mk (K:PySem.W.Frag) (C f:Addr):Prop where
 makes:PySem.W.makesIn K C=true
 init:PySem.W.findIn K (.ref C) "__init__" = some (some (.ref f))
 fn:PySem.W.isFn K (.ref f)=true
 kp:PySem.W.keepIn K (.ref C)=true
theorem run_make {H:Hp}(M:Mk X.K C f)(F:FnOk X.prog X.w X.K X.mg X.base CX k f fd ps sp)(hr:Room (k+1) X.A)(hb:Da X.K fd ps ds)(hd:Bi dvs ds)(hx:Dk CX X E)(I:Inv X pins σ H s)(r:Bi vs us)(h:∀ x dx,H x=none→H dx=none→dx≠x→sp (.ref x::(vs++dvs)) (upd (upd H dx (.own x)) x (.ins C dx [])) (fun v H2=>v = .non∧Q (.ref x) H2) E) :
  wpAny (model X.prog X.w) X.A (call (.ref C) us) (EP X pins σ Q) X.xe s:=by
 have d:=h (s.heap.objs.size+1) s.heap.objs.size (I.hok.fresh (Zbp _)) (I.hok.fresh (Zd _)) (Z5 (Zbk _))
 have b:=Inv.made (C:=C) I
 have c:Bi (V.ref (s.heap.objs.size+1)::(vs++dvs)) (Value.ref (s.heap.objs.size+1)::(us++ds)):=.cons rfl (r.append hd)
 have l:(Value.ref (s.heap.objs.size+1)::us++ds).length=ps.length:=by
  have e:=c.length
  rw[F.len _ _ _ _ d] at e
  exact e.symm
 refine wpAny_call (make_map (f:=f) I.kIn M.makes M.init (Zc1.mp M.fn) (codeAny_mono (F.run _ X.stack _ _ ⟨Value.ref (s.heap.objs.size+1)::us,[]⟩ (Value.ref (s.heap.objs.size+1)::(us++ds)) _ _ E (hr.make C us [])
  (b.env0.make C us []) (hb _ (Value.ref (s.heap.objs.size+1)::us) b.kIn l) c d) fun r g a=>?_))
 cases r with
 | error e=>exact hx pins σ _ _ e g b a
 | ok p =>
  cases p with
  | ret u =>
   obtain⟨v,i,j,m,o,n⟩:=b.after a
   subst o
   exact⟨m,⟨V.ref (s.heap.objs.size+1),i,j,rfl,n⟩⟩
  | next=>exact False.elim a
  | brk=>exact False.elim a
  | cont=>exact False.elim a
theorem pe_make0 (M:Mk X.K C f)(F:FnOk X.prog X.w X.K X.mg X.base CX k f fd ps sp)(hr:Room (k+1) X.A)(hg:Gl X x)(hm:X.mg x=some (.ref C))(hb:Da X.K fd ps ds)(hd:Bi dvs ds)(hx:Dk CX X E)(hdb:(x == ("__debug__" : Str))=false:=by decide):PE X (.Call (.Name x p) [] [] pos) (tMake C sp dvs E tNil):=by
 refine⟨?_⟩
 intro a s σ H Q I h
 refine Zbg (Jg I hg hm ?_ hdb)
 exact PySem.W.callWith_K0 I.kIn M.kp (run_make (us:=[]) M F hr hb hd hx I .nil h)
end
structure PK (X:Cx) (kws:List Keyword) (t:TA):Prop where
 run:∀ (pos:Pos) (pins:List (Addr×Obj)) (s:Shared) (σ:St) (H:Hp) (Q:List V→Hp→Prop),Inv X pins σ H s→t σ H Q→wpAny (model X.prog X.w) X.A (evalAll ((backToKw pos (keywordEach kws X.env)).map (·.2))) (AP X pins σ Q) X.xe s
instance {X:Cx} {kws:List Keyword} {t:TA}:CoeFun (PK X kws t) fun _=>∀ (pos:Pos) (pins:List (Addr×Obj)) (s:Shared) (σ:St) (H:Hp) (Q:List V→Hp→Prop),Inv X pins σ H s→t σ H Q→wpAny (model X.prog X.w) X.A (evalAll ((backToKw pos (keywordEach kws X.env)).map (·.2))) (AP X pins σ Q) X.xe s:=⟨PK.run⟩
section
variable {X:Cx} {CX:CXT} {k:Nat} {f C:Addr} {fd:FuncData} {ps ks:List Str} {sp:Sp} {E:XK} {x m:Str} {p pos apos kpos:Pos} {e o:Expr} {es:List Expr} {kws:List Keyword} {te ta:TE} {t tk:TA} {nm:Option Str}
theorem pk_nil:PK X [] tNil:=⟨fun _ _ _ _ H Q I h=>wpAny_evalAll_nil ⟨[],H,I,.nil,h⟩⟩
theorem pk_cons (ha:PE X e te)(hr:PK X kws t):PK X (⟨nm,e,kpos⟩::kws) (tCons te t):=by
 refine⟨?_⟩
 intro b a s σ H Q I h
 show wpAny _ _ (evalAll ((do let v ← eval e X.env;standAt b;pure v)::(backToKw b (keywordEach kws X.env)).map (·.2))) _ _ s
 refine wpAny_evalAll_cons (Zb (thn (ha a s σ H _ I h) fun u l ⟨x,i,g,m,d⟩=>Zb (wpAny_standAt (Zk ?_))))
 exact thn (hr b a l σ i _ g d) fun o p ⟨n,k,c,f,j⟩=>⟨x::n,k,c,.cons m f,j⟩
variable {g:List Value→List Value→List Value} {gV:List V→List V→List V}
end
structure FnScope (N P:List Str) (sc:Scope):Prop where
 kind:sc.kind = .function
 co:sc.isCoroutine=false
 gen:sc.isGenerator=false
 nd:N.Nodup
 pre:N.take P.length=P
 par:∀ x∈P,sc.names.lookup x=some .local∨sc.names.lookup x=some .cell
 nofree:∀ y∈sc.names,y.2 ≠ .free
theorem bindL_out {kindOf:Str→Option NameKind}{x:Str}:∀ {binds:List (Str×Value)} {m:Str→Option Value},(∀ v,(x,v)∉binds)→bindL kindOf binds m x=m x
 | [],_,_=>rfl
 | (n,v)::r,m,h=>by
  unfold bindL
  rw[bindL_out fun w hw=>h w (Zz _ hw)]
  split
  ·have:x≠n:=by rintro rfl;exact h v Z0
   simp[this]
  ·rfl
theorem bindC_out {kindOf:Str→Option NameKind}{x:Str}:∀ {binds:List (Str×Value)} {m:Str→Option Value},(∀ v,(x,v)∉binds)→bindC kindOf binds m x=m x
 | [],_,_=>rfl
 | (n,v)::r,m,h=>by
  unfold bindC
  rw[bindC_out fun w hw=>h w (Zz _ hw)]
  split
  ·rfl
  ·have:x≠n:=by rintro rfl;exact h v Z0
   simp[this]
theorem bindL_get {kindOf:Str→Option NameKind}{x:Str}:∀ {P:List Str} {vs:List Value} {i:Nat} {m:Str→Option Value},P.Nodup→P[i]?=some x→vs[i]?=some v→kindOf x=some .local →
  bindL kindOf (P.zip vs) m x=some v
 | [],_,_,_,_,h,_,_=>by simp at h
 | _::_,[],_,_,_,_,h,_=>by simp at h
 | p::P,w::vs,0,m,nd,h1,h2,hk=>by
  simp at h1 h2;subst h1;subst h2
  show bindL kindOf ((p,w)::P.zip vs) m p=_
  unfold bindL
  rw[bindL_out fun v hv=>(Zbs.mp nd).1 (List.of_mem_zip hv).1,Zw hk]
  simp
 | p::P,w::vs,i+1,m,nd,h1,h2,hk=>by
  show bindL kindOf ((p,w)::P.zip vs) m x=_
  unfold bindL
  exact bindL_get (i:=i) (Zbs.mp nd).2 (by simpa using h1) (by simpa using h2) hk
theorem bindC_get {kindOf:Str→Option NameKind}{x:Str}:∀ {P:List Str} {vs:List Value} {i:Nat} {m:Str→Option Value},P.Nodup→P[i]?=some x→vs[i]?=some v→kindOf x≠some .local →
  bindC kindOf (P.zip vs) m x=some v
 | [],_,_,_,_,h,_,_=>by simp at h
 | _::_,[],_,_,_,_,h,_=>by simp at h
 | p::P,w::vs,0,m,nd,h1,h2,hk=>by
  simp at h1 h2;subst h1;subst h2
  show bindC kindOf ((p,w)::P.zip vs) m p=_
  unfold bindC
  rw[bindC_out fun v hv=>(Zbs.mp nd).1 (List.of_mem_zip hv).1,Zs hk]
  simp
 | p::P,w::vs,i+1,m,nd,h1,h2,hk=>by
  show bindC kindOf ((p,w)::P.zip vs) m x=_
  unfold bindC
  exact bindC_get (i:=i) (Zbs.mp nd).2 (by simpa using h1) (by simpa using h2) hk
def J4 (N:List Str)(vs:List V):St:=vs.map some++List.replicate (N.length - vs.length) none
def Di (CX:CXT)(P:Program)(w:World)(K:PySem.W.Frag)(mg:Str→Option Value)(base:Heap)(N:List Str)(qual:Str)(scope:Scope)(f:Addr)(cd:Value)(A:Around)(outer:List Env)(s:Shared)(H:Hp)(E:XK):Cx where
 prog:=P
 w:=w
 K:=K
 mg:=mg
 base:=base
 A:=A.deeper (envOfC qual scope s.heap.objs.size f cd)
 N:=N
 s₀:=s
 H₀:=H
 env:=envOfC qual scope s.heap.objs.size f cd
 outer:=outer
 stack:=envOfC qual scope s.heap.objs.size f cd::outer
 ex:=[]
 calm:=true
 fn:=fun _=>true
 pn:=[]
 xe:=fun e s'=>wpAny (model P w) (A.deeper (envOfC qual scope s.heap.objs.size f cd)) (leaving (envOfC qual scope s.heap.objs.size f cd) e) (fun _ s''=>CX outer H s E e s'') (fun e' s''=>CX outer H s E e' s'') s'
theorem cell_has {sc:Scope}{n:Nat}{x:Str}(h:sc.names.lookup x=some .cell):∃ c,(cellsFrom n sc.names []).lookup x=some c:=by
 have q:=PySem.W.cellsFrom_some sc.names n [] (.inl h)
 exact Zcn.mp q
theorem inv_start {CX:CXT}{P:Program}{w:World}{K:PySem.W.Frag}{mg:Str→Option Value}{base:Heap}{N ps:List Str}{qual:Str}{scope:Scope}{f:Addr}{cd:Value}{A:Around}{outer:List Env}{s s1:Shared}{H:Hp}{E:XK}{us:List Value}{vs:List V}(S:FnScope N ps scope)(hd:A.handled=none)(e0:Env0 P w K mg base A outer s H)(hl:vs.length=ps.length)(r:Bi vs us)(x:InCallC s s.heap.objs.size (bindL (envOfC qual scope s.heap.objs.size f cd).kindOf (ps.zip us) fun _=>none) (cellsFrom (s.heap.objs.size+1) scope.names []) (bindC (envOfC qual scope s.heap.objs.size f cd).kindOf (ps.zip us) fun _=>none) s1) :
  Inv (Di CX P w K mg base N qual scope f cd A outer s H E) [] (J4 N vs) H s1:=by
 have G:ps.length≤N.length:=by have:=congrArg List.length S.pre;rw[Z6] at this;lia
 obtain⟨m,I,rfl,B⟩:=x.done
 have j:∀ b:Addr,b∉(Di CX P w K mg base N qual scope f cd A outer s H E).ex:=fun b z=>absurd (show b∈([]:List Addr) from z) (by simp)
 refine⟨⟨e0.mod,S.kind,rfl,rfl,Zd _,fun y z c m d=>?_,fun y g=>?_,fun y c _ h=>?_,fun _=>hd,Around.frames_deeper e0.frames,.inr ⟨rfl,rfl⟩,fun b z=>absurd z (j b),e0.bs,e0.bsz,fun b _ _=>j b,fun b z=>absurd z (j b),e0.funs,e0.frf⟩,
  rfl,e0.bare,Un.kept B,⟨_,x.toInCall.ns,fun i y v m d J=>?_⟩,fun y c h=>⟨_,x.cell y c h⟩,e0.hok.fresh (Zd _),fun y c h=>?_,fun p l=>absurd (show p∈([]:List (Addr×Obj)) from l) (by simp),e0.hok.kept B,?_⟩
 ·exact name_of_addr x.apart (Zcw m) (Zcw d)
 ·have g:scope.names.lookup y=some .cell∨scope.names.lookup y=some .free:=g
  rcases g with g | g
  ·exact cell_has g
  ·exact absurd rfl (S.nofree _ (Zcw g))
 ·exact Zcv (x.above y c (Zcw h))
 ·have o:i<vs.length:=by
   unfold J4 at d
   by_cases o:i<vs.length
   ·exact o
   ·rw[Zag (by simpa using o)] at d
    rw[List.getElem?_replicate] at d
    split at d <;> cases d
  have D:vs[i]?=some v:=by
   unfold J4 at d
   rw[Zat (by simpa using o),Zp] at d
   cases e:vs[i]? with
   | none=>rw[e] at d;cases d
   | some a=>rw[e] at d;cases d;rfl
  obtain⟨u,C,F⟩:=r.get D
  have l:ps[i]?=some y:=by
   rw[← S.pre,List.getElem?_take_of_lt (by lia)];exact m
  have t:ps.Nodup:=by rw[← S.pre];exact S.nd.sublist (List.take_sublist _ _)
  refine⟨u,F,?_⟩
  rcases S.par y (Ze l) with k | k
  ·exact .inl ⟨k,bindL_get t l C k⟩
  ·obtain⟨c,e⟩:=cell_has (n:=s.heap.objs.size+1) k
   refine .inr ⟨.inl k,c,e,?_⟩
   have q:=x.cell y c e
   rw[bindC_get t l C (by show scope.names.lookup y≠_;rw[k];decide)] at q
   exact q
 ·exact e0.hok.fresh (Zcv (x.above y c (Zcw h)))
 ·unfold J4
  show _=N.length
  rw[Zv,Zl,List.length_replicate]
  lia
theorem fn_of {K:PySem.W.Frag}{mg:Str→Option Value}{k:Nat}{name qual:Str}{dV kV doc pm cdv ct oc:Value}{N ps:List Str}(lk:K.lookup f=some ⟨oc,od,.func (PySem.W.fnOf name qual params body scope dV kV doc pm an cdv ct),osl⟩)(hcd:PySem.W.codeIn K cdv qual=true)(S:FnScope N ps scope)(len:∀ vs H Q E,sp vs H Q E→vs.length=ps.length)(hbody:∀ (A:Around) (outer:List Env) (s:Shared) (H:Hp) (vs:List V) (Q:VK) (E:XK),Room k (A.deeper (envOfC qual scope s.heap.objs.size f cdv))→sp vs H Q E →
   ∃ t,PSs (Di CX P w K mg base N qual scope f cdv A outer s H E) body t∧t { nx:=fun _ H'=>Q .non H',rt:=Q } (J4 N vs) H) :
  FnOk P w K mg base CX (k+1) f (PySem.W.fnOf name qual params body scope dV kV doc pm an cdv ct) ps sp:=by
 refine⟨len,fun A outer s H G C vs Q E l c L r h=>?_⟩
 have M:=len _ _ _ _ h
 have m:K.In s.heap:=c.mod.kin.keeps fun b o e=>(c.bs b o e).1
 have p:s.heap.NoLimit:=c.mod.nolimit.keeps fun b o e=>(c.bs b o e).1
 have g:∀ y∈ps.zip C,scope.names.lookup y.1=some .local∨(scope.names.lookup y.1=some .cell∧((cellsFrom (s.heap.objs.size+1) scope.names []).lookup y.1).isSome=true):=fun ⟨n,v⟩ B=>by
  rcases S.par n (List.of_mem_zip B).1 with q | q
  ·exact .inl q
  ·exact .inr ⟨q,PySem.W.cellsFrom_some _ _ _ (.inl q)⟩
 refine codeAny_call_function l.depth (m _ _ lk) rfl S.co S.gen rfl (PySem.W.codeRec_of m hcd) (L _ _ _ _ ?_)
 refine wpAny_newFunctionEnv_cells S.kind g fun R D z x=>?_
 subst D
 refine⟨p.keeps x.toInCall.keep,codeAny_func ?_⟩
 obtain⟨t,ht,O⟩:=hbody A outer s H vs Q E (l.deeper _) h
 have I:Inv (Di CX P w K mg base N qual scope f cdv A outer s H E) [] (J4 N vs) H z:=inv_start S l.hd c M r x
 refine Zbt (ht [] z (J4 N vs) H _ I O) (fun F i a=>?_) fun e i a=>a
 have fin:∀ {d : St} {H' : Hp} {v:V} {u:Value},Inv (Di CX P w K mg base N qual scope f cdv A outer s H E) [] d H' i→Bl v u→Q v H'→CE outer P w H s Q u i :=
  fun {d H' v u} J j q=>⟨v,H',J.os,J.bare,J.base,J.hok,j,q⟩
 cases F with
 | ret u =>
  obtain⟨v,d,H',J,j,q⟩:=a
  exact fin J j q
 | next =>
  obtain⟨d,H',J,q⟩:=a
  exact fin (v:=V.non) (u:=Value.none) J rfl q
 | brk =>
  obtain⟨_,_,_,q⟩:=a
  exact False.elim q
 | cont =>
  obtain⟨_,_,_,q⟩:=a
  exact False.elim q
end
end L2
namespace L2
noncomputable section
open PySem PySem.Spec PyProof.Rows
section
variable {X:Cx} {x:Str} {p pos:Pos} {e:Expr} {es:List Expr} {t:TA} {id T:String} {r:List V→Hp→VK→Prop}
def tCB (r:List V→Hp→VK→Prop)(t:TA):TE:=fun σ H Q=>t σ H fun vs H1=>r vs H1 Q
theorem A3 (hc:Dd X (.builtin id) r)(hg:Gl X x)(hm:X.mg x=none)(hv:bootBuiltins x=some (.builtin id))(ha:PA X (e::es) t)(hn:x ≠ "__name__" := by decide)(hdb:(x == ("__debug__" : Str))=false:=by decide)(he:starEach (e::es) X.env=(false,eval e X.env)::starEach es X.env:=by rfl)(hpl:(backTo pos (starEach es X.env)).any (·.1)=false:=by rfl):PE X (.Call (.Name x p) (e::es) [] pos) (tCB r t):=by
 refine⟨?_⟩
 intro a s σ H Q I h
 refine Zbg (Dj I hg hm hv ?_ hn hdb)
 exact PyProof.Rows.callWith_builtin1 (thn (ha pos a s σ H _ I h) fun g b ⟨f,c,j,d,i⟩=>hc a b σ c f g Q j d i) he hpl
theorem Dr (hc:Dd X (.type T) r)(hg:Gl X x)(hm:X.mg x=none)(hv:bootBuiltins x=some (.type T))(ha:PA X (e::es) t)(hn:x ≠ "__name__" := by decide)(hdb:(x == ("__debug__" : Str))=false:=by decide)(he:starEach (e::es) X.env=(false,eval e X.env)::starEach es X.env:=by rfl)(hpl:(backTo pos (starEach es X.env)).any (·.1)=false:=by rfl):PE X (.Call (.Name x p) (e::es) [] pos) (tCB r t):=by
 refine⟨?_⟩
 intro a s σ H Q I h
 refine Zbg (Dj I hg hm hv ?_ hn hdb)
 exact Zaw (thn (ha pos a s σ H _ I h) fun g b ⟨f,c,j,d,i⟩=>hc a b σ c f g Q j d i) he hpl
end
end
end L2
namespace L2
noncomputable section
open PySem PySem.Spec PyProof.Rows
section
variable {κ:Type} [DecidableEq κ]
def valV (kvs:List (κ×V))(k:κ):Option V:=(kvs.find? fun kv=>decide (kv.1=k)).map (·.2)
def C9 (kvs:List (κ×V))(k:κ)(v:V):List (κ×V) :=
 if (kvs.any fun kv=>decide (kv.1=k))=true then kvs.map (fun kv=>if kv.1=k then (kv.1,v) else kv) else kvs++[(k,v)]
theorem B7 {p:κ×V}{k:κ}(e:p.1=k):valV (p::r) k=some p.2:=by simp[valV,Zco,e]
theorem B0 {p:κ×V}{k:κ}(e:¬ p.1=k):valV (p::r) k=valV r k:=by simp[valV,Zco,e]
theorem E9 (k:κ):∀ kvs:List (κ×V),(kvs.any fun kv=>decide (kv.1=k))=(valV kvs k).isSome
 | []=>rfl
 | p::r=>by
  rw[List.any_cons]
  by_cases e:p.1=k
  ·simp only[B7 e,Z2 e,Bool.true_or,Option.isSome_some]
  ·rw[B0 e,Z9 e,Bool.false_or];exact E9 k r
theorem valV_map (k j:κ)(y:V):∀ kvs:List (κ×V),valV (kvs.map fun kv=>if kv.1=k then (kv.1,y) else kv) j=(valV kvs j).map fun x=>if j=k then y else x
 | []=>rfl
 | p::r=>by
  have ih:=valV_map k j y r
  rw[Za8]
  by_cases h:p.1=k
  ·rw[Zw h]
   by_cases e:p.1=j
   ·rw[B7 (p:=(p.1,y)) e,B7 e,Option.map_some,Zw (e.symm.trans h)]
   ·rw[B0 (p:=(p.1,y)) e,B0 e,ih]
  ·rw[Zs h]
   by_cases e:p.1=j
   ·rw[B7 (p:=p) e,B7 e,Option.map_some,Zs (fun z=>h (e.trans z))]
   ·rw[B0 (p:=p) e,B0 e,ih]
theorem valV_snoc (k j:κ)(y:V):∀ kvs:List (κ×V),valV kvs k=none→valV (kvs++[(k,y)]) j=if j=k then some y else valV kvs j
 | [],_=>by
  by_cases e:k=j
  ·rw[Zw e.symm];exact B7 (p:=(k,y)) e
  ·rw[Zs (fun z=>e z.symm)];exact B0 (p:=(k,y)) e
 | p::r,hn=>by
  rw[List.cons_append]
  have hk:¬ p.1=k:=fun z=>by rw[B7 z] at hn;cases hn
  rw[B0 hk] at hn
  have ih:=valV_snoc k j y r hn
  by_cases e:p.1=j
  ·rw[B7 e,B7 e,Zs (fun z=>hk (e.trans z))]
  ·rw[B0 e,B0 e,ih]
theorem valV_put (kvs:List (κ×V))(k j:κ)(y:V):valV (C9 kvs k y) j=if j=k then some y else valV kvs j:=by
 unfold C9
 by_cases a:(kvs.any fun b=>decide (b.1=k))=true
 ·rw[Zw a,valV_map]
  rw[E9] at a
  by_cases e:j=k
  ·obtain⟨x,c⟩:=Zcn.mp a
   rw[Zw e,e,c,Option.map_some,Zw rfl]
  ·rw[Zs e]
   cases valV kvs j with
   | none=>rfl
   | some x=>rw[Option.map_some,Zs e]
 ·rw[Zs a]
  refine valV_snoc k j y kvs ?_
  rw[E9] at a
  cases q:valV kvs k with
  | none=>rfl
  | some x=>rw[q] at a;exact (a rfl).elim
theorem Cg (kvs:List (κ×V))(k:κ)(v:V):(C9 kvs k v).length≤kvs.length+1:=by
 unfold C9
 split
 ·rw[Zl];lia
 ·rw[Zv,Zab,List.length_nil];lia
theorem putK_new {k:κ}(v:V)(h:valV kvs k=none):C9 kvs k v=kvs++[(k,v)]:=by
 unfold C9
 rw[E9,h]
 exact Zs (by decide)
theorem RelO.isSome_eq {o:Option V}{u:Option Value}(r:RelO o u):o.isSome=u.isSome:=by
 cases o with
 | none=>cases u with
  | none=>rfl
  | some _=>exact (show False from r).elim
 | some _=>cases u with
  | none=>exact (show False from r).elim
  | some _=>rfl
theorem KV.val (r:KV kvs vs)(k:κ):RelO (valV kvs k) (valueAt vs k):=by
 unfold KV at r
 induction r with
 | nil=>exact True.intro
 | @cons p q i a h t g =>
  obtain⟨d,f⟩:=h
  by_cases e:p.1=k
  ·have c : q.1=k:=d.symm.trans e
   have b:valueAt (q::a) k=some q.2:=by simp[valueAt,Zco,c]
   rw[B7 e,b];exact f
  ·have c : ¬ q.1=k:=fun z=>e (d.trans z)
   have b:valueAt (q::a) k=valueAt a k:=by simp[valueAt,Zco,c]
   rw[B0 e,b];exact g
theorem KV.any {kvs:List (κ×V)}{vs:List (κ×Value)}(r:KV kvs vs)(k:κ):(kvs.any fun kv=>decide (kv.1=k))=vs.any fun kv=>decide (kv.1=k):=by
 unfold KV at r
 induction r with
 | nil=>rfl
 | cons h t a=>rw[List.any_cons,List.any_cons,a,h.1]
theorem KV.repl {kvs:List (κ×V)}{vs:List (κ×Value)}(r:KV kvs vs)(k:κ)(ry:Bl y u) :
  KV (kvs.map fun kv=>if kv.1=k then (kv.1,y) else kv) (vs.map fun kv=>if kv.1=k then (kv.1,u) else kv):=by
 unfold KV at r ⊢
 induction r with
 | nil=>exact .nil
 | @cons p q d f h t c =>
  rw[Za8,Za8]
  refine .cons ?_ c
  obtain⟨a,b⟩:=h
  by_cases e:p.1=k
  ·rw[Zw e,Zw (a.symm.trans e)];exact⟨a,ry⟩
  ·rw[Zs e,Zs (fun z=>e (a.trans z))];exact⟨a,b⟩
theorem KV.put (r:KV kvs vs)(k:κ)(ry:Bl y u):KV (C9 kvs k y) (stored vs k u):=by
 unfold C9 stored
 rw[r.any k]
 by_cases e:(vs.any fun a=>decide (a.1=k))=true
 ·rw[Zw e,Zw e];exact r.repl k ry
 ·rw[Zs e,Zs e];exact Zc9 r ⟨rfl,ry⟩
theorem KV.length {kvs:List (κ×V)}{vs:List (κ×Value)}(r:KV kvs vs):kvs.length=vs.length:=Paired.length r
end
theorem kV_is {k:Key}(r:Bl (kV k) u):(Bc P w).is k u=true:=by
 cases k with
 | inl i=>obtain⟨t,e⟩:=(show ∃ t,u=Value.int i t from r);subst e;exact mixKind_int P w i t
 | inr x=>obtain⟨t,e⟩:=(show ∃ t,u=Value.str x t from r);subst e;exact mixKind_str P w x t
theorem Fa:∀ {ks:List Key} {us:List Value},Bi (ks.map kV) us→ItemsAre (Bc P w) ks us
 | [],_,r=>by rw[List.map_nil] at r;cases r;exact .nil
 | k::ks,_,r=>by
  rw[Za8] at r
  cases r with
  | cons h t=>exact .cons (kV_is h) (Fa t)
abbrev KT (H:Hp):List (List Key×V)→List (List Key×Addr×Value)→Prop:=Paired fun p q=>p.1=q.1∧H q.2.1=some (.tup (p.1.map kV))∧Bl p.2 q.2.2
theorem KT.val {H:Hp}(r:KT H kvs xs)(k:List Key):RelO (valV kvs k) ((atKey xs k).map (·.2)):=by
 induction r with
 | nil=>exact True.intro
 | @cons p q i a h t g =>
  obtain⟨d,_,f⟩:=h
  by_cases e:p.1=k
  ·have c : q.1=k:=d.symm.trans e
   have b:atKey (q::a) k=some q.2:=by simp[atKey,Zco,c]
   rw[B7 e,b];exact f
  ·have c : ¬ q.1=k:=fun z=>e (d.trans z)
   have b:atKey (q::a) k=atKey a k:=by simp[atKey,Zco,c]
   rw[B0 e,b];exact g
theorem KT.repl {H:Hp}{kvs:List (List Key×V)}{xs:List (List Key×Addr×Value)}(r:KT H kvs xs)(k:List Key)(ry:Bl y u) :
  KT H (kvs.map fun kv=>if kv.1=k then (kv.1,y) else kv) (xs.map (putAt k u)):=by
 induction r with
 | nil=>exact .nil
 | @cons p q f g h t d =>
  rw[Za8,Za8]
  refine .cons ?_ d
  obtain⟨a,b,c⟩:=h
  unfold putAt
  by_cases e:p.1=k
  ·rw[Zw e,Zw (a.symm.trans e)];exact⟨a,b,ry⟩
  ·rw[Zs e,Zs (fun z=>e (a.trans z))];exact⟨a,b,c⟩
theorem KT.put {H:Hp}(r:KT H kvs xs)(k:List Key)(hb:H b=some (.tup (k.map kV)))(ry:Bl y u) :
  KT H (C9 kvs k y) (storedH xs k b u):=by
 have e:(kvs.any fun a=>decide (a.1=k))=(atKey xs k).isSome:=by
  rw[E9,(r.val k).isSome_eq,Option.isSome_map]
 unfold C9 storedH
 rw[e]
 by_cases q:(atKey xs k).isSome=true
 ·rw[Zw q,Zw q];exact r.repl k ry
 ·rw[Zs q,Zs q];exact Zc9 r ⟨rfl,hb,ry⟩
theorem KT.keeps {H H' : Hp}(r:KT H kvs xs)(ht:∀ b ys,H b=some (.tup ys)→H' b=some (.tup ys)):KT H' kvs xs :=
 Paired.mapP r fun _ _ z=>⟨z.1,ht _ _ z.2.1,z.2.2⟩
section
variable {P:Program} {w:World} {H:Hp} {h:Heap} {a:Addr}
theorem rd_of (ok:HOk P w H h)(e:Rd H a u):Cb P w H h a u:=e.ok ok
theorem dk_rd {kvs:List (Key×V)}(ok:HOk P w H h)(e:Rd H a (.dK kvs)):kvs.length≤sizeLine∧(a == sysModules)=false∧∃ vs,KV kvs vs∧h.DictOf (Bc P w) a vs :=
 show Cb P w H h a (.dK kvs) from rd_of ok e
theorem dk_of {kvs:List (Key×V)}(ok:HOk P w H h)(e:H a=some (.dK kvs)):kvs.length≤sizeLine∧(a == sysModules)=false∧∃ vs,KV kvs vs∧h.DictOf (Bc P w) a vs:=dk_rd ok (.inl e)
theorem Ik {ks:List Key}(ok:HOk P w H h)(e:H a=some (.tup (ks.map kV))):(tupleKind (Bc P w)).is h ks a:=by
 obtain⟨_,b,r,o,d,f,n,c⟩:=(show Cb P w H h a (.tup (ks.map kV)) from ok a _ e)
 exact⟨o,b.toArray,n,d,f,c,by simpa using Fa r⟩
theorem dt_rd {kvs:List (List Key×V)}(ok:HOk P w H h)(e:Rd H a (.dT kvs)):kvs.length≤sizeLine∧(a == sysModules)=false ∧
  ∃ xs,KT H kvs xs∧h.DictOfH (tupleKind (Bc P w)) a xs:=by
 obtain⟨z,y,xs,r,o,k,i,d,f,n,g,s⟩:=(show Cb P w H h a (.dT kvs) from rd_of ok e)
 refine⟨z,y,xs,r,o,k,i,d,f,n,g,fun x b=>?_,s⟩
 have all:∀ {l:List (List Key×V)} {m:List (List Key×Addr×Value)},KT H l m→∀ x∈m,(tupleKind (Bc P w)).is h x.1 x.2.1:=by
  intro l m q
  induction q with
  | nil=>intro x b;exact nomatch b
  | @cons p q u v c t j =>
   intro x b
   rcases Zr.mp b with e | b
   ·subst e
    exact Ik ok (by rw[← c.1];exact c.2.1)
   ·exact j x b
 exact all r x b
theorem dt_of {kvs:List (List Key×V)}(ok:HOk P w H h)(e:H a=some (.dT kvs)):kvs.length≤sizeLine∧(a == sysModules)=false ∧
  ∃ xs,KT H kvs xs∧h.DictOfH (tupleKind (Bc P w)) a xs:=dt_rd ok (.inl e)
end
def DGet (H:Hp)(a:Addr)(y:V)(r:Option V):Prop :=
 (∃ kvs k,Rd H a (.dK kvs)∧y=kV k∧r=valV kvs k)∨∃ kvs k b,Rd H a (.dT kvs)∧y = .ref b∧H b=some (.tup (k.map kV))∧r=valV kvs k
def DPut (H:Hp)(a:Addr)(y v:V)(H' : Hp):Prop :=
 (∃ kvs k,H a=some (.dK kvs)∧y=kV k∧kvs.length<sizeLine∧H'=upd H a (.dK (C9 kvs k v))) ∨
 ∃ kvs k b,H a=some (.dT kvs)∧y = .ref b∧H b=some (.tup (k.map kV))∧kvs.length<sizeLine∧H'=upd H a (.dT (C9 kvs k v))
theorem DGet.k {H:Hp}{k:Key}(e:H a=some (.dK kvs)):DGet H a (kV k) (valV kvs k):=.inl ⟨kvs,k,.inl e,rfl,rfl⟩
theorem DGet.t {H:Hp}{k:List Key}(e:H a=some (.dT kvs))(eb:H b=some (.tup (k.map kV))):DGet H a (.ref b) (valV kvs k):=.inr ⟨kvs,k,b,.inl e,rfl,eb,rfl⟩
theorem DPut.k {H:Hp}{kvs:List (Key×V)}{k:Key}(e:H a=some (.dK kvs))(hl:kvs.length<sizeLine):DPut H a (kV k) v (upd H a (.dK (C9 kvs k v))):=.inl ⟨kvs,k,e,rfl,hl,rfl⟩
theorem DPut.t {H:Hp}{kvs:List (List Key×V)}{k:List Key}(e:H a=some (.dT kvs))(eb:H b=some (.tup (k.map kV)))(hl:kvs.length<sizeLine) :
  DPut H a (.ref b) v (upd H a (.dT (C9 kvs k v))):=.inr ⟨kvs,k,b,e,rfl,eb,hl,rfl⟩
section
variable {X:Cx} {pins:List (Addr×Obj)} {σ:St} {H:Hp} {s:Shared} {a:Addr} {y v:V} {u r:Value} {o:Option V} {A:Around} {E:Value→Shared→Prop}
theorem Inv.big (I:Inv X pins σ H s):sysModules<s.heap.objs.size:=by
 have h:mainGlobals<s.heap.objs.size:=(I.mod.glob.keeps I.bk).lt
 exact Nat.lt_trans (by decide) h
theorem d_getItem {Q:Value→Shared→Prop}(hu:A.units+1<cLine)(I:Inv X pins σ H s)(g:DGet H a y (some v))(ry:Bl y u)(h:∀ w' s',Inv X pins σ H s'→Bl v w'→Q w' s') :
  wpAny (model X.prog X.w) A (getItem (.ref a) u) Q E s:=by
 rcases g with ⟨kvs,k,e,f,l⟩ | ⟨kvs,k,b,e,f,x,l⟩
 ·subst f
  obtain⟨z,n,r,d,i⟩:=dk_rd I.hok e
  obtain⟨w',j,c⟩:=RelO.some_of (v:=v) (o:=valueAt r k) (by rw[l];exact d.val k)
  exact wpAny_getItem_of (kV_is ry) i.mapOf j (h w' _ (I.tok _) c)
 ·subst f
  cases (show u=Value.ref b from ry)
  obtain⟨z,n,q,d,i⟩:=dt_rd I.hok e
  obtain⟨w',j,c⟩:=RelO.some_of (v:=v) (o:=(atKey q k).map (·.2)) (by rw[l];exact d.val k)
  obtain⟨p,t,m⟩:=Zbw.mp j
  refine wpAny_getItem_heap (tupleKind_room_in1 hu) (Ik I.hok x) i t ?_
  rw[m]
  exact h w' _ (I.tok _) c
theorem d_in {Q:Value→Shared→Prop}(hu:A.units+1<cLine)(I:Inv X pins σ H s)(g:DGet H a y o)(ry:Bl y u)(h:∀ s',Inv X pins σ H s'→Q (.bool o.isSome) s') :
  wpAny (model X.prog X.w) A (compareOp .In u (.ref a)) Q E s:=by
 rcases g with ⟨kvs,k,e,d,l⟩ | ⟨kvs,k,b,e,d,j,l⟩
 ·subst d
  obtain⟨z,f,m,c,i⟩:=dk_rd I.hok e
  refine wpAny_in_of (kV_is ry) f i.mapOf ?_
  rw[← (c.val k).isSome_eq,← l]
  exact h _ (I.tok _)
 ·subst d
  cases (show u=Value.ref b from ry)
  obtain⟨z,f,n,c,i⟩:=dt_rd I.hok e
  refine wpAny_in_heap (tupleKind_room_in1 hu) (Ik I.hok j) f i ?_
  have q:=(c.val k).isSome_eq
  rw[Option.isSome_map] at q
  rw[← q,← l]
  exact h _ (I.tok _)
theorem d_notIn {Q:Value→Shared→Prop}(hu:A.units+1<cLine)(I:Inv X pins σ H s)(g:DGet H a y o)(ry:Bl y u)(h:∀ s',Inv X pins σ H s'→Q (.bool (!o.isSome)) s') :
  wpAny (model X.prog X.w) A (compareOp .NotIn u (.ref a)) Q E s:=by
 rcases g with ⟨kvs,k,e,d,l⟩ | ⟨kvs,k,b,e,d,j,l⟩
 ·subst d
  obtain⟨z,f,m,c,i⟩:=dk_rd I.hok e
  refine wpAny_notIn_of (kV_is ry) f i.mapOf ?_
  rw[← (c.val k).isSome_eq,← l]
  exact h _ (I.tok _)
 ·subst d
  cases (show u=Value.ref b from ry)
  obtain⟨z,f,n,c,i⟩:=dt_rd I.hok e
  refine wpAny_notIn_heap (tupleKind_room_in1 hu) (Ik I.hok j) f i ?_
  have q:=(c.val k).isSome_eq
  rw[Option.isSome_map] at q
  rw[← q,← l]
  exact h _ (I.tok _)
theorem d_write {h' : Heap}{t' : Nat}(I:Inv X pins σ H s)(mu:Mut (H a))(hs:Heap.SameBut a s.heap h')(he:∃ q,h'.get? a=some q)(new:Cb X.prog X.w (upd H a ob) h' a ob) :
  Inv X pins σ (upd H a ob) { s with heap:=h',toks:=t' } :=
 I.write (x:=a) (e:=a) mu (.inl rfl) (fun b q c z=>(hs.2 b c).trans z) he new
theorem dk_new {H' : Hp}{h' : Heap}{kvs:List (Key×V)}(z:kvs.length≤sizeLine)(hd:(a == sysModules)=false)(rel:KV kvs vs)(dd:h'.DictOf (Bc P w) a vs) :
  Cb P w H' h' a (.dK kvs):=⟨z,hd,vs,rel,dd⟩
theorem d_setItem {H' : Hp}{Q:Unit→Shared→Prop}(hu:A.units+1<cLine)(I:Inv X pins σ H s)(g:DPut H a y v H')(ry:Bl y u)(rv:Bl v r)(h:∀ s',Inv X pins σ H' s'→Q () s') :
  wpAny (model X.prog X.w) A (setItem (.ref a) u r) Q E s:=by
 rcases g with ⟨kvs,k,e,m,l,n⟩ | ⟨kvs,k,b,e,m,C,l,n⟩
 ·subst m n
  obtain⟨z,o,N,d,p⟩:=dk_of I.hok e
  have t:N.length≤sizeLine:=by rw[← d.length];exact z
  have x:(C9 kvs k v).length≤sizeLine:=by have:=Cg kvs k v;lia
  refine wpAny_setItem_pairs (hsz:=t) (kV_is ry) p fun D f j=>h _ ?_
  have J:∃ q,D.get? a=some q:=let ⟨q,_,_,i,_⟩:=f;⟨q,i⟩
  exact d_write I (by rw[e];exact True.intro) j J (dk_new x o (d.put k rv) f)
 ·subst m n
  cases (show u=Value.ref b from ry)
  obtain⟨z,o,L,d,p⟩:=dt_of I.hok e
  have t:L.length≤sizeLine:=by rw[← Paired.length d];exact z
  have x:(C9 kvs k v).length≤sizeLine:=by have:=Cg kvs k v;lia
  refine wpAny_setItem_heap (hsz:=t) (tupleKind_room_in1 hu) (Ik I.hok C) p fun D f j=>h _ ?_
  obtain⟨q,M,K,i,F,O,G,_,P⟩:=f
  refine d_write I (by rw[e];exact True.intro) j ⟨q,i⟩ ⟨x,o,_,(d.put k C rv).keeps fun c R B=>?_,q,M,K,i,F,O,G,P⟩
  rw[Ai (ne_of B e (fun z=>nomatch z))]
  exact B
end
def NoSl (i:Expr):Prop:=∀ ov iv,subscripted i false ov iv=operate [ov,iv] (getItem ov iv)
theorem subD_of {prog:Program}{w:World}{A:Around}{E:Value→Shared→Prop}{s:Shared}{env:Env}{value slice:Expr}{pos:Pos}{T id:String}{Q:Value→Shared→Prop}(hl:typeLookup (.type T) "__getitem__" = pure (some (.builtin id)))(hs:NoSl slice)(h:wpAny (model prog w) A (eval value env) (fun o s₁=>wpAny (model prog w) A (eval slice env) (fun i s₂=>s₂.TypeIs o T∧wpAny (model prog w) A (getItem o i) Q E s₂) E s₁) E s) :
  wpAny (model prog w) A (eval (.Subscript value slice pos) env) Q E s:=by
 refine Subscript_ (Zbt h (fun o s₁ e=>Zbt e (fun i s₂ a=>?_) fun _ _ x=>x) fun _ _ x=>x)
 obtain⟨c,a⟩:=a
 unfold subscriptTail
 refine Zb ?_
 rw[getitemInPython_of_ne c.not_modules]
 refine Zb (Zcp c hl ?_)
 have fin:wpAny (model prog w) A (subscripted slice false o i) (fun r b=>wpAny (model prog w) A (letTemporaryGo value o r >>= fun _=>pure r) Q E b) E s₂:=by
  rw[hs o i]
  exact wpAny_operating (Zbt a (fun r b d=>Zb (wpAny_letTemporaryGo (Zk d))) fun _ _ x=>x)
 first
  | exact Zk (Zb fin)
  | exact Zb (Zk (Zb fin))
  | exact Zb fin
theorem dict_typeIs {H:Hp}{s:Shared}(I:Inv X pins σ H s)(g:DGet H a y o):s.TypeIs (.ref a) "dict" := by
 rcases g with ⟨kvs,k,e,_,_⟩ | ⟨kvs,k,b,e,_,_,_⟩
 ·obtain⟨_,_,d,_,c⟩:=dk_rd I.hok e
  exact c.typeIs
 ·obtain⟨_,_,f,_,c⟩:=dt_rd I.hok e
  exact c.typeIs
def tDGet (td ty:TE):TE:=fun σ H Q=>td σ H fun x H1=>ty σ H1 fun y H2=>∃ a v,x = .ref a∧DGet H2 a y (some v)∧Q v H2
def tDIn (ty td:TE):TE:=fun σ H Q=>ty σ H fun y H1=>td σ H1 fun x H2=>∃ a o,x = .ref a∧DGet H2 a y o∧Q (.bl o.isSome) H2
def tDNotIn (ty td:TE):TE:=fun σ H Q=>ty σ H fun y H1=>td σ H1 fun x H2=>∃ a o,x = .ref a∧DGet H2 a y o∧Q (.bl (!o.isSome)) H2
def sDPut (td ty tv:TE):TS:=fun D σ H=>tv σ H fun v H1=>td σ H1 fun x H2=>ty σ H2 fun y H3=>∃ a H4,x = .ref a∧DPut H3 a y v H4∧D.nx σ H4
section
variable {X:Cx} {o i e value:Expr} {pos pos' tpos:Pos} {td ty tv:TE}
theorem pe_dget (hu:X.A.units+1<cLine)(ho:PE X o td)(hi:PE X i ty)(hs:NoSl i):PE X (.Subscript o i pos) (tDGet td ty):=by
 refine⟨?_⟩
 intro b s σ H Q I h
 refine subD_of PySem.F.slot_dict_getitem.lookup hs (thn (ho b s σ H _ I h) fun u r ⟨x,m,l,k,f⟩=>thn (hi b r σ m _ l f) fun z B c=>?_)
 obtain⟨y,q,d,p,a,v,j,g,n⟩:=c
 subst j
 obtain rfl:u=Value.ref a:=k
 exact⟨dict_typeIs d g,d_getItem hu d g p fun C w t e=>⟨v,q,t,e,n⟩⟩
theorem pc_din (hu:X.A.units+1<cLine)(hi:PE X i ty)(ho:PE X o td):PC X .In i o (tDIn ty td):=by
 intro b s σ H Q I h
 refine thn (hi b s σ H _ I h) fun w r ⟨y,l,m,p,e⟩=>thn (ho b r σ l _ m e) fun u z c=>?_
 obtain⟨x,q,d,k,a,f,j,g,n⟩:=c
 subst j
 obtain rfl:u=Value.ref a:=k
 exact d_in hu d g p fun v t=>⟨.bl f.isSome,q,t,rfl,n⟩
theorem pc_dnotin (hu:X.A.units+1<cLine)(hi:PE X i ty)(ho:PE X o td):PC X .NotIn i o (tDNotIn ty td):=by
 intro b s σ H Q I h
 refine thn (hi b s σ H _ I h) fun w r ⟨y,l,m,p,e⟩=>thn (ho b r σ l _ m e) fun u z c=>?_
 obtain⟨x,q,d,k,a,f,j,g,n⟩:=c
 subst j
 obtain rfl:u=Value.ref a:=k
 exact d_notIn hu d g p fun v t=>⟨.bl (!f.isSome),q,t,rfl,n⟩
theorem Ff (hu:X.A.units+1<cLine)(ho:PE X o td)(hi:PE X i ty)(hv:PE X value tv)(hs:swapsWith value (some (.Subscript o i pos')) pos.line X.env=pure false) :
  PS X (.Assign [.Subscript o i pos'] value pos) (sDPut td ty tv):=by
 refine⟨?_⟩
 intro b s σ H D I h
 refine wpAny_Assign_Subscript (thn (hv b s σ H _ I h) fun r z ⟨v,l,m,f,e⟩=>thn (ho b z σ l _ m e) fun u C ⟨x,w,d,k,p⟩=>thn (hi b C σ w _ d p) fun K J c=>?_) hs
 obtain⟨y,G,B,t,a,q,j,g,n⟩:=c
 subst j
 obtain rfl:u=Value.ref a:=k
 exact d_setItem hu B g t f fun F E=>⟨σ,q,E,n⟩
end
theorem dk_empty {H:Hp}(h:Heap)(hb:sysModules<h.objs.size):Cb P w H (h.push { cls:=.type "dict", data:=.dict #[] }) h.objs.size (.dK []) :=
 ⟨Zt _,Zam.mpr (Zdi (Z5 hb)),[],.nil,Heap.DictOf.new h⟩
theorem dt_empty {H:Hp}(h:Heap)(hb:sysModules<h.objs.size):Cb P w H (h.push { cls:=.type "dict", data:=.dict #[] }) h.objs.size (.dT []) :=
 ⟨Zt _,Zam.mpr (Zdi (Z5 hb)),[],.nil,_,#[],0,Zn _ rfl,⟨rfl,rfl,rfl⟩,rfl,rfl,List.nodup_nil⟩
def tDNewK:TE:=fun _ H Q=>∀ p,H p=none→Q (.ref p) (upd H p (.dK []))
def tDNewT:TE:=fun _ H Q=>∀ p,H p=none→Q (.ref p) (upd H p (.dT []))
section
variable {X:Cx} {pos:Pos}
theorem Gk:PE X (.Dict [] [] pos) tDNewK:=⟨fun b s σ H Q I h =>
 wpAny_Dict_empty ⟨.ref s.heap.objs.size,_,I.laid (a:=s.heap.objs.size) (o:=.dK []) (t':=s.toks) (fun _ _ q=>Zc _ q) (Zd _) (dk_empty s.heap I.big),rfl,h _ (I.hok.fresh (Zd _))⟩⟩
theorem pe_dnewT:PE X (.Dict [] [] pos) tDNewT:=⟨fun b s σ H Q I h =>
 wpAny_Dict_empty ⟨.ref s.heap.objs.size,_,I.laid (a:=s.heap.objs.size) (o:=.dT []) (t':=s.toks) (fun _ _ q=>Zc _ q) (Zd _) (dt_empty s.heap I.big),rfl,h _ (I.hok.fresh (Zd _))⟩⟩
end
structure M2 (X:Cx) (o:Expr) (m:Str) (apos:Pos) (e f:Expr) (cpos:Pos):Prop where
 base:attributeBase o m X.env (eval o X.env)=eval o X.env
 few:((backTo cpos (starEach [e,f] X.env)).all (fun x=>!x.1) && (backToKw cpos (keywordEach [] X.env)).all (fun x=>x.1.isSome)
  && decide (([e,f]:List Expr).length+([]:List Keyword).length+(if ([]:List Keyword).isEmpty then 0 else 1)<30))=true
 line:(apos.endLine == cpos.line)=true
 trees:backTo cpos (starEach [e,f] X.env)=[(false,eval e X.env),(false,eval f X.env)]
end
end L2
namespace HT
noncomputable section
open PySem PyProof.Rows
theorem eqAt_int (A:Around)(s:Shared)(a:Int)(t:Tok)(c:Int)(u:Tok):∃ e,SeqAt.EqAt A s (.int a t) (.int c u) e∧(e=true↔a=c) :=
 ⟨(a == c),SeqAt.EqAt.int_int a t c u,by simp⟩
section
open PySem.SeqAt
open PySem.AutoSeq1 (wpAny_loadPart')
open PySem.MeetsSeq PySem.MeetsSeq2 PySem.MeetsSeq3
end
section
variable {prog:Program} {w:World} {A:Around} {E:Value→Shared→Prop} {s:Shared}
theorem cat_tup {t b:Addr}{vs ws:List Value}{Q:Value→Shared→Prop}(ht:IsTup s.heap t vs.toArray)(hb:IsTup s.heap b ws.toArray)(hv:vs≠[])(h1:ws=[]→Q (.ref t) s)(h2:ws≠[]→Q (.ref s.heap.objs.size) { s with heap:=s.heap.push { cls:=.type "tuple", data:=.seq (vs++ws).toArray } })(hsz:vs.length+ws.length≤sizeLine):wpAny (model prog w) A (binaryOp .Add (.ref t) (.ref b)) Q E s:=by
 obtain⟨⟨cls,o,data,m⟩,d,j,n,l⟩:=id ht
 obtain⟨⟨q,g,p,h⟩,a,f,k,i⟩:=id hb
 simp only at j l f i
 subst j l f i
 have e:vs.toArray++ws.toArray=(vs++ws).toArray:=by simp
 by_cases c:ws=[]
 ·exact concat_meets ⟨_,d,rfl⟩ ⟨_,a,rfl⟩ noFill_tuple_add seq_tuple_add PySem.F.slot_tuple_add PySem.F.entry_tuple_add (PySem.F.args_tuple_add_2 _ _)
   (tuple_addW1 t b vs.toArray ws.toArray n k o g m h (by simpa using hv) (by simp[c])) ⟨d,a,h1 c⟩
 ·refine concat_meets ⟨_,d,rfl⟩ ⟨_,a,rfl⟩ noFill_tuple_add seq_tuple_add PySem.F.slot_tuple_add PySem.F.entry_tuple_add (PySem.F.args_tuple_add_2 _ _)
   (tuple_addW2 t b vs.toArray ws.toArray n k o g m h (by simpa using hv) (by simpa using c) (by rw[Zh,Zh];exact hsz)) ⟨d,a,?_⟩
  rw[e]
  exact h2 c
def sIx (n d:Nat):Option Int→Nat
 | none=>d
 | some v=>if v<0 then (v+(n:Int)).toNat else min v.toNat n
theorem sIx_none (n d:Nat):sIx n d none=d:=rfl
theorem sIx_nat (n d k:Nat):sIx n d (some (k:Int))=min k n:=by
 show (if (k:Int)<0 then ((k:Int)+(n:Int)).toNat else min (k:Int).toNat n)=min k n
 rw[Zs (by lia),Int.toNat_natCast]
theorem sIx_le (n d:Nat)(hd:d≤n)(o:Option Int):sIx n d o≤n:=by
 cases o with
 | none=>exact hd
 | some v =>
  show (if v<0 then (v+(n:Int)).toNat else min v.toNat n)≤n
  by_cases a:v<0
  ·rw[Zw a];lia
  ·rw[Zs a];exact Nat.min_le_right _ _
theorem clip_eq (v:Int)(n d:Nat):(if v<0 then max (v+(n:Int)) 0 else min v (n:Int))=((sIx n d (some v):Nat):Int):=by
 show (if v<0 then max (v+(n:Int)) 0 else min v (n:Int))=(((if v<0 then (v+(n:Int)).toNat else min v.toNat n):Nat):Int)
 by_cases a:v<0
 ·simp only[Zw a];lia
 ·simp only[Zs a];lia
theorem adjust_gen (lo hi:Option Int)(n:Nat):Builtin.Slice.sliceAdjust lo hi 1 (n:Int)=(((sIx n 0 lo:Nat):Int),((sIx n n hi:Nat):Int)):=by
 have a:¬ ((1:Int)<0):=by lia
 unfold Builtin.Slice.sliceAdjust
 simp only[a,Zc3]
 refine Prod.ext ?_ ?_
 ·cases lo with
  | none=>rfl
  | some v=>exact clip_eq v n 0
 ·cases hi with
  | none=>rfl
  | some v=>exact clip_eq v n n
theorem places_gen (i j:Nat):Builtin.Slice.slicePlaces (i:Int) (j:Int) 1=j - i:=by
 unfold Builtin.Slice.slicePlaces
 have a:(1:Int) > 0:=by lia
 simp only[a,if_true,Int.ediv_one]
 split <;> lia
theorem Hw {Q:Option Int→Shared→Prop}(p:IsPart v o)(h:Q o s):wpAny (model prog w) A (Builtin.Slice.slicePartIndex v) Q E s:=by
 cases p with
 | none=>exact slicePart_none h
 | int i t=>exact slicePart_int h
theorem Gc {sl:Addr}{vl vu:Value}{lo hi:Option Int}{n:Nat}{Q:Int×Int×Nat→Shared→Prop}(hs:s.heap.IsSliceOf sl vl vu .none)(pl:IsPart vl lo)(pu:IsPart vu hi)(h:Q (((sIx n 0 lo:Nat):Int),1,sIx n n hi - sIx n 0 lo) s):wpAny (model prog w) A (Builtin.Slice.sliceApplied (.ref sl) (pure (n:Int))) Q E s:=by
 obtain⟨d,a,c,b⟩:=id hs
 unfold Builtin.Slice.sliceApplied Builtin.Slice.sliceFields
 refine Zb (Zb (Zcj a b (x:=vl) rfl (Zb (Zcj a b (x:=vu) rfl (Zb (Zcj a b (x:=.none) rfl (Zk ?_)))))))
 refine Zb (slicePart_none ?_)
 show wpAny _ _ (if ((1:Int) == 0)=true then _ else _) _ _ s
 rw[Zs (by decide)]
 refine Zb (Hw pl (Zb (Hw pu (Zb (Zk ?_)))))
 show wpAny _ _ (match Builtin.Slice.sliceAdjust lo hi 1 (n:Int) with | (lo,hi)=>pure (lo,(1:Int),Builtin.Slice.slicePlaces lo hi 1)) _ _ s
 rw[adjust_gen lo hi n]
 show wpAny _ _ (pure (((sIx n 0 lo:Nat):Int),(1:Int),Builtin.Slice.slicePlaces ((sIx n 0 lo:Nat):Int) ((sIx n n hi:Nat):Int) 1)) _ _ s
 rw[places_gen]
 exact Zk h
theorem pick_gen (xs:Array Value)(i k:Nat):((List.range k).filterMap fun (m:Nat)=>xs[((i:Int)+(m:Int) * 1).toNat]?).toArray=((xs.toList.drop i).take k).toArray:=by
 have e:(fun (m:Nat)=>xs[((i:Int)+(m:Int) * 1).toNat]?)=fun m=>xs[i+m]?:=by
  funext m
  have:((i:Int)+(m:Int) * 1).toNat=i+m:=by lia
  rw[this]
 rw[e]
 have:=pick_run xs i k
 rw[List.filterMap_map] at this
 have a:((fun x=>xs[x]?) ∘ fun x=>i+x)=fun m=>xs[i+m]?:=rfl
 rw[a] at this
 rw[this]
theorem getItem_tuple_cut {t sl:Addr}{items:Array Value}{vl vu:Value}{lo hi:Option Int}{Q:Value→Shared→Prop}(ht:IsTup s.heap t items)(hs:s.heap.IsSliceOf sl vl vu .none)(pl:IsPart vl lo)(pu:IsPart vu hi)(hw:¬ (sIx items.size 0 lo=0∧sIx items.size items.size hi=items.size))(h:Q (.ref s.heap.objs.size) { s with heap:=s.heap.push { cls:=.type "tuple", data:=.seq ((items.toList.drop (sIx items.size 0 lo)).take (sIx items.size items.size hi - sIx items.size 0 lo)).toArray } })(hsz:items.size≤sizeLine):wpAny (model prog w) A (getItem (.ref t) (.ref sl)) Q E s:=by
 have a:sizeOk (.seq ((items.toList.drop (sIx items.size 0 lo)).take (sIx items.size items.size hi - sIx items.size 0 lo)).toArray):=by
  show ((items.toList.drop (sIx items.size 0 lo)).take (sIx items.size items.size hi - sIx items.size 0 lo)).toArray.size≤sizeLine
  rw[Zh,Z6,Zbl,Zad]
  lia
 have j:sIx items.size items.size hi≤items.size:=sIx_le _ _ (Zd _) hi
 obtain⟨f,d,c,g⟩:=id hs
 have e:s.TypeIs (.ref sl) "slice" := ⟨f,d,c⟩
 unfold getItem
 try with_reducible refine Zbc ?_
 first | refine Zb (Zk ?_) | skip
 refine Zb (wpAny_sequenceKey ht.typeIs (by decide) ?_)
 refine Zb (wpAny_callSpecial?_slot (name:=Str.ofString "__getitem__") ht.typeIs Zcq
  (Zbu Zcq ht.typeIs entry_tuple_getitem ?_ (args_tuple_getitem _ _)))
 show wpAny _ _ (Builtin.Tuple.tupleItemsOf (.ref t) >>= _) _ _ s
 refine Zb (tupleItemsOf_ ht ?_)
 refine Zb (wpAny_typeOf e ?_)
 rw[Zw (by decide)]
 refine Zb (Gc hs pl pu ?_)
 have b:¬ ((((sIx items.size 0 lo:Nat):Int) == 0 && (1:Int) == 1 && (sIx items.size items.size hi - sIx items.size 0 lo) == items.size)=true):=by
  intro q
  rw[Zay,Zay] at q
  have k:((sIx items.size 0 lo:Nat):Int)=0:=eq_of_beq q.1.1
  have i:sIx items.size items.size hi - sIx items.size 0 lo=items.size:=eq_of_beq q.2
  exact hw ⟨by lia,by lia⟩
 show wpAny _ _ (if (((sIx items.size 0 lo:Nat):Int) == 0 && (1:Int) == 1 && (sIx items.size items.size hi - sIx items.size 0 lo) == items.size)=true then _ else _) _ _ s
 rw[Zs b,pick_gen]
 first
  | exact Zb (m:=Builtin.Tuple.tupleExact _) (Zby (Zk ⟨_,rfl,Zk h⟩) a)
  | exact Zb (m:=Builtin.Tuple.tupleExact _) (Zby (Zb (Zk (Zk ⟨_,rfl,Zk h⟩))) a)
  | exact Zb (Zb (m:=Builtin.Tuple.tupleExact _) (Zby (Zk (Zk ⟨_,rfl,Zk h⟩)) a))
  | exact Zb (Zb (m:=Builtin.Tuple.tupleExact _) (Zby (Zk ⟨_,rfl,Zk h⟩) a))
end
end
end HT
namespace L2
noncomputable section
open PySem PySem.Spec PyProof.Rows
abbrev TO:=St→Hp→(Option Int→Hp→Prop)→Prop
structure PO (X:Cx) (e:Option Expr) (t:TO):Prop where
 run:∀ (pins:List (Addr×Obj)) (s:Shared) (σ:St) (H:Hp) (Q:Option Int→Hp→Prop),Inv X pins σ H s→t σ H Q →
  wpAny (model X.prog X.w) X.A (evalPart e X.env) (fun u s'=>∃ o H',Inv X pins σ H' s'∧IsPart u o∧Q o H') X.xe s
instance {X:Cx} {e:Option Expr} {t:TO}:CoeFun (PO X e t) fun _=>∀ (pins:List (Addr×Obj)) (s:Shared) (σ:St) (H:Hp) (Q:Option Int→Hp→Prop),Inv X pins σ H s→t σ H Q →
  wpAny (model X.prog X.w) X.A (evalPart e X.env) (fun u s'=>∃ o H',Inv X pins σ H' s'∧IsPart u o∧Q o H') X.xe s:=⟨PO.run⟩
def tNoPart:TO:=fun _ H Q=>Q none H
inductive tPart_ (Q:Option Int→Hp→Prop) (x:V) (H1:Hp):Prop
 | mk (i:_) (_:x = .int i) (_:Q (some i) H1)
def tPart (t:TE):TO:=fun σ H Q=>t σ H fun x H1=>tPart_ Q x H1
section
variable {X:Cx} {e:Expr} {te:TE} {lo hi:Option Expr} {tl th:TO} {pos p2:Pos}
theorem po_none:PO X none tNoPart:=by
 refine⟨?_⟩
 intro a s σ H Q I h
 rw[evalPart_none]
 exact Zk ⟨none,H,I,.none,h⟩
theorem po_some (h:PE X e te):PO X (some e) (tPart te):=by
 refine⟨?_⟩
 intro a s σ H Q I g
 rw[evalPart_some]
 refine thn (h a s σ H _ I g) fun u k b=>?_
 obtain⟨x,f,d,j,c⟩:=b
 obtain⟨i,rfl,q⟩:=c
 obtain⟨t,rfl⟩:=j
 exact⟨some i,f,d,.int i t,q⟩
def SlR (X:Cx)(r:V→Option Int→Option Int→Hp→VK→Prop):Prop :=
 ∀ (pins:List (Addr×Obj)) (s:Shared) (σ:St) (H:Hp) (x:V) (v vl vu:Value) (lo hi:Option Int) (sl:Addr) (Q:VK),Inv X pins σ H s→Bl x v→s.heap.IsSliceOf sl vl vu .none→IsPart vl lo→IsPart vu hi→r x lo hi H Q →
  ∃ T id,typeLookup (.type T) "__getitem__" = pure (some (.builtin id))∧s.TypeIs v T∧wpAny (model X.prog X.w) X.A (getItem v (.ref sl)) (EP X pins σ Q) X.xe s
def tSl (r:V→Option Int→Option Int→Hp→VK→Prop)(te:TE)(tl th:TO):TE:=fun σ H Q=>te σ H fun x H1=>tl σ H1 fun l H2=>th σ H2 fun u H3=>r x l u H3 Q
theorem Jv {r:V→Option Int→Option Int→Hp→VK→Prop}(hr:SlR X r)(he:PE X e te)(hl:PO X lo tl)(hu:PO X hi th):PE X (.Subscript e (.Slice lo hi none p2) pos) (tSl r te tl th):=by
 refine⟨?_⟩
 intro a s σ H Q I h
 refine Subscript_ (thn (he a s σ H _ I h) fun v C d=>?_)
 obtain⟨x,o,n,F,m⟩:=d
 refine wpAny_Slice (thn (hl a C σ o _ n m) fun f E ⟨l,B,j,J,y⟩=>thn (hu a E σ B _ j y) fun g c d=>?_)
 obtain⟨u,i,D,k,p⟩:=d
 rw[evalPart_none]
 refine Zk ?_
 have G:Inv X a σ i { c with heap:=c.heap.push { cls:=.type "slice", data:=.fields #[f,g,.none] } }:=D.kept (t':=c.toks) fun b ob q=>Zc _ q
 obtain⟨T,id,z,ht,t⟩:=hr a { c with heap:=c.heap.push { cls:=.type "slice", data:=.fields #[f,g,.none] } } σ i x v f g l u c.heap.objs.size Q G F (Heap.IsSliceOf.new ..) J k p
 show wpAny (model X.prog X.w) X.A (subscriptTail e (.Slice lo hi none p2) v (.ref c.heap.objs.size)) (EP X a σ Q) X.xe { c with heap:=c.heap.push { cls:=.type "slice", data:=.fields #[f,g,.none] } }
 exact tail_any (ops:=[.ref c.heap.objs.size,v]) ht z t (by with_unfolding_all rfl)
def cutV (xs:List V)(lo hi:Option Int):List V:=(xs.drop (HT.sIx xs.length 0 lo)).take (HT.sIx xs.length xs.length hi - HT.sIx xs.length 0 lo)
theorem Hd (xs:List V)(lo hi:Option Int):(cutV xs lo hi).length≤xs.length:=by
 unfold cutV
 rw[Z6,Zbl]
 lia
inductive rSlT (K:PySem.W.Frag) (x:V) (lo hi:Option Int) (H:Hp) (Q:VK):Prop
 | mk (a xs:_) (_:x = .ref a) (_:SqT K H a xs) (_:¬ (HT.sIx xs.length 0 lo=0∧HT.sIx xs.length xs.length hi=xs.length)) (_:∀ p,H p=none→Q (.ref p) (upd H p (.tup (cutV xs lo hi))))
theorem sl_tup:SlR X (rSlT X.K):=by
 intro j s σ H x v u y e f w Q I m k t l h
 obtain⟨a,d,rfl,p,n,q⟩:=h
 cases m
 obtain⟨i,r,ht,g⟩:=I.tuple p
 have c:i.toArray.size=d.length:=by rw[Zh];exact r.length.symm
 refine⟨"tuple", _,Zcq.lookup,ht.typeIs,?_⟩
 refine HT.getItem_tuple_cut ht k t l (by rw[c];exact n) ?_ (by rw[c];exact g)
 rw[c]
 refine⟨.ref s.heap.objs.size,_,I.laid (t':=s.toks) (o:=.tup (cutV d e f)) (fun b ob q=>Zc _ q) (Zd _) ?_,rfl,q _ (I.hok.fresh (Zd _))⟩
 exact⟨Zah (Hd d e f) g,_,(r.drop (HT.sIx d.length 0 e)).take (HT.sIx d.length d.length f - HT.sIx d.length 0 e),IsTup.new _ _⟩
inductive rCatT (K:PySem.W.Frag) (x y:V) (H:Hp) (Q:VK):Prop
 | mk (a b xs ys:_) (_:x = .ref a) (_:y = .ref b) (_:SqT K H a xs) (_:SqT K H b ys) (_:xs≠[]) (_:xs.length+ys.length≤sizeLine) (_:(ys=[]→Q (.ref a) H)) (_:(ys≠[]→∀ p,H p=none→Q (.ref p) (upd H p (.tup (xs++ys)))))
theorem Bi.nil_iff (r:Bi xs us):us=[]↔xs=[]:=by
 cases r with
 | nil=>simp
 | cons _ _=>simp
theorem op_catT:OpR X (binaryOp .Add) (rCatT X.K):=by
 intro f s σ H x y v u Q I j r h
 obtain⟨a,b,k,n,rfl,rfl,i,t,B,e,g,l⟩:=h
 cases j
 cases r
 obtain⟨C,d,A,_⟩:=I.tuple i
 obtain⟨m,c,p,_⟩:=I.tuple t
 refine HT.cat_tup A p (fun z=>B (d.nil_iff.mp z)) (fun z=>⟨.ref a,H,I,rfl,g (c.nil_iff.mp z)⟩) (fun z=>?_) (by rw[← d.length,← c.length];exact e)
 refine⟨.ref s.heap.objs.size,_,I.laid (t':=s.toks) (o:=.tup (k++n)) (fun b ob q=>Zc _ q) (Zd _) ?_,rfl,l (fun w=>z (c.nil_iff.mpr w)) _ (I.hok.fresh (Zd _))⟩
 exact⟨by rw[Zv];exact e,_,d.append c,IsTup.new _ _⟩
end
end
end L2
namespace L2
noncomputable section
open PySem PySem.Spec PyProof.Rows
def ixN (n:Nat)(i:Int):Option Nat:=if 0≤i then (if i<n then some i.toNat else none) else if -(n:Int)≤i then some (i+n).toNat else none
def atI {α:Type}(xs:List α)(i:Int):Option α:=(ixN xs.length i).bind fun j=>xs[j]?
theorem ixN_seq {n:Nat}{i:Int}{j:Nat}(h:ixN n i=some j):seqIndex? i n=some j∧j<n∧-(n:Int)≤i∧i<n:=by
 unfold ixN at h
 by_cases b:0≤i
 ·rw[Zw b] at h
  by_cases a:i<n
  ·rw[Zw a] at h
   have e:i.toNat=j:=Zm h
   exact⟨by rw[seqIndex_of b a,e],by lia,by lia,a⟩
  ·rw[Zs a] at h;cases h
 ·rw[Zs b] at h
  by_cases a : -(n:Int)≤i
  ·rw[Zw a] at h
   have e:(i+n).toNat=j:=Zm h
   exact⟨by rw[seqIndex_neg (by lia) a,e],by lia,a,by lia⟩
  ·rw[Zs a] at h;cases h
theorem atI_get {α:Type}{xs:List α}{i:Int}{v:α}(h:atI xs i=some v):∃ j,seqIndex? i xs.length=some j∧xs[j]?=some v∧j<xs.length∧-(xs.length:Int)≤i∧i<xs.length:=by
 unfold atI at h
 cases e:ixN xs.length i with
 | none=>rw[e] at h;cases h
 | some j =>
  rw[e] at h
  obtain⟨b,c,a,d⟩:=ixN_seq e
  exact⟨j,b,h,c,a,d⟩
theorem Be {α:Type}{xs:List α}{j:Nat}{v:α}(h:xs[j]?=some v):atI xs (j:Int)=some v:=by
 have a:j<xs.length:=(Zj.mp h).1
 have e:ixN xs.length (j:Int)=some j:=by
  unfold ixN
  rw[Zw (by lia),Zw (by lia)];simp
 unfold atI;rw[e];exact h
theorem Gp {α:Type}(xs:List α)(v:α):atI (xs++[v]) (-1)=some v:=by
 have a:(xs++[v]).length=xs.length+1:=by simp
 have e:ixN (xs++[v]).length (-1)=some xs.length:=by
  unfold ixN
  rw[a,Zs (by decide),Zw (by lia)]
  congr 1
  lia
 unfold atI
 rw[e]
 show (xs++[v])[xs.length]?=some v
 simp
def PlainIx (b:Expr):Prop:=∀ o i,subscripted b false o i=operate [o,i] (getItem o i)
def IxR (X:Cx)(r:R2):Prop :=
 ∀ (value slice:Expr) (pins:List (Addr×Obj)) (s:Shared) (σ:St) (H:Hp) (x y:V) (v u:Value) (Q:VK),Inv X pins σ H s→Bl x v→Bl y u→r x y H Q →
  subscripted slice false v u=operate [v,u] (getItem v u)→wpAny (model X.prog X.w) X.A (subscriptTail value slice v u) (EP X pins σ Q) X.xe s
def MtR (X:Cx)(id:String)(r:V→List V→Hp→VK→Prop):Prop :=
 ∀ (pins:List (Addr×Obj)) (s:Shared) (σ:St) (H:Hp) (x:V) (xs:List V) (v:Value) (us:List Value) (Q:VK),Inv X pins σ H s→Bl x v→Bi xs us→r x xs H Q →
  wpAny (model X.prog X.w) X.A (call (.builtin id) (v::us)) (EP X pins σ Q) X.xe s
section
variable {X:Cx} {a b:Expr} {ta tb:TE} {pos:Pos}
theorem Ar (hr:IxR X r)(ha:PE X a ta)(hb:PE X b tb)(hs:PlainIx b):PE X (.Subscript a b pos) (tOp r ta tb):=by
 refine⟨?_⟩
 intro c s σ H Q I h
 exact Subscript_ (binT ha hb I h fun v u f x y d e g i q=>hr a b c f σ d x y v u Q e g i q (hs _ _))
inductive rIxL (K:PySem.W.Frag) (x y:V) (H:Hp) (Q:VK):Prop
 | mk (p xs i v:_) (_:x = .ref p) (_:y = .int i) (_:SqL K H p xs) (_:atI xs i=some v) (_:Q v H)
inductive rIxT (K:PySem.W.Frag) (x y:V) (H:Hp) (Q:VK):Prop
 | mk (p xs i v:_) (_:x = .ref p) (_:y = .int i) (_:SqT K H p xs) (_:atI xs i=some v) (_:Q v H)
inductive rIxS (x y:V) (H:Hp) (Q:VK):Prop
 | mk (z i c:_) (_:x = .str z) (_:y = .int i) (_:z.length≤sizeLine) (_:atI z.cps.toList i=some c) (_:Q (.str ⟨#[c]⟩) H)
theorem Ax:IxR X (rIxL X.K):=by
 intro n m a s σ H x y v u Q I D E h e
 obtain⟨p,L,i,z,rfl,rfl,J,C,q⟩:=h
 cases D
 obtain⟨t,rfl⟩:=E
 obtain⟨l,r,d,M⟩:=I.list J
 obtain⟨j,b,o,O,A,G⟩:=atI_get C
 obtain⟨w,f,g⟩:=r.get o
 have F:=r.length
 have N:=Hb
 have fin:EP X a σ Q w s:=⟨z,H,I,g,q⟩
 by_cases k:0≤i
 ·have c:i.toNat=j:=by
   rw[seqIndex_of k G] at b
   exact Zm b
  exact item_listR d.isList k (by lia) (by rw[c];simpa using f) fin e
 ·have c:(i+(l.toArray.size:Int)).toNat=j:=by
   rw[seqIndex_neg (by lia) A] at b
   rw[Zh,← F]
   exact Zm b
  exact subscriptTail_builtinR (x:=w) d.isList.typeIs slot_list_getitem.lookup
   (wpAny_getItem_list_neg (Q:=fun r B=>r=w∧EP X a σ Q r B) d.isList (by lia) (by rw[Zh] <;> lia) (by lia) (by rw[c];simpa using f) ⟨rfl,fin⟩) e
theorem Az:IxR X (rIxT X.K):=by
 intro e d a s σ H x y v u Q I o A h k
 obtain⟨p,F,i,z,rfl,rfl,C,m,q⟩:=h
 cases o
 obtain⟨t,rfl⟩:=A
 obtain⟨D,r,c,G⟩:=I.tuple C
 obtain⟨j,f,g,L,E,M⟩:=atI_get m
 obtain⟨w,n,b⟩:=r.get g
 have B:=r.length
 have J:=Hb
 have fin:EP X a σ Q w s:=⟨z,H,I,b,q⟩
 exact subscriptTail_builtinR (x:=w) c.typeIs slot_tuple_getitem.lookup
  (getItem_tuple (j:=j) (Q:=fun r l=>r=w∧EP X a σ Q r l) c (by lia) (by lia) (by rw[Zh,← B];exact f) (by simpa using n) ⟨rfl,fin⟩) k
theorem ix_str:IxR X rIxS:=by
 intro d b e s σ H x y v u Q I n o h g
 obtain⟨z,i,c,rfl,rfl,A,l,q⟩:=h
 obtain⟨t,rfl⟩:=n
 obtain⟨D,rfl⟩:=o
 obtain⟨j,a,f,C,k,r⟩:=atI_get l
 have p:z.cps.toList.length=z.length:=by simp[Str.length]
 rw[p] at a k r
 have B:=Hb
 exact tail_any (typeIs_str s z t) slot_str_getitem.lookup (getItem_str (c:=c) (by
  have m:decide (i < -(2 ^ 63:Int))=false:=Z9 (by lia)
  have w:decide (i≥2 ^ 63)=false:=Z9 (by lia)
  rw[m,w,Bool.or_false]) (by rw[a];simpa using f) ⟨.str ⟨#[c]⟩,H,I.tok _,⟨_,rfl⟩,q⟩) g
theorem mapSeq_set (its:List Value)(n j:Nat)(u:Value):Obj.mapSeq (·.setIfInBounds j u) { cls:=.type "list", data:=.seq its.toArray n }={ cls:=.type "list", data:=.seq (its.set j u).toArray n }:=by
 simp[Obj.mapSeq]
theorem Inv.lst {H:Hp}{s:Shared}(I:Inv X pins σ H s)(h:H p=some (.lst xs)) :
  ∃ (its:List Value) (n:Nat),Bi xs its∧s.heap.get? p=some { cls:=.type "list", data:=.seq its.toArray n }∧xs.length≤sizeLine:=by
 obtain⟨z,its,n,r,e⟩:=I.hok p _ h
 exact⟨its,n,r,e,z⟩
theorem Inv.lstUpd {H:Hp}{s:Shared}{xs ys:List V}{its its' : List Value}{n n' : Nat}{f:Obj→Obj}(I:Inv X pins σ H s)(h:H p=some (.lst xs))(ho:s.heap.get? p=some { cls:=.type "list", data:=.seq its.toArray n })(hf:f { cls:=.type "list", data:=.seq its.toArray n }={ cls:=.type "list", data:=.seq its'.toArray n' })(r:Bi ys its')(hz:ys.length≤sizeLine)(t:Nat) :
  Inv X pins σ (upd H p (.lst ys)) { s with heap:=s.heap.update p f,toks:=t }:=by
 have e:(s.heap.update p f).get? p=some { cls:=.type "list", data:=.seq its'.toArray n' }:=by
  rw[Zce f ho (by rw[hf] <;> rfl),hf]
 refine I.write (x:=p) (e:=p) (by rw[h];trivial) (.inl rfl) (fun b u a q=>(Za7 _ _ (Zdi a)).trans q) ⟨_,e⟩ ?_
 exact⟨hz,its',n',r,e⟩
inductive rSetL (o i v:V) (H:Hp) (Q:(Hp→Prop)):Prop
 | mk (p xs k j:_) (_:o = .ref p) (_:i = .int k) (_:H p=some (.lst xs)) (_:ixN xs.length k=some j) (_:Q (upd H p (.lst (xs.set j v))))
theorem set_list:PSet X rSetL:=by
 intro d s σ H o i v F J u Q I C B z h
 obtain⟨p,D,k,j,rfl,rfl,x,y,q⟩:=h
 cases C
 obtain⟨t,rfl⟩:=B
 obtain⟨b,n,r,e,A⟩:=I.lst x
 obtain⟨a,E,w,g⟩:=ixN_seq y
 have f:=r.length
 have G:=Hb
 have l : Inv X d σ (upd H p (.lst (D.set j v))) { s with heap:=s.heap.update p (Obj.mapSeq (·.setIfInBounds j u)) } :=
  I.lstUpd x e (mapSeq_set b n j u) (r.set z j) (by rw[List.length_set];exact A) s.toks
 by_cases m:0≤k
 ·have c:k.toNat=j:=by
   rw[seqIndex_of m g] at a
   exact Zm a
  exact PySem.W.ki_setAt e m (by lia) (by rw[Zh,← f];exact g) (by rw[c];exact⟨_,l,q⟩)
 ·have c:(k+(b.toArray.size:Int)).toNat=j:=by
   rw[seqIndex_neg (by lia) w] at a
   rw[Zh,← f]
   exact Zm a
  exact PySem.W.ki_setBack e (by lia) (by rw[Zh,← f];exact w) (by lia) (by rw[c];exact⟨_,l,q⟩)
theorem slice_bounds (lo hi:Option Int)(n:Nat):(sliceBounds lo hi none n).1=((HT.sIx n 0 lo:Nat):Int)∧(sliceBounds lo hi none n).2.1=((HT.sIx n n hi:Nat):Int)∧(sliceBounds lo hi none n).2.2=1:=by
 refine⟨?_,?_,rfl⟩
 ·cases lo with
  | none=>simp[sliceBounds,HT.sIx]
  | some i =>
   simp only[sliceBounds,HT.sIx,Option.getD_none,show (1:Int) > 0 by decide,if_true]
   by_cases h:i<0
   ·simp only[h,if_true] <;> lia
   ·simp only[h,Zc3] <;> lia
 ·cases hi with
  | none=>simp[sliceBounds,HT.sIx]
  | some i =>
   simp only[sliceBounds,HT.sIx,Option.getD_none,show (1:Int) > 0 by decide,if_true]
   by_cases h:i<0
   ·simp only[h,if_true] <;> lia
   ·simp only[h,Zc3] <;> lia
theorem Jh (its:List Value)(lo hi:Option Int):slicePick its.toArray lo hi none=((its.drop (HT.sIx its.length 0 lo)).take (HT.sIx its.length its.length hi - HT.sIx its.length 0 lo)).toArray:=by
 obtain⟨a,c,b⟩:=slice_bounds lo hi its.toArray.size
 unfold slicePick
 rw[a,c,b]
 simp only[sliceRange_one,pick_run,Zh] <;> rfl
inductive rSlL (K:PySem.W.Frag) (x:V) (lo hi:Option Int) (H:Hp) (Q:VK):Prop
 | mk (a xs:_) (_:x = .ref a) (_:SqL K H a xs) (_:∀ p,H p=none→Q (.ref p) (upd H p (.lst (cutV xs lo hi))))
theorem sl_list:SlR X (rSlL X.K):=by
 intro g s σ H x v t w d f u Q I k i n j h
 obtain⟨a,c,rfl,m,q⟩:=h
 cases k
 obtain⟨p,r,ht,l⟩:=I.list m
 have e:=r.length
 refine⟨"list", _,slot_list_getitem.lookup,ht.isList.typeIs,?_⟩
 refine wpAny_getItem_list_slice ht.isList i n j .none (by simp) ?_ (by rw[Zh] <;> lia)
 rw[Jh,← e]
 refine⟨.ref s.heap.objs.size,_,I.laid (t':=s.toks) (o:=.lst (cutV c d f)) (fun b ob q=>Zc _ q) (Zd _) ?_,rfl,q _ (I.hok.fresh (Zd _))⟩
 exact⟨Zah (Hd c d f) l,_,0,(r.drop (HT.sIx c.length 0 d)).take (HT.sIx c.length c.length f - HT.sIx c.length 0 d),Zn _ rfl⟩
def De:V→Bool
 | .non=>true
 | .bl _=>true
 | .int _=>true
 | .str _=>true
 | _=>false
def eqV:V→V→Bool
 | .non,.non=>true
 | .bl a,.bl b=>a == b
 | .bl a,.int b=>(if a then 1 else 0) == b
 | .int a,.bl b=>a == (if b then 1 else 0)
 | .int a,.int b=>a == b
 | .str a,.str b=>a == b
 | _,_=>false
theorem eqAt_V (ry:Bl y u)(rx:Bl x v)(fy:De y=true)(fx:De x=true):SeqAt.EqAt A s u v (eqV y x):=by
 cases y with
 | non =>
  cases ry
  cases x with
  | non=>cases rx;exact SeqAt.EqAt.same _
  | bl b=>cases rx;exact SeqAt.EqAt.none_bool b
  | int b=>obtain⟨t,rfl⟩:=rx;exact SeqAt.EqAt.none_int b t
  | str b=>obtain⟨t,rfl⟩:=rx;exact SeqAt.EqAt.none_str b t
  | _=>exact absurd (show false=true from fx) Zu
 | bl a =>
  cases ry
  cases x with
  | non=>cases rx;exact SeqAt.EqAt.bool_none a
  | bl b=>cases rx;exact SeqAt.EqAt.bool_bool a b
  | int b=>obtain⟨t,rfl⟩:=rx;exact SeqAt.EqAt.bool_int a b t
  | str b=>obtain⟨t,rfl⟩:=rx;exact SeqAt.EqAt.bool_str a b t
  | _=>exact absurd (show false=true from fx) Zu
 | int a =>
  obtain⟨c,rfl⟩:=ry
  cases x with
  | non=>cases rx;exact SeqAt.EqAt.int_none a c
  | bl b=>cases rx;exact SeqAt.EqAt.int_bool a c b
  | int b=>obtain⟨t,rfl⟩:=rx;exact SeqAt.EqAt.int_int a c b t
  | str b=>obtain⟨t,rfl⟩:=rx;exact SeqAt.EqAt.int_str a c b t
  | _=>exact absurd (show false=true from fx) Zu
 | str a =>
  obtain⟨c,rfl⟩:=ry
  cases x with
  | non=>cases rx;exact SeqAt.EqAt.str_none a c
  | bl b=>cases rx;exact SeqAt.EqAt.str_bool a c b
  | int b=>obtain⟨t,rfl⟩:=rx;exact SeqAt.EqAt.str_int a c b t
  | str b=>obtain⟨t,rfl⟩:=rx;exact Zc4 a c b t
  | _=>exact absurd (show false=true from fx) Zu
 | _=>exact absurd (show false=true from fy) Zu
def eqU (x:V)(u:Value):Bool:=match u with
 | .none=>eqV .non x
 | .bool b=>eqV (.bl b) x
 | .int i _=>eqV (.int i) x
 | .str z _=>eqV (.str z) x
 | _=>false
theorem eqU_of (r:Bl y u)(f:De y=true):eqU x u=eqV y x:=by
 cases y with
 | non=>cases r;rfl
 | bl b=>cases r;rfl
 | int i=>obtain⟨t,rfl⟩:=r;rfl
 | str z=>obtain⟨t,rfl⟩:=r;rfl
 | _=>exact absurd (show false=true from f) Zu
theorem Ho:∀ {xs:List V} {us:List Value},Bi xs us→xs.all De=true→us.any (eqU x)=xs.any fun y=>eqV y x
 | _,_,.nil,_=>rfl
 | y::xs,u::us,.cons r t,f=>by
  rw[List.all_cons,Zay] at f
  rw[List.any_cons,List.any_cons,eqU_of r f.1,Ho t f.2]
theorem Et (rx:Bl x v)(fx:De x=true):∀ {xs:List V} {us:List Value},Bi xs us→xs.all De=true→∀ u∈us,SeqAt.EqAt A s u v (eqU x u)
 | _,_,.nil,_=>fun u hu=>by cases hu
 | y::xs,u::us,.cons r t,f=>fun u' hu=>by
  rw[List.all_cons,Zay] at f
  rcases Zr.mp hu with rfl | hu
  ·rw[eqU_of r f.1];exact eqAt_V r rx f.1 fx
  ·exact Et rx fx t f.2 u' hu
def inV (x:V)(xs:List V):Bool:=xs.any fun y=>eqV y x
inductive rIn (K:PySem.W.Frag) (neg:Bool) (x y:V) (H:Hp) (Q:VK):Prop
 | mk (p xs:_) (_:y = .ref p) (_:(SqL K H p xs∨SqT K H p xs)) (_:De x=true) (_:xs.all De=true) (_:Q (.bl (if neg then !inV x xs else inV x xs)) H)
theorem op_in_seq:OpR X (compareOp .In) (rIn X.K false):=by
 intro g s σ H x y v u Q I e j h
 obtain⟨p,k,rfl,b,f,fs,q⟩:=h
 cases j
 rcases b with b | b
 ·obtain⟨a,r,d,i⟩:=I.list b
  refine SeqAt.in_listAt (eqU x) d.isList (fun w c=>Et e f r fs w (by simpa using c)) ⟨.bl _,H,I,rfl,?_⟩
  rw[show a.toArray.any (eqU x)=a.any (eqU x) by simp,Ho r fs]
  exact q
 ·obtain⟨a,r,d,i⟩:=I.tuple b
  refine SeqAt.in_tupleAt (eqU x) d (fun w c=>Et e f r fs w (by simpa using c)) ⟨.bl _,H,I,rfl,?_⟩
  rw[show a.toArray.any (eqU x)=a.any (eqU x) by simp,Ho r fs]
  exact q
theorem op_notIn_seq:OpR X (compareOp .NotIn) (rIn X.K true):=by
 intro g s σ H x y v u Q I e j h
 obtain⟨p,k,rfl,b,f,fs,q⟩:=h
 cases j
 rcases b with b | b
 ·obtain⟨a,r,d,i⟩:=I.list b
  refine SeqAt.notIn_listAt (eqU x) d.isList (fun w c=>Et e f r fs w (by simpa using c)) ⟨.bl _,H,I,rfl,?_⟩
  rw[show a.toArray.any (eqU x)=a.any (eqU x) by simp,Ho r fs]
  exact q
 ·obtain⟨a,r,d,i⟩:=I.tuple b
  refine SeqAt.notIn_tupleAt (eqU x) d (fun w c=>Et e f r fs w (by simpa using c)) ⟨.bl _,H,I,rfl,?_⟩
  rw[show a.toArray.any (eqU x)=a.any (eqU x) by simp,Ho r fs]
  exact q
theorem A0:Dd X (.builtin "len") (fun xs H Q=>∃ p ys,xs=[.ref p]∧(SqL X.K H p ys∨SqT X.K H p ys)∧Q (.int ys.length) H):=by
 intro f s σ H xs j Q I r h
 obtain⟨p,ys,rfl,b,q⟩:=h
 obtain⟨u,rfl,g⟩:=Cs r
 cases g
 have k:=Hb
 rcases b with b | b
 ·obtain⟨e,c,d,i⟩:=I.list b
  have a:=c.length
  exact Calls.call_len_list d.isList (by simp only[Zh] <;> lia) ⟨.int ys.length,H,I.tok _,⟨s.toks+1,by rw[Zh,a]⟩,q⟩
 ·obtain⟨e,c,d,i⟩:=I.tuple b
  have a:=c.length
  exact len_tuple d (by simp only[Zh] <;> lia) ⟨.int ys.length,H,I.tok _,⟨s.toks+1,by rw[Zh,a]⟩,q⟩
theorem call_len_str:Dd X (.builtin "len") (fun xs H Q=>∃ z,xs=[.str z]∧z.length≤sizeLine∧Q (.int z.length) H):=by
 intro a s σ H xs d Q I r h
 obtain⟨z,rfl,c,q⟩:=h
 obtain⟨u,rfl,t,rfl⟩:=Cs r
 have b:=Hb
 exact len_str (by lia) ⟨.int z.length,H,I.tok _,⟨_,rfl⟩,q⟩
theorem call_list_of:Dd X (.type "list") (fun xs H Q=>∃ p ys,xs=[.ref p]∧(SqL X.K H p ys∨SqT X.K H p ys)∧∀ l,H l=none→Q (.ref l) (upd H l (.lst ys))):=by
 intro m s σ H xs B Q I r h
 obtain⟨p,ys,rfl,j,q⟩:=h
 obtain⟨u,rfl,A⟩:=Cs r
 cases A
 have fin:∀ (a:List Value),Bi ys a→ys.length≤sizeLine→∀ (c : Heap) (f : Nat),(∀ b z,s.heap.get? b=some z→c.get? b=some z) →
   c.get? s.heap.objs.size=some { cls:=.type "list", dict:=none,data:=.seq a.toArray f,slots:=#[] }→EP X m σ Q (.ref s.heap.objs.size) { s with heap:=c }:=fun a d i c f g e =>
  ⟨.ref s.heap.objs.size,_,I.laid (t':=s.toks) g (Zd _) (show Cb X.prog X.w _ c _ (.lst ys) from ⟨i,a,f,d,e⟩),rfl,q _ (I.hok.fresh (Zd _))⟩
 rcases j with j | j
 ·obtain⟨a,d,y,i⟩:=I.list j
  have x:=d.length
  obtain⟨o,t,k,n,v⟩:=y.isList
  exact call_list_seq p (.inl rfl) t k v (fun c f g e=>fin a d i c f g e) (by simp only[Zh] <;> lia)
 ·obtain⟨a,d,y,i⟩:=I.tuple j
  have x:=d.length
  obtain⟨o,t,k,n,v⟩:=y
  exact call_list_seq p (.inr rfl) t k v (fun c f g e=>fin a d i c f g e) (by simp only[Zh] <;> lia)
theorem I9:Dd X (.type "tuple") (fun xs H Q=>∃ p ys,xs=[.ref p]∧((SqL X.K H p ys∧∀ l,H l=none→Q (.ref l) (upd H l (.tup ys)))∨(SqT X.K H p ys∧Q (.ref p) H))):=by
 intro a s σ H xs x Q I r h
 obtain⟨p,ys,rfl,h⟩:=h
 obtain⟨u,rfl,t⟩:=Cs r
 cases t
 rcases h with ⟨i,q⟩ | ⟨i,q⟩
 ·obtain⟨c,f,g,k⟩:=I.list i
  have v:=f.length
  refine call_tuple_list g.isList (fun d n=>?_) (by simp only[Zh] <;> lia)
  have j:Inv X a σ H { s with heap:=d }:=I.kept (t':=s.toks) n
  have m:Inv X a σ (upd H d.objs.size (.tup ys)) { s with heap:=d.push { cls:=.type "tuple", data:=.seq c.toArray } } :=
   j.laid (t':=s.toks) (fun b o e=>Zc _ e) (Zd _) (show Cb X.prog X.w _ _ _ (.tup ys) from ⟨k,c,f,IsTup.new _ _⟩)
  exact⟨.ref d.objs.size,_,m,rfl,q _ (j.hok.fresh (Zd _))⟩
 ·obtain⟨c,f,g,k⟩:=I.tuple i
  exact call_tuple_same g ⟨.ref p,H,I,rfl,q⟩
def tyV (K:PySem.W.Frag)(T:String)(x:V)(H:Hp):Prop:=match x with
 | .str _=>T = "str"
 | .int _=>T = "int"
 | .ref p=>(T = "list" ∧ ∃ xs,SqL K H p xs)∨(T = "tuple" ∧ ∃ o,K.lookup p=some o∧o.cls = .type "tuple" ∧ o.dict=none) ∨
   (T = "dict" ∧ ((∃ kvs,H p=some (.dK kvs))∨∃ kvs,H p=some (.dT kvs)))∨(T = "set" ∧ ∃ S n,H p=some (.set S n))
 | _=>False
theorem tyV_is {H:Hp}{s:Shared}{T:String}(I:Inv X pins σ H s)(r:Bl x v)(ty:tyV X.K T x H) :
  s.TypeIs v T∧∀ a,v = .ref a→∃ ob,s.heap.get? a=some ob∧ob.dict=none:=by
 cases x with
 | str z =>
  obtain⟨t,rfl⟩:=r
  cases (show T = "str" from ty)
  exact⟨typeIs_str s z t,fun _ e=>nomatch e⟩
 | int i =>
  obtain⟨t,rfl⟩:=r
  cases (show T = "int" from ty)
  exact⟨typeIs_int s i t,fun _ e=>nomatch e⟩
 | ref p =>
  cases r
  rcases ty with ⟨rfl,m,k⟩ | ⟨rfl,o,b,j,f⟩ | ⟨rfl,b⟩ | ⟨rfl,S,n,b⟩
  ·obtain⟨l,_,h,_⟩:=I.list k
   refine⟨h.isList.typeIs,fun a e=>?_⟩
   cases e
   obtain⟨o,n,e,c,f,_⟩:=h
   exact⟨o,e,f⟩
  ·refine⟨⟨o,I.kIn p o b,j⟩,fun a e=>?_⟩
   cases e
   exact⟨o,I.kIn _ o b,f⟩
  ·have z:∃ o,s.heap.get? p=some o∧o.ExactDict:=by
    rcases b with ⟨kvs,b⟩ | ⟨kvs,b⟩
    ·obtain⟨_,_,_,_,o,_,_,e,d,_⟩:=I.hok p _ b
     exact⟨o,e,d⟩
    ·obtain⟨_,_,_,_,o,_,_,e,d,_⟩:=I.hok p _ b
     exact⟨o,e,d⟩
   obtain⟨o,e,d⟩:=z
   refine⟨⟨o,e,d.1⟩,fun a g=>?_⟩
   cases g
   exact⟨o,e,d.2.1⟩
  ·obtain⟨o,_,_,_,e,d,_⟩:=I.hok p _ b
   refine⟨⟨o,e,d.1⟩,fun a g=>?_⟩
   cases g
   exact⟨o,e,d.2.1⟩
 | _=>exact False.elim ty
def tBM0 (K:PySem.W.Frag)(T:String)(r:V→List V→Hp→VK→Prop)(to:TE):TE:=fun σ H Q=>to σ H fun x H1=>tyV K T x H1∧r x [] H1 Q
def tBM (K:PySem.W.Frag)(T:String)(r:V→List V→Hp→VK→Prop)(to:TE)(t:TA):TE:=fun σ H Q=>to σ H fun x H1=>tyV K T x H1∧t σ H1 fun xs H2=>r x xs H2 Q
variable {o e:Expr} {es:List Expr} {to:TE} {t:TA} {name:Str} {apos cpos:Pos} {T id:String} {r:V→List V→Hp→VK→Prop}
theorem Ib (pa:PlainAttrs T)(slot:Slot T name id)(hty:typeOf (.builtin id)=pure (.type "method_descriptor"))(hm:MtR X id r)(ho:PE X o to)(hbase:attributeBase o name X.env (eval o X.env)=eval o X.env:=by rfl)(hline:(apos.endLine == cpos.line)=true:=by rfl):PE X (.Call (.Attribute o name apos) [] [] cpos) (tBM0 X.K T r to):=by
 refine⟨?_⟩
 intro a s σ H Q I h
 refine wpAny_Call_method0_late hbase hline (thn (ho a s σ H _ I h) fun v e b=>?_)
 obtain⟨x,j,d,c,ty,i⟩:=b
 obtain⟨f,g⟩:=tyV_is d c ty
 exact⟨T,id,pa,slot,hty,f,g,Zc2 rfl (PySem.evalArgs_none (hm a e σ j x [] v [] Q d c .nil i))⟩
theorem Cy (pa:PlainAttrs T)(slot:Slot T name id)(hty:typeOf (.builtin id)=pure (.type "method_descriptor"))(hm:MtR X id r)(ho:PE X o to)(ha:PA X (e::es) t)(hbase:attributeBase o name X.env (eval o X.env)=eval o X.env:=by rfl)(hfew:((backTo cpos (starEach (e::es) X.env)).all (fun x=>!x.1) && (backToKw cpos (keywordEach [] X.env)).all (fun x=>x.1.isSome)
   && decide ((e::es).length+([]:List Keyword).length+(if ([]:List Keyword).isEmpty then 0 else 1)<30))=true:=by rfl)(hline:(apos.endLine == cpos.line)=true:=by rfl)(hs:starEach (e::es) X.env=(false,eval e X.env)::starEach es X.env:=by rfl)(hplain:(backTo cpos (starEach es X.env)).any (·.1)=false:=by rfl) :
  PE X (.Call (.Attribute o name apos) (e::es) [] cpos) (tBM X.K T r to t):=by
 refine⟨?_⟩
 intro a s σ H Q I h
 refine wpAny_Call_method_late hbase hfew hline rfl (thn (ho a s σ H _ I h) fun v w b=>?_)
 obtain⟨x,n,d,f,ty,l⟩:=b
 obtain⟨i,j⟩:=tyV_is d f ty
 refine⟨T,id,pa,slot,hty,i,j,?_⟩
 have c:=ha cpos a w σ n _ d l
 rw[hs] at c ⊢
 refine Zc2 (by show (false || (backTo cpos (starEach es X.env)).any (·.1))=false;rw[hplain] <;> rfl) (Calls.evalArgs_plain ?_)
 exact thn c fun k y ⟨q,u,g,m,p⟩=>hm a y σ u x q v k Q g f m p
/- xs.append(e),list.index on a module's tuple .. are MtR facts of 06m -/
end
end
end L2
namespace L2
noncomputable section
open PySem PySem.Spec PyProof.Rows
def MtM (X:Cx)(id:String)(r:V→List V→Hp→VK→Prop):Prop :=
 ∀ (pins:List (Addr×Obj)) (s:Shared) (σ:St) (H:Hp) (x:V) (xs:List V) (v:Value) (us:List Value) (Q:VK),Inv X pins σ H s→Bl x v→Bi xs us→r x xs H Q →
  wpAny (model X.prog X.w) X.A (call (.builtin id) (v::us)) (EP X pins σ Q) X.xe s
theorem Bi.one:∀ {x:V} {us:List Value},Bi [x] us→∃ u,us=[u]∧Bl x u
 | _,_,.cons r .nil=>⟨_,rfl,r⟩
theorem Bi.zero:∀ {us:List Value},Bi [] us→us=[]
 | _,.nil=>rfl
theorem Bi.dropLast {xs:List V}{us:List Value}(h:Bi xs us):Bi xs.dropLast us.dropLast:=by
 induction h with
 | nil=>exact .nil
 | cons r t a =>
  cases t with
  | nil=>exact .nil
  | cons q b=>exact .cons r a
theorem Bi.eraseIdx:∀ {xs:List V} {us:List Value} (i:Nat),Bi xs us→Bi (xs.eraseIdx i) (us.eraseIdx i)
 | _,_,_,.nil=>.nil
 | _,_,0,.cons _ t=>t
 | _,_,i+1,.cons r t=>.cons r (Bi.eraseIdx i t)
theorem Bi.reverse {xs:List V}{us:List Value}(h:Bi xs us):Bi xs.reverse us.reverse:=by
 induction h with
 | nil=>exact .nil
 | cons r t a=>rw[Zbd,Zbd];exact Bi.append a (.cons r .nil)
theorem Bi.rep (h:Bi xs us):∀ k:Nat,Bi (List.replicate k xs).flatten (List.replicate k us).flatten
 | 0=>.nil
 | k+1=>by
  rw[Zb7,Zb7,Zde,Zde]
  exact Bi.append h (Bi.rep h k)
theorem erase_last {α:Type}(l:List α):l.eraseIdx (l.length - 1)=l.dropLast:=by
 induction l with
 | nil=>rfl
 | cons a r c =>
  cases r with
  | nil=>rfl
  | cons b r =>
   have e:(a::b::r).length - 1=((b::r).length - 1)+1:=by
    have d:(a::b::r).length=r.length+2:=rfl
    have f:(b::r).length=r.length+1:=rfl
    lia
   rw[e,List.eraseIdx_cons_succ,c]
   all_goals rfl
theorem len_erase {α:Type}:∀ (l:List α) (i:Nat),(l.eraseIdx i).length≤l.length
 | [],_=>Zd _
 | _::_,0=>Zbp _
 | _::r,i+1=>Zbm (len_erase r i)
theorem foldl_rep (its:List Value):∀ (k:Nat) (acc:List Value),
  List.foldl (fun x1 x2=>x1++x2) acc.toArray (List.replicate k its.toArray)=(acc++(List.replicate k its).flatten).toArray
 | 0,acc=>by simp
 | k+1,acc=>by
  have e:acc.toArray++its.toArray=(acc++its).toArray:=by simp
  have e2:(acc++its)++(List.replicate k its).flatten=acc++(List.replicate (k+1) its).flatten:=by
   rw[Zb7,Zde,Zb5]
  rw[← e2,← foldl_rep its k (acc++its),← e,Zb7,List.foldl_cons]
section
variable {X:Cx} {pins:List (Addr×Obj)} {σ:St} {H:Hp} {s:Shared} {l b:Addr} {xs ys zs:List V}
theorem Inv.lset {its its' : List Value}{n:Nat}{f:Array Value→Array Value}{t' : Nat}(I:Inv X pins σ H s)(hH:H l=some (.lst xs))(e:s.heap.get? l=some { cls:=.type "list", data:=.seq its.toArray n })(hf:f its.toArray=its'.toArray)(hv:Bi ys its')(hz:ys.length≤sizeLine) :
  Inv X pins σ (upd H l (.lst ys)) { s with heap:=s.heap.update l (Obj.mapSeq f),toks:=t' }:=by
 have q:=PySem.IsL.update e f
 rw[hf] at q
 refine I.write (x:=l) (e:=l) (by rw[hH];exact trivial) (.inl rfl) (fun c u a b=>(Za7 s.heap (Obj.mapSeq f) (Zdi a)).trans b) ⟨_,q⟩ ?_
 exact⟨hz,its',_,hv,q⟩
theorem Inv.lnew {t' : Nat}(I:Inv X pins σ H s)(hv:Bi ys its)(hz:ys.length≤sizeLine) :
  Inv X pins σ (upd H s.heap.objs.size (.lst ys)) { s with heap:=s.heap.push { cls:=.type "list", data:=.seq its.toArray },toks:=t' } :=
 I.laid (fun _ _ q=>Zc _ q) (Zd _) ⟨hz,its,0,hv,Zn _ rfl⟩
theorem Inv.fresh (I:Inv X pins σ H s):H s.heap.objs.size=none:=I.hok.fresh (Zd _)
theorem Inv.lstM (I:Inv X pins σ H s)(hH:H l=some (.lst xs)):xs.length≤sizeLine∧∃ (its:List Value) (n:Nat),Bi xs its∧xs.length=its.length∧s.heap.get? l=some { cls:=.type "list", data:=.seq its.toArray n }:=by
 obtain⟨z,its,n,r,e⟩:=I.hok l _ hH
 exact⟨z,its,n,r,r.length,e⟩
theorem notLongL {n:Nat}(h:n≤sizeLine):Builtin.List.listTooLong n=false:=by
 unfold Builtin.List.listTooLong
 exact Z9 (by lia)
end
section
variable {X:Cx}
inductive rAppend (x:V) (vs:List V) (H:Hp) (Q:VK):Prop
 | mk (l xs y:_) (_:x = .ref l) (_:vs=[y]) (_:H l=some (.lst xs)) (_:xs.length<sizeLine) (_:Q .non (upd H l (.lst (xs++[y]))))
theorem Ba:MtM X "list.append" rAppend:=by
 intro c s σ H x m v i Q I f d h
 obtain⟨l,j,y,rfl,rfl,b,k,q⟩:=h
 cases f
 obtain⟨u,rfl,g⟩:=d.one
 obtain⟨z,a,n,r,o,e⟩:=I.lstM b
 refine Zdk F.slot_list_append ⟨_,e,rfl⟩ F.entry_list_append (F.args_list_append_2 _ _) (PySem.list_append l a.toArray n u (by rw[Zh];lia)) ⟨e,?_⟩
 refine⟨.non,_,I.lset (its':=a++[u]) b e (by simp) (r.append (.cons g .nil)) ?_,rfl,q⟩
 rw[Zv,List.length_singleton]
 lia
inductive rExtend (x:V) (vs:List V) (H:Hp) (Q:VK):Prop
 | mk (l b xs zs:_) (_:x = .ref l) (_:vs=[.ref b]) (_:H l=some (.lst xs)) (_:H b=some (.lst zs)) (_:xs.length+zs.length≤sizeLine) (_:Q .non (upd H l (.lst (xs++zs))))
theorem mt_extend:MtM X "list.extend" rExtend:=by
 intro i s σ H x D v A Q I p o h
 obtain⟨l,b,B,E,rfl,rfl,f,j,C,q⟩:=h
 cases p
 obtain⟨u,rfl,w⟩:=o.one
 cases w
 obtain⟨z,c,n,r,G,e⟩:=I.lstM f
 obtain⟨J,a,k,m,y,t⟩:=I.lstM j
 have g:c.toArray.size+a.toArray.size≤sizeLine:=by rw[Zh,Zh];lia
 have d:¬ (!c.toArray.isEmpty && Builtin.List.listTooLong (c.toArray.size+a.toArray.size))=true:=by
  rw[notLongL g,Bool.and_false]
  exact Zu
 refine Zdk F.slot_list_extend ⟨_,e,rfl⟩ F.entry_list_extend (F.args_list_extend_2 _ _)
  (AutoSeq1.list_extend_list_list_0 l c.toArray n b a.toArray k d (by rw[Zh];lia) (by lia)) ⟨e,t,?_⟩
 refine⟨.non,_,I.lset (its':=c++a) f e (by simp) (r.append m) ?_,rfl,q⟩
 rw[Zv]
 lia
inductive rPop (x:V) (vs:List V) (H:Hp) (Q:VK):Prop
 | mk (l xs y:_) (_:x = .ref l) (_:vs=[]) (_:H l=some (.lst xs)) (_:xs[xs.length - 1]?=some y) (_:Q y (upd H l (.lst xs.dropLast)))
theorem mt_pop:MtM X "list.pop" rPop:=by
 intro f s σ H x w v p Q I k j h
 obtain⟨l,t,y,rfl,rfl,c,g,q⟩:=h
 cases k
 have b:=j.zero
 subst b
 obtain⟨z,a,n,r,m,e⟩:=I.lstM c
 obtain⟨u,i,o⟩:=r.get g
 have d : a.toArray[a.toArray.size - 1]?=some u:=by
  show a.toArray[a.length - 1]?=some u
  rw[← Zaj,← m]
  exact i
 refine Zdk F.slot_list_pop ⟨_,e,rfl⟩ F.entry_list_pop (F.args_list_pop_1 _) (MeetsSeq.list_pop_last l a.toArray n u d (by rw[Zh];lia)) ⟨e,?_⟩
 refine⟨y,_,I.lset (its':=a.dropLast) c e ?_ r.dropLast ?_,o,q⟩
 ·show a.toArray.eraseIdxIfInBounds (a.toArray.size - 1)=a.dropLast.toArray
  rw[Zh,List.eraseIdxIfInBounds_toArray,erase_last]
 ·rw[List.length_dropLast]
  lia
inductive rPopAt (x:V) (vs:List V) (H:Hp) (Q:VK):Prop
 | mk (l xs i k y:_) (_:x = .ref l) (_:vs=[.int i]) (_:H l=some (.lst xs)) (_ : -(2 ^ 63)≤i) (_:i<2 ^ 63) (_:seqIndex? i xs.length=some k) (_:xs[k]?=some y) (_:Q y (upd H l (.lst (xs.eraseIdx k))))
theorem mt_popAt:MtM X "list.pop" rPopAt:=by
 intro g s σ H x G v E Q I p o h
 obtain⟨l,A,i,k,y,rfl,rfl,b,d,j,f,m,q⟩:=h
 cases p
 obtain⟨u,rfl,D⟩:=o.one
 obtain⟨t,rfl⟩:=D
 obtain⟨z,a,n,r,C,e⟩:=I.lstM b
 obtain⟨w,B,c⟩:=r.get m
 refine Zdk F.slot_list_pop ⟨_,e,rfl⟩ F.entry_list_pop (F.args_list_pop_2 _ _)
  (MeetsSeq.list_pop_at l a.toArray n i t k w (fitsIndex_both d j) (by rw[Zh,← C];exact f) (by rw[← Zaj];exact B) (by rw[Zh];lia)) ⟨e,?_⟩
 refine⟨y,_,I.lset (its':=a.eraseIdx k) b e ?_ (r.eraseIdx k) ?_,c,q⟩
 ·show a.toArray.eraseIdxIfInBounds k=(a.eraseIdx k).toArray
  rw[List.eraseIdxIfInBounds_toArray]
 ·have:=len_erase A k
  lia
inductive rClear (x:V) (vs:List V) (H:Hp) (Q:VK):Prop
 | mk (l xs:_) (_:x = .ref l) (_:vs=[]) (_:H l=some (.lst xs)) (_:Q .non (upd H l (.lst [])))
theorem mt_clear:MtM X "list.clear" rClear:=by
 intro d s σ H x k v i Q I g f h
 obtain⟨l,j,rfl,rfl,b,q⟩:=h
 cases g
 have a:=f.zero
 subst a
 obtain⟨z,c,n,r,m,e⟩:=I.lstM b
 refine Zdk F.slot_list_clear ⟨_,e,rfl⟩ F.entry_list_clear (F.args_list_clear_1 _) (AutoSeq1.list_clear_list_0 l c.toArray n (by rw[Zh];lia)) ⟨e,?_⟩
 exact⟨.non,_,I.lset (its':=[]) (ys:=[]) b e rfl .nil (Zt _),rfl,q⟩
inductive rRep (x y:V) (H:Hp) (Q:VK):Prop
 | mk (l k xs:_) (_:x = .ref l) (_:y = .int k) (_:H l=some (.lst xs)) (_ : -(2 ^ 63)≤k) (_:k<2 ^ 63) (_:xs.length * k.toNat≤sizeLine) (_:∀ p,H p=none→Q (.ref p) (upd H p (.lst (List.replicate k.toNat xs).flatten)))
theorem len_rep {α:Type}(xs:List α)(k:Nat):(List.replicate k xs).flatten.length=k * xs.length:=by
 induction k with
 | zero=>simp
 | succ k a=>rw[Zb7,Zde,Zv,a,Nat.succ_mul,Nat.add_comm]
theorem op_rep:OpR X (binaryOp .Mult) rRep:=by
 intro A s σ H x y v u Q I G J h
 obtain⟨l,k,M,rfl,rfl,E,w,B,p,q⟩:=h
 cases G
 obtain⟨t,rfl⟩:=J
 obtain⟨z,b,n,r,K,e⟩:=I.lstM E
 have f:b.toArray.size * k.toNat≤sizeLine:=by rw[Zh,← K];exact p
 have g:¬ b.toArray.size * k.toNat > (2 ^ 63 - 1) / 8:=by
  have:(sizeLine:Nat)≤(2 ^ 63 - 1) / 8:=by decide
  lia
 have j:¬ (!Builtin.List.listFitsIndex k)=true:=by
  rw[fitsIndex_both w B]
  exact Zu
 have c:¬ Builtin.List.listTooLong (b.toArray.size * k.toNat)=true:=by
  rw[notLongL f]
  exact Zu
 have i:List.foldl (fun o d=>o++d) #[] (List.replicate (if b.toArray.isEmpty=true then 0 else k.toNat) b.toArray)=(List.replicate k.toNat b).flatten.toArray:=by
  have D:∀ m:Nat,List.foldl (fun o d=>o++d) #[] (List.replicate m b.toArray)=(List.replicate m b).flatten.toArray:=fun m=>by
   have:=foldl_rep b m []
   rw[List.nil_append] at this
   exact this
  rw[D]
  cases b with
  | nil=>simp
  | cons a L=>rw[Zs (by simp)]
 refine wpAny_binaryOp_repeat_ref (T := "list") (U := "int") (by decide) ⟨_,e,rfl⟩ (fun C=>typeIs_int C k t) noFill_list_mul F.fills_int_mul F.slot_int_rmul repeat_list F.slot_int_index.lookup
  (Zdk F.slot_int_rmul (typeIs_int s k t) F.entry_int_rmul (F.args_int_rmul_2 _ _) (int___rmul___int_list k t l b.toArray n)
   ⟨e,rfl,⟨_,e,rfl⟩,Zdk F.slot_list_mul ⟨_,e,rfl⟩ F.entry_list_mul (F.args_list_mul_2 _ _) (AutoListH.list___mul___list_int_3 l b.toArray n k t j g c) ⟨e,?_⟩⟩)
 rw[i]
 exact⟨.ref _,_,I.lnew (t':=s.toks) (r.rep k.toNat) (by rw[len_rep,Nat.mul_comm];exact p),rfl,q _ I.fresh⟩
end
end
end L2
namespace Att
open PySem PySem.W PySem.Calls PyProof.Rows
theorem G2:∀ (ns:List Int) (vs:List Value),WellAll P h vs (ns.map WData.int)→IntsAre vs ns:=by
 intro ns
 induction ns with
 | nil =>
  intro vs w
  rw[List.map_nil] at w
  cases w
  exact .nil
 | cons n ns c =>
  intro vs w
  rw[Za8] at w
  cases w with
  | cons a b =>
   cases a
   exact .cons _ _ (c _ b)
theorem Hg {l:OpenLaw}{n:Nat}(hn:l.most=some n){h:Heap}(hpre:l.row.toRowW.claim.pre args=true)(hwl:WellAll P h vals args) :
  ∃ a vs ns,vals=[Value.ref a]∧args=[WData.list (ns.map WData.int)]∧h.get? a=some { cls:=.type "list", data:=.seq vs.toArray }∧IntsAre vs ns∧ns.length≤n:=by
 have i:WShape.hasAll [] args [.list .int]=true:=(pre_splitW hpre).1
 have g:l.pre.holds [] { args:=args }=true:=(pre_splitW hpre).2
 obtain⟨d,r,rfl,j,k⟩:=hasAllW_cons i
 obtain rfl:=hasAllW_nil k
 obtain⟨u,rfl,t⟩:=hasW_list j
 obtain⟨ns,rfl⟩:=items_int t
 have f:ns.length≤n:=by
  unfold OpenLaw.pre at g
  have b:(WTm.not (.lt (.lit (.int (n:Int))) (.len (.arg 0)))).holds [] { args:=[.list (ns.map .int)] }=true:=by
   have b:=(holds_andW g).1
   rw[hn] at b
   exact b
  have c:=condW_of b (w_not (w_lt w_lit (w_len_list (w_arg rfl))))
  rw[Zl] at c
  refine Nat.le_of_not_lt fun q=>?_
  have m : (n:Int)<((ns.length:Nat):Int):=by lia
  first
   | (rw[Z2 m] at c;exact absurd c (by decide))
   | (simp at c;lia)
 cases hwl with
 | cons o p =>
  cases p
  cases o with
  | list s e=>exact⟨_,_,ns,rfl,rfl,s,G2 ns _ e,f⟩
theorem Hf (l:OpenLaw)(args:List WData):l.row.toRowW.claim.post args (.bool true) args=true :=
 postW_of (r:=l.row.toRowW) (X:=(true == true))
  (show WShape.has [] (.bool true) .bool=true by first | rfl | decide | simp[WShape.has,WShape.arms,WShape.armsAll])
  (show (WTm.eq .res (.lit (.bool true))).value [] { args:=args,res:=some (.bool true),after:=args }=some (.bool (true == true)) from w_eq_bool (w_res rfl) w_lit) rfl
theorem attach {l:OpenLaw}{n:Nat}{XP:(Str→Option Value)→Heap→Prop}{YP:World→Heap→Prop}{d:DefRec}{x:Str}(hn:l.most=some n)(hdf:d.params.defaults=[])(hbind:∀ pm cd doc v:Value,bindArgs (docDef d.name d.params d.body d.scope pm cd doc) ⟨[v],[]⟩=pure [(x,v)])(hx:d.scope.names.lookup x=some .local∨d.scope.names.lookup x=some .cell)(hk:d.scope.kind = .function)(hco:d.scope.isCoroutine=false)(hgen:d.scope.isGenerator=false)(body:∀ (w:World) (s₀ s₁ s:Shared) (mg mb:Str→Option Value) (fa:Addr) (o:Obj) (pm cd doc:Value) (a:Addr) (vs:List Value) (ns:List Int),
   Ground q loose [] XP w s₀ mg mb s₁.heap→YP w s₁.heap →
   s₁.heap.get? fa=some o→o.data = .func (docDef d.name d.params d.body d.scope pm cd doc)→s₁.heap.CodeRec cd d.name→mg d.name=some (.ref fa) →
   s₁.heap.get? a=some { cls:=.type "list", data:=.seq vs.toArray }→IntsAre vs ns→ns.length≤n →
   s.gens = #[]→s.os=s₁.os →
   Fr s₁.heap s₁.heap.objs.size s.heap (bindL (envOfC d.name d.scope s₁.heap.objs.size fa cd).kindOf [(x,.ref a)] fun _=>none) →
   Cl s₁.heap.objs.size (cellsFrom (s₁.heap.objs.size+1) d.scope.names []) s.heap (bindC (envOfC d.name d.scope s₁.heap.objs.size fa cd).kindOf [(x,.ref a)] fun _=>none) →
   wpAny (model l.prog w) (callerA.deeper (envOfC d.name d.scope s₁.heap.objs.size fa cd)) (execs d.body (envOfC d.name d.scope s₁.heap.objs.size fa cd))
    (fun f s'=>f = .ret (.bool true)∧OldK s₁.heap s'.heap∧s'.os=s₁.os∧AllBare s'.gens) (fun _ _=>False) s) :
  WalkO q loose XP YP l.row.toRowW d [] (fun f vs=>PySem.call f vs):=by
 intro w s₀ s₁ mg mb G Y fa o pm cd doc A kV k m c p r D E H O i L M t N
 obtain rfl:A = .none:=Dflts.none p hdf
 obtain rfl:kV = .none:=Dflts.noKw p
 obtain⟨a,vs,ns,rfl,rfl,h,b,g⟩:=Hg hn i t
 refine enter_call ?_
 refine call_cells_ret (o:=o) (by rw[depth_caller];decide) k (fd_plain m) G.T.nolimit c (hbind pm cd doc (.ref a)) (fun y z=>?_) (fun K I F X=>?_) hco hgen hk
 ·obtain rfl:y=(x,Value.ref a):=Zg.mp z
  rcases hx with e | e
  ·exact .inl e
  ·exact .inr ⟨e,cellsFrom_some _ _ _ (.inl e)⟩
 ·refine Zbt (body w s₀ s₁ { s₁ with heap:=K,toks:=I } mg mb fa o pm cd doc a vs ns G Y k (fd_plain m) c r h b g D rfl F X) (fun f s' j=>?_) (fun _ _ j=>j)
  obtain⟨rfl,u,J,B⟩:=j
  exact⟨.inl ⟨.bool true,.bool true,[],rfl,fun _=>rfl,.bool true,Hf l _,fun _=>⟨List.Pairwise.nil,fun _ C=>(nomatch C)⟩⟩,u,J,B⟩
theorem attach_call {l:OpenLaw}{n:Nat}{XP:(Str→Option Value)→Heap→Prop}{YP:World→Heap→Prop}{d:DefRec}(hn:l.most=some n)(hdf:d.params.defaults=[])(call:∀ (w:World) (s₀ s₁:Shared) (mg mb:Str→Option Value) (fa:Addr) (o:Obj) (pm cd doc:Value) (a:Addr) (vs:List Value) (ns:List Int),
   Ground q loose [] XP w s₀ mg mb s₁.heap→YP w s₁.heap →
   s₁.heap.get? fa=some o→o.data = .func (docDef d.name d.params d.body d.scope pm cd doc)→s₁.heap.CodeRec cd d.name→mg d.name=some (.ref fa) →
   s₁.heap.get? a=some { cls:=.type "list", data:=.seq vs.toArray }→IntsAre vs ns→ns.length≤n→s₁.gens = #[] →
   codeAny (model l.prog w) callerA (.call (.ref fa) ⟨[.ref a],[]⟩) (fun r s'=>r = .ok (.ret (.bool true))∧OldK s₁.heap s'.heap∧s'.os=s₁.os∧AllBare s'.gens) s₁) :
  WalkO q loose XP YP l.row.toRowW d [] (fun f vs=>PySem.call f vs):=by
 intro w s₀ s₁ mg mb G Y fa o pm cd doc p kV t u k h i x y z F g C D j E
 obtain rfl:p = .none:=Dflts.none h hdf
 obtain rfl:kV = .none:=Dflts.noKw h
 obtain⟨a,vs,ns,rfl,rfl,e,b,c⟩:=Hg hn g j
 refine enter_call (codeAny_mono (call w s₀ s₁ mg mb fa o pm cd doc a vs ns G Y t (fd_plain u) k i e b c x) fun r s' B=>?_)
 obtain⟨rfl,m,A,s⟩:=B
 exact⟨.inl ⟨.bool true,.bool true,[],rfl,fun _=>rfl,.bool true,Hf l _,fun _=>⟨List.Pairwise.nil,fun _ v=>(nomatch v)⟩⟩,m,A,s⟩
theorem attachN {l:OpenLaw}{n:Nat}{XP:(Str→Option Value)→Heap→Prop}{YP:World→Heap→Prop}{d:DefRec}{x:Str}(hn:l.most=some n)(hdf:d.params.defaults=[])(hbind:∀ pm cd doc v:Value,bindArgs (docDef d.name d.params d.body d.scope pm cd doc) ⟨[v],[]⟩=pure [(x,v)])(hx:d.scope.names.lookup x=some .local∨d.scope.names.lookup x=some .cell)(hk:d.scope.kind = .function)(hco:d.scope.isCoroutine=false)(hgen:d.scope.isGenerator=false)(body:∀ (w:World) (s₀ s₁ s:Shared) (mg mb:Str→Option Value) (fa:Addr) (o:Obj) (pm cd doc:Value) (a:Addr) (vs:List Value) (ns:List Int),
   Ground q loose [] XP w s₀ mg mb s₁.heap→YP w s₁.heap →
   s₁.heap.get? fa=some o→o.data = .func (docDef d.name d.params d.body d.scope pm cd doc)→s₁.heap.CodeRec cd d.name→mg d.name=some (.ref fa) →
   s₁.heap.get? a=some { cls:=.type "list", data:=.seq vs.toArray }→IntsAre vs ns→ns.length≤n →
   s.gens = #[]→s.os=s₁.os →
   Fr s₁.heap s₁.heap.objs.size s.heap (bindL (envOfC d.name d.scope s₁.heap.objs.size fa cd).kindOf [(x,.ref a)] fun _=>none) →
   Cl s₁.heap.objs.size (cellsFrom (s₁.heap.objs.size+1) d.scope.names []) s.heap (bindC (envOfC d.name d.scope s₁.heap.objs.size fa cd).kindOf [(x,.ref a)] fun _=>none) →
   wpAny (model l.prog w) (callerA.deeper (envOfC d.name d.scope s₁.heap.objs.size fa cd)) (execs d.body (envOfC d.name d.scope s₁.heap.objs.size fa cd))
    (fun f s'=>f = .ret (.bool true)∧(∀ b o,s₁.heap.get? b=some o→s'.heap.get? b=some o)∧s'.os=s₁.os∧s'.gens = #[]) (fun _ _=>False) s) :
  WalkN q loose XP YP l.row.toRowW d [] (fun f vs=>PySem.call f vs):=by
 intro w s₀ s₁ mg mb G Y fa o pm cd doc B kV m p g r t E H I P j M N u O
 obtain rfl:B = .none:=Dflts.none r hdf
 obtain rfl:kV = .none:=Dflts.noKw r
 obtain⟨a,vs,ns,rfl,rfl,i,c,h⟩:=Hg hn j u
 refine enter_callW ?_
 refine call_cells_ret (o:=o) (by rw[depth_caller];decide) m (fd_plain p) G.T.nolimit g (hbind pm cd doc (.ref a)) (fun y A=>?_) (fun L J F X=>?_) hco hgen hk
 ·obtain rfl:y=(x,Value.ref a):=Zg.mp A
  rcases hx with e | e
  ·exact .inl e
  ·exact .inr ⟨e,cellsFrom_some _ _ _ (.inl e)⟩
 ·refine Zbt (body w s₀ s₁ { s₁ with heap:=L,toks:=J } mg mb fa o pm cd doc a vs ns G Y m (fd_plain p) g t i c h E rfl F X) (fun f s' k=>?_) (fun _ _ k=>k)
  obtain⟨rfl,z,K,C⟩:=k
  exact⟨.inl ⟨.bool true,.bool true,[],rfl,fun _=>rfl,.bool true,Hf l _,fun _=>⟨List.Pairwise.nil,fun _ D=>(nomatch D)⟩⟩,z,K,C⟩
section
variable {prog:Program} {w:World} {A:Around} {E:Value→Shared→Prop} {s:Shared} {K:Frag}
theorem call_fn {R:Result→Shared→Prop}{name qual:Str}{scope:Scope}{dV kV doc pm cdv ct oc:Value}{binds:List (Str×Value)}(X:K.In s.heap)(hlim:s.heap.NoLimit)(ho:K.lookup f=some ⟨oc,od,.func (fnOf name qual params body scope dV kV doc pm an cdv ct),osl⟩)(hcd:codeIn K cdv qual=true)(hroom:A.depth<recursionLimit)(hbind:BindsTo s (fnOf name qual params body scope dV kV doc pm an cdv ct) args binds)(hkind:(binds.all fun y=>scope.names.lookup y.1 == some .local || scope.names.lookup y.1 == some .cell)=true)(h:∀ s₁,InCallC s s.heap.objs.size (bindL (envOfC qual scope s.heap.objs.size f cdv).kindOf binds fun _=>none) (cellsFrom (s.heap.objs.size+1) scope.names [])
    (bindC (envOfC qual scope s.heap.objs.size f cdv).kindOf binds fun _=>none) s₁ →
   wpAny (model prog w) (A.deeper (envOfC qual scope s.heap.objs.size f cdv)) (execs body (envOfC qual scope s.heap.objs.size f cdv))
    (fun fl s'=>R (.ok (.ret (match fl with | .ret v=>v | _=>.none))) s')
    (fun e s'=>wpAny (model prog w) (A.deeper (envOfC qual scope s.heap.objs.size f cdv)) (leaving (envOfC qual scope s.heap.objs.size f cdv) e) (fun _ s''=>R (.error e) s'') (fun e' s''=>R (.error e') s'') s') s₁)(hco:scope.isCoroutine=false)(hgen:scope.isGenerator=false)(hk:scope.kind = .function):codeAny (model prog w) A (.call (.ref f) args) R s:=by
 refine codeAny_call_function hroom (X _ _ ho) rfl hco hgen rfl (codeRec_of X hcd) (hbind _ _ _ _ ?_)
 refine wpAny_newFunctionEnv_cells hk (kindsX hkind _) fun b a s₁ x=>?_
 subst a
 exact⟨hlim.keeps x.toInCall.keep,codeAny_func (h s₁ x)⟩
theorem make_obj {R:Result→Shared→Prop}{rest:List Value}(X:K.In s.heap)(hm:makesIn K C=true)(hi:findIn K (.ref C) "__init__" = some (some (.ref fI)))(hf:isFn K (.ref fI)=true)(h:codeAny (model prog w) (A.under (.builtin "type.__call__" ⟨.ref C::rest,kw⟩)) (.call (.ref fI) ⟨.ref (s.heap.objs.size+1)::rest,kw⟩) (InitBack (s.heap.objs.size+1) R)
   { s with heap:=(s.heap.push emptyDict).push (instObj C s.heap.objs.size) }):codeAny (model prog w) A (.call (.ref C) ⟨rest,kw⟩) R s:=by
 obtain⟨b,g,d,t,c⟩:=s
 exact make_core (makes_of X hm) (looks_findIn X hi) (fun a=>bind_fn X a (Zc1.mp hf)) (.inl rfl) h
theorem get_field {n:Nat}{name:Str}{expr:Bool}{Q:Value→Shared→Prop}(X:K.In s.heap)(I:PySem.W.InstAt s.heap x ox C (some (dictOf es n)))(hg:plainGet K C name=true)(hh:hasDictIn K C=true)(ha:findIn K (.ref C) name=some none)(hl:getL name es=some (some v))(hv:handedIn v=true)(h:Q v { s with toks:=s.toks+1 }):wpAny (model prog w) A (getAttr (.ref x) name expr) Q E s :=
 get_value X I (plainGet_of hg).1 (findObj_own hh ha rfl hl) hv h
theorem get_method {n:Nat}{name:Str}{Q:Value×List Value→Shared→Prop}(X:K.In s.heap)(I:PySem.W.InstAt s.heap x ox C (some (dictOf es n)))(hg:plainGet K C name=true)(hf:findIn K (.ref C) name=some (some (.ref f)))(ht:isFn K (.ref f)=true)(hl:getL name es=some none)(h:Q (.ref f,[.ref x]) s):wpAny (model prog w) A (getMethod (.ref x) name pl) Q E s :=
 method_fn X I (plainGet_of hg).1 (plainGet_of hg).2 hf (Zc1.mp ht) (by show (lookIn name (dictOf es n)).map _=_;rw[lookIn_dict,hl];rfl) h
def noObjs (h:Heap):Heap:={ h with objs:=#[] }
theorem Fj (h:Heap)(b:Addr):(noObjs h).get? b=none:=by
 cases e:(noObjs h).get? b with
 | none=>rfl
 | some o=>exact absurd (Zo e) (Nat.not_lt_zero _)
def Hv (h:Heap)(L d:Addr):List (Addr×Obj):=(List.range h.objs.size).filterMap fun a=>if a=L∨a=d then none else (h.get? a).map fun o=>(a,o)
theorem Du {h:Heap}:(a,o)∈Hv h L d↔a≠L∧a≠d∧h.get? a=some o:=by
 unfold Hv
 rw[List.mem_filterMap]
 constructor
 ·rintro⟨b,_,e⟩
  split at e
  ·cases e
  ·rename_i hb
   obtain⟨j,c,i⟩:=Zbw.mp e
   cases i
   exact⟨fun q=>hb (.inl q),fun q=>hb (.inr q),c⟩
 ·rintro⟨f,g,c⟩
  refine⟨a,List.mem_range.mpr (Zo c),?_⟩
  rw[Zs (show ¬ (a=L∨a=d) from fun q=>q.elim f g),c] <;> rfl
theorem news_ledger {h:Heap}(hne:d≠L)(ho:h.get? d=some od):News (noObjs h) L h ([]++(d,od)::Hv h L d):=by
 rintro⟨a,o⟩ b
 rcases Zr.mp b with e | b
 ·cases e
  exact⟨ho,hne,Fj _ _⟩
 ·obtain⟨c,f,e⟩:=Du.mp b
  exact⟨e,c,Fj _ _⟩
theorem fr_all {h:Heap}{m:Str→Option Value}(n:h.Ns L m):Fr (noObjs h) L h m :=
 ⟨n,fun b o e=>(by rw[Fj] at e;cases e),Zt _⟩
theorem upd_ledger:Upd d o o' ((d,o)::Hv h L d) ((d,o')::Hv h L d) :=
 .head fun ⟨_,_⟩ a=>(Du.mp a).2.1
theorem set_field {ox:Obj}{m:Str→Option Value}{es es' : List DictEntry}{n n' : Nat}{name:Str}{Q:Unit→Shared→Prop}(X:K.In s.heap)(I:PySem.W.InstAt s.heap x ox C (some (dictOf es n)))(hd:ox.dict=some dx)(hL:s.heap.Ns L m)(hne:dx≠L)(hs:findIn K (.ref C) "__setattr__" = some (some (.builtin "object.__setattr__")))(hp:plainOver K C=true)(ht:takerIn K C name=some none)(hh:hasDictIn K C=true)(hl:(getL name es).isSome=true)(e:(putL name (PyData.keyHash w.params name) (.str name (s.toks+1)) v es,putN name es n)=(es',n'))(hz:es'.length≤1000)(h:∀ h' : Heap,h'.Ns L m→h'.get? dx=some (dictOf es' n')→(∀ b o,b≠dx→b≠L→s.heap.get? b=some o→h'.get? b=some o)→Q () { s with heap:=h',toks:=s.toks+2 }) :
  wpAny (model prog w) A (setAttr (.ref x) name v) Q E s:=by
 obtain⟨i,j⟩:=Prod.mk.inj e
 have a:s.heap.get? dx=some (dictOf es n):=by
  have:=I.dict
  rw[hd] at this
  exact this
 refine set_plain X I hs (osa_dict (s:={ s with toks:=s.toks+1 }) (h₀:=noObjs s.heap) (L:=L) (m:=m) (od:=dictOf es n) (od':=dictOf es' n') (es:=es') (n:=n') (pre:=[]) (post:=Hv s.heap L dx)
  (fr_all hL) (news_ledger hne a) X I hd hp ht hh hl (fun _ q=>nomatch q) (fun ⟨_,_⟩ q=>(Du.mp q).2.1) (by rw[putName_dict,i,j]) rfl hz fun h' k c=>?_)
 exact h h' k.ns (c.get (List.Mem.head _)) fun b o d g f=>c.get (List.Mem.tail _ (Du.mpr ⟨g,d,f⟩))
end
end Att
namespace L2
noncomputable section
open PySem PySem.Spec PyProof.Rows
theorem vals_ints:∀ {vs:List Value} {ns:List Int},IntsAre vs ns→Bi (ns.map V.int) vs
 | _,_,.nil=>.nil
 | _,_,.cons n t h=>.cons ⟨t,rfl⟩ (vals_ints h)
def Only (H:Hp):Prop:=∀ b,H b=none∨∃ o xs,H b=some (.frz o (.lst xs))
theorem law_call {K:PySem.W.Frag}{mg mb:Str→Option Value}{k:Nat}{x:Str}{s₁:Shared}{vs:List Value}{ns:List Int}(KX:K.In s₁.heap)(hns:s₁.heap.Ns mainGlobals mg)(hb:s₁.heap.Ns builtinsNs mb)(hbb:∀ x:Str,x ≠ "__name__" → mb x=bootBuiltins x)(hlim:s₁.heap.NoLimit)(hg:s₁.gens = #[])(ha:s₁.heap.get? a=some { cls:=.type "list", data:=.seq vs.toArray })(hi:IntsAre vs ns)(hl:ns.length≤sizeLine)(hr:Room k callerA)(F:∀ base:Heap,K.In base→base.Ns mainGlobals mg→FnOk P w K mg base CX k fa fd [x] sp)(hbind:∀ (s:Shared) (u:Value),BindsTo s fd ⟨[u],[]⟩ [(x,u)])(hsp:∀ H:Hp,Only H→SqL K H a (ns.map V.int)→sp [.ref a] H (fun v _=>v = .bl true) fun _ _ _=>False)(hCX:∀ H e s',CX [] H s₁ (fun _ _ _=>False) e s'→False) :
  codeAny (model P w) callerA (.call (.ref fa) ⟨[.ref a],[]⟩) (fun r s'=>r = .ok (.ret (.bool true))∧OldK s₁.heap s'.heap∧s'.os=s₁.os∧AllBare s'.gens) s₁:=by
 have J:=vals_ints hi
 have D:=hi.length
 -- from an abstract heap in which nothing but the script may be tracked
 have g:∀ H:Hp,Only H→SqL K H a (ns.map V.int)→HOk P w H s₁.heap→(∀ b,H b≠none→b=a)→(H a≠none→K.lookup a=none) →
   codeAny (model P w) callerA (.call (.ref fa) ⟨[.ref a],[]⟩) (fun r s'=>r = .ok (.ret (.bool true))∧OldK s₁.heap s'.heap∧s'.os=s₁.os∧AllBare s'.gens) s₁:=by
  intro H L O p G Y
  have c:∀ {b:Addr} {o:Obj},s₁.heap.get? b=some o→H b=none→(hidT s₁.heap H).get? b=some o:=fun e n=>hidT_get e n
  have E:∀ {b:Addr} {o:Obj} {j:Array DictEntry} {i:Nat},s₁.heap.get? b=some o→o.data = .dict j i→H b=none:=fun {b o j i} e d=>by
   cases q:H b with
   | none=>rfl
   | some u =>
    have B : b=a:=G b (by rw[q];simp)
    subst B
    rw[ha] at e;cases e
    have R : Data.seq vs.toArray _=Data.dict j i:=d
    cases R
  have f:∀ {b:Addr} {m:Str→Option Value},s₁.heap.Ns b m→(hidT s₁.heap H).Ns b m:=fun {b m} ⟨o,j,i,e,d,r⟩=>⟨o,j,i,c e (E e d),d,r⟩
  have t:K.In (hidT s₁.heap H):=fun b o e=>c (KX b o e) (by
   cases q:H b with
   | none=>rfl
   | some u =>
    have B : b=a:=G b (by rw[q];simp)
    subst B
    rw[Y (by rw[q];simp)] at e;cases e)
  have T:Mod K mg (hidT s₁.heap H):=⟨t,f hns,⟨mb,f hb,hbb⟩,let ⟨mc,h1,h2⟩:=hlim;⟨mc,f h1,h2⟩⟩
  have N:Env0 P w K mg (hidT s₁.heap H) callerA [] s₁ H:=⟨rfl,T,fun b o e=>of_hidT e,Nat.le_of_eq (hidT_size _ _),trivial,fun b hb=>absurd (show b∈([]:List Addr) from hb) (by simp),p,.of_eq hg⟩
  refine codeAny_mono ((F _ t (f hns)).run callerA [] s₁ H ⟨[.ref a],[]⟩ [.ref a] [.ref a] _ _ hr N (hbind s₁ (.ref a)) (.cons rfl .nil) (hsp H L O)) fun r s' h=>?_
  cases r with
  | error e=>exact (hCX H e s' h).elim
  | ok S =>
   cases S with
   | next=>exact False.elim h
   | brk=>exact False.elim h
   | cont=>exact False.elim h
   | ret u =>
    obtain⟨v,H',os,C,un,A,Q,q⟩:=h
    have M : v = .bl true:=q
    subst M
    obtain rfl:u=Value.bool true:=Q
    refine⟨rfl,OldK.of_keep fun b o e=>?_,os,C⟩
    cases q:H b with
    | none=>exact un.keep b o e q (by intro z;exact absurd (show b∈([]:List Addr) from z) (by simp)) (by simp)
    | some u =>
     rcases L b with z | ⟨ob,Z,z⟩
     ·rw[q] at z;cases z
     ·have U:=un.frzs b ob _ z
      obtain⟨I,_⟩:=p b _ z
      obtain⟨X,_⟩:=A b _ U
      rw[e] at I;cases I
      exact X
 cases y:K.lookup a with
 | some o =>
  -- the script is one of the module's own objects
  have e:=KX a o y
  rw[ha] at e
  cases e
  refine g (fun _=>none) (fun _=>.inl rfl) (.inr ⟨_,vs.toArray,_,y,rfl,rfl,rfl,by rw[Zh,D];exact hl,by simpa using J⟩) (fun b u z=>by have l : (none:Option HO)=some u:=z;cases l) (fun b z=>absurd rfl z) fun z=>absurd rfl z
 | none =>
  refine g (fun b=>if b=a then some (.frz { cls:=.type "list", data:=.seq vs.toArray } (.lst (ns.map V.int))) else none) (fun b=>?_) (.inl (.inr ⟨{ cls:=.type "list", data:=.seq vs.toArray },Zw rfl⟩)) (fun b u z=>?_) (fun b z=>?_) fun _=>y
  ·by_cases hb:b=a
   ·exact .inr ⟨_,_,Zw hb⟩
   ·exact .inl (Zs hb)
  ·by_cases hb:b=a
   ·have l:=(Zw hb).symm.trans z
    cases l
    subst hb
    exact⟨ha,by rw[Zl];exact hl,vs,_,J,ha⟩
   ·have l:=(Zs hb).symm.trans z
    cases l
  ·by_cases hb:b=a
   ·exact hb
   ·exact absurd (Zs hb) z
end
end L2
namespace L2
noncomputable section
open PySem PySem.Spec PyProof.Rows
theorem walk_of {l:PySem.W.OpenLaw}{n k:Nat}{XP:(Str→Option Value)→Heap→Prop}{YP:World→Heap→Prop}{d:DefRec}{K:Params→PySem.W.Frag}{CX:World→CXT}{sp:World→Sp}{x:Str}(hn:l.most=some n)(hn2:n≤sizeLine)(hdf:d.params.defaults=[])(hr:Room k callerA)(hY:∀ (w:World) (h:Heap),YP w h→(K w.params).In h)(F:∀ (w:World) (mg:Str→Option Value) (fa:Addr) (h:Heap),(K w.params).In h→h.Ns mainGlobals mg→mg d.name=some (.ref fa) →
   ∃ fd:FuncData,(∀ (s:Shared) (u:Value),BindsTo s fd ⟨[u],[]⟩ [(x,u)]) ∧
    ∀ base:Heap,(K w.params).In base→base.Ns mainGlobals mg→FnOk l.prog w (K w.params) mg base (CX w) k fa fd [x] (sp w))(hsp:∀ (w:World) (H:Hp) (a:Addr) (ns:List Int),ns.length≤n→Only H→SqL (K w.params) H a (ns.map V.int)→sp w [.ref a] H (fun v _=>v = .bl true) fun _ _ _=>False)(hCX:∀ (w:World) (H:Hp) (s:Shared) (e:Value) (s' : Shared),CX w [] H s (fun _ _ _=>False) e s'→False) :
  PySem.W.WalkO q loose XP YP l.row.toRowW d [] (fun f vs=>PySem.call f vs):=by
 refine Att.attach_call hn hdf fun w J r mg M fa o E N C a vs ns G Y I L D p j i c y=>?_
 have m:=hY w _ Y
 obtain⟨fd,A,B⟩:=F w mg fa _ m G.T.g p
 exact law_call m G.T.g G.T.b G.T.builtins G.T.nolimit y j i (Zah c hn2) hr B A (fun H z t=>hsp w H a ns c z t) fun H e s'=>hCX w H r e s'
end
end L2
namespace L2
noncomputable section
open PySem PySem.Spec PyProof.Rows
def C7 (s:Stmt)(j:Nat):Stmt:=match s with
 | .ClassDef _ _ _ body _ _ _ _ _ _ _=>body.getD j (.Pass ⟨0,0,0,0⟩)
 | _=>.Pass ⟨0,0,0,0⟩
def Cj (s:Stmt):Arguments:=match s with
 | .FunctionDef _ a _ _ _ _ _ _ _ _=>a
 | _=>{ posonlyargs:=[],args:=[],vararg:=none,kwonlyargs:=[],kw_defaults:=[],kwarg:=none,defaults:=[] }
def Cc (s:Stmt):List Stmt:=match s with
 | .FunctionDef _ _ b _ _ _ _ _ _ _=>b
 | _=>[]
def Bd (s:Stmt):Scope:=match s with
 | .FunctionDef _ _ _ _ _ _ sc _ _ _=>sc
 | _=>{ kind:=.function,names:=[],isGenerator:=false,isCoroutine:=false }
abbrev CX0:CXT:=fun _ _ _ _ _ _=>False
abbrev E0:XK:=fun _ _ _=>False
theorem A6:Dk CX0 X E0:=fun _ _ _ _ _ _ _ h=>h.elim
structure Fun (K:PySem.W.Frag) (x qual:Str) (st:Stmt) (f:Addr) (fd:FuncData):Prop where
 ex:∃ (oc:Value) (od:Option Addr) (kV doc pm:Value) (an:Option Addr) (cdv ct:Value) (osl:Array (Option Value)),
  fd=PySem.W.fnOf x qual (Cj st) (Cc st) (Bd st) .none kV doc pm an cdv ct∧K.lookup f=some ⟨oc,od,.func fd,osl⟩∧PySem.W.codeIn K cdv qual=true
 kp:PySem.W.keepIn K (.ref f)=true
section
variable {P:Program} {w:World} {K:PySem.W.Frag} {mg:Str→Option Value} {base:Heap}
theorem Fun.ok {x qual:Str}{st:Stmt}{f:Addr}{fd:FuncData}{N ps:List Str}{k:Nat}{sp:Sp}(F:Fun K x qual st f fd)(S:FnScope N ps (Bd st))(len:∀ vs H Q E,sp vs H Q E→vs.length=ps.length)(hbody:∀ (cdv:Value) (A:Around) (outer:List Env) (s:Shared) (H:Hp) (vs:List V) (Q:VK) (E:XK),Room k (A.deeper (envOfC qual (Bd st) s.heap.objs.size f cdv))→sp vs H Q E →
   ∃ t,PSs (Di CX0 P w K mg base N qual (Bd st) f cdv A outer s H E).nox (Cc st) t∧t { nx:=fun _ H'=>Q .non H',rt:=Q } (J4 N vs) H):FnOk P w K mg base CX0 (k+1) f fd ps sp:=by
 obtain⟨j,m,kV,g,i,l,cdv,n,e,rfl,d,b⟩:=F.ex
 refine fn_of d b S len fun A outer s H vs Q E c a=>?_
 obtain⟨t,h,q⟩:=hbody cdv A outer s H vs Q E c a
 exact⟨t,h.nox,q⟩
theorem Fun.binds {x qual:Str}{st:Stmt}{f:Addr}{fd:FuncData}{ps:List Str}(F:Fun K x qual st f fd)(h:∀ (kV doc pm:Value) (an:Option Addr) (cdv ct:Value) (us:List Value),us.length=ps.length→bindArgs (PySem.W.fnOf x qual (Cj st) (Cc st) (Bd st) .none kV doc pm an cdv ct) ⟨us,[]⟩=pure (ps.zip us)):Da K fd ps []:=by
 obtain⟨d,c,kV,doc,pm,an,cdv,ct,a,rfl,e,b⟩:=F.ex
 exact .all (h kV doc pm an cdv ct)
theorem fun_mk {x qual:Str}{st:Stmt}{f:Addr}{oc:Value}{od an:Option Addr}{osl:Array (Option Value)}{kV doc pm cdv ct:Value}(l:K.lookup f=some ⟨oc,od,.func (PySem.W.fnOf x qual (Cj st) (Cc st) (Bd st) .none kV doc pm an cdv ct),osl⟩)(c:PySem.W.codeIn K cdv qual=true)(k:PySem.W.keepIn K (.ref f)=true):Fun K x qual st f (PySem.W.fnOf x qual (Cj st) (Cc st) (Bd st) .none kV doc pm an cdv ct):=⟨⟨oc,od,kV,doc,pm,an,cdv,ct,osl,rfl,l,c⟩,k⟩
end
theorem hu_of {A:Around}{k:Nat}(hr:Room k A):A.units+1<cLine:=Nat.lt_of_le_of_lt (Nat.add_le_add_left (by decide:1≤64) _) hr.units
section
variable {X:Cx}
theorem pv (i:Nat){x:Str}(hN:X.N[i]?=some x:=by rfl)(hv:Vis X.env.scope x:=by first | exact Or.inl rfl | exact Or.inr (Or.inl rfl) | exact Or.inr (Or.inr rfl))(hd:(x == ("__debug__" : Str))=false:=by decide)(hcd:(x == ("__classdict__" : Str))=false:=by decide):PE X (.Name x pos) (tVar i):=pe_var hN hv hd hcd
end
theorem Cv {A B:Prop}(h:B):if false=true then A else B:=by
 rw[Zs Zu]
 exact h
theorem Eg {A B:Prop}(h:A):if true=true then A else B:=by
 rw[Zw rfl]
 exact h
theorem Gv {c A B:Prop}[Decidable c](h1:c→A)(h2:¬ c→B):if c then A else B:=by
 by_cases h:c
 ·rw[Zw h]
  exact h1 h
 ·rw[Zs h]
  exact h2 h
def Bq (H H' : Hp):Prop:=∀ b o,H b=some o→H' b=some o
theorem Bq.refl (H:Hp):Bq H H:=fun _ _ h=>h
theorem Bq.trans {H H1 H2:Hp}(a:Bq H H1)(b:Bq H1 H2):Bq H H2:=fun c o h=>b c o (a c o h)
theorem Bq.free {H H' : Hp}(e:Bq H H')(h:H' l=Option.none):H l=Option.none:=by
 cases q:H l with
 | none=>rfl
 | some o =>
  rw[e l o q] at h
  cases h
theorem Bq.seq {K:PySem.W.Frag}{H H' : Hp}{a:Addr}{xs:List V}(e:Bq H H')(h:SqL K H a xs):SqL K H' a xs:=by
 rcases h with (h | ⟨o,h⟩) | h
 ·exact .inl (.inl (e _ _ h))
 ·exact .inl (.inr ⟨o,e _ _ h⟩)
 ·exact .inr h
end
end L2
namespace My
noncomputable section
open PySem
inductive Jn where
 | and | or | if_
 deriving DecidableEq
def Jn.word:Jn→Str
 | .and => "and"
 | .or => "or"
 | .if_ => "if"
def Jn.sign:Jn→Str
 | .and => "&"
 | .or => "|"
 | .if_ => ">"
inductive Sg where
 | no
 | lt (x:Str)
 | not (a:Sg)
 | shown (a:Sg)
 | bin (j:Jn) (a b:Sg)
 deriving DecidableEq
def Sg.Wf:Sg→Prop
 | .no=>True
 | .lt x=>x = "p" ∨ x = "q" ∨ x = "r"
 | .not a=>a.Wf
 | .shown a=>a.Wf
 | .bin _ a b=>a.Wf∧b.Wf
def Sg.txt:Sg→Str
 | .no => "0"
 | .lt x=>x
 | .not a => "~" ++ a.txt
 | .shown a => "[" ++ a.txt ++ "]"
 | .bin j a b => "(" ++ a.txt++j.sign++b.txt ++ ")"
def Sg.wt:Sg→Nat
 | .no=>2
 | .lt x=>2+x.length
 | .not a=>2+a.wt
 | .shown a=>3+a.wt
 | .bin _ a b=>4+a.wt+b.wt
def Sg.ht:Sg→Nat
 | .no=>1
 | .lt _=>1
 | .not a=>1+a.ht
 | .shown a=>1+a.ht
 | .bin _ a b=>1+a.ht+b.ht
theorem Sg.ht_le:∀ a:Sg,2 * a.ht≤a.wt
 | .no=>by decide
 | .lt x=>by show 2 * 1≤2+x.length;lia
 | .not a=>by have:=a.ht_le;show 2 * (1+a.ht)≤2+a.wt;lia
 | .shown a=>by have:=a.ht_le;show 2 * (1+a.ht)≤3+a.wt;lia
 | .bin _ a b=>by have:=a.ht_le;have:=b.ht_le;show 2 * (1+a.ht+b.ht)≤4+a.wt+b.wt;lia
theorem Sg.ht_pos:∀ a:Sg,1≤a.ht
 | .no=>Zd _
 | .lt _=>Zd _
 | .not a=>by show 1≤1+a.ht;lia
 | .shown a=>by show 1≤1+a.ht;lia
 | .bin _ a b=>by show 1≤1+a.ht+b.ht;lia
theorem Jn.sign_len (j:Jn):j.sign.length=1:=by cases j <;> decide +kernel
theorem len0:(("0" : Str)).length=1:=by decide +kernel
theorem lenN:(("~" : Str)).length=1:=by decide +kernel
theorem lenL:(("[" : Str)).length=1:=by decide +kernel
theorem lenR:(("]" : Str)).length=1:=by decide +kernel
theorem lenA:(("(" : Str)).length=1:=by decide +kernel
theorem lenB:((")" : Str)).length=1:=by decide +kernel
theorem Sg.txt_le:∀ a:Sg,a.txt.length+1≤a.wt
 | .no=>by show (("0" : Str)).length+1≤2;rw[len0];exact Zd _
 | .lt x=>by show x.length+1≤2+x.length;lia
 | .not a=>by
  have:=a.txt_le
  show (("~" : Str)++a.txt).length+1≤2+a.wt
  rw[Zan,lenN];lia
 | .shown a=>by
  have:=a.txt_le
  show (("[" : Str)++a.txt++("]" : Str)).length+1≤3+a.wt
  rw[Zan,Zan,lenL,lenR];lia
 | .bin j a b=>by
  have:=a.txt_le
  have:=b.txt_le
  show (("(" : Str)++a.txt++j.sign++b.txt++(")" : Str)).length+1≤4+a.wt+b.wt
  rw[Zan,Zan,Zan,Zan,lenA,lenB,j.sign_len];lia
inductive Pc where
 | s (x:Str)
 | g (a:Sg)
def Pc.txt:Pc→Str
 | .s x=>x
 | .g a=>a.txt
def Pc.wt:Pc→Nat
 | .s _=>1
 | .g a=>a.wt
def Sg.pcs:Sg→List Pc
 | .no=>[.s "0"]
 | .lt x=>[.s x]
 | .not a=>[.s "~", .g a]
 | .shown a=>[.s "[", .g a,.s "]"]
 | .bin j a b=>[.s "(", .g a,.s j.sign,.g b,.s ")"]
def out:List Pc→Str
 | []=>Str.empty
 | p::r=>p.txt++out r
def wts:List Pc→Nat
 | []=>0
 | p::r=>p.wt+wts r
theorem out_append:∀ a b:List Pc,out (a++b)=out a++out b
 | [],b=>by show out b=Str.empty++out b;rw[Str.empty_append]
 | p::r,b=>by show p.txt++out (r++b)=p.txt++out r++out b;rw[out_append r b,Zb2]
theorem wts_append:∀ a b:List Pc,wts (a++b)=wts a+wts b
 | [],b=>by show wts b=0+wts b;lia
 | p::r,b=>by show p.wt+wts (r++b)=p.wt+wts r+wts b;rw[wts_append r b];lia
theorem Eh:∀ a:List Pc,wts a.reverse=wts a
 | []=>rfl
 | p::r=>by
  rw[Zbd,wts_append,Eh r]
  show wts r+(p.wt+0)=p.wt+wts r
  lia
theorem Sg.wt_pos (a:Sg):2≤a.wt:=by have:=a.ht_le;have:=a.ht_pos;lia
theorem He:∀ a:List Pc,a.length≤wts a
 | []=>Zd _
 | .s x::r=>by have:=He r;show r.length+1≤1+wts r;lia
 | .g a::r=>by have:=He r;have:=a.wt_pos;show r.length+1≤a.wt+wts r;lia
theorem out_pcs (a:Sg):out a.pcs=a.txt:=by
 cases a with
 | no=>exact Zbn _
 | lt x=>exact Zbn _
 | not a=>show ("~" : Str)++(a.txt++Str.empty)=_;rw[Zbn];rfl
 | shown a =>
  show ("[" : Str)++(a.txt++(("]" : Str)++Str.empty))=("[" : Str)++a.txt++("]" : Str)
  rw[Zbn,Zb2]
 | bin j a b =>
  show ("(" : Str)++(a.txt++(j.sign++(b.txt++((")" : Str)++Str.empty))))=("(" : Str)++a.txt++j.sign++b.txt++(")" : Str)
  rw[Zbn,Zb2,Zb2,Zb2]
theorem wts_pcs (a:Sg):wts a.pcs<a.wt:=by
 cases a with
 | no=>decide
 | lt x=>show 1+0<2+x.length;lia
 | not a=>show 1+(a.wt+0)<2+a.wt;lia
 | shown a=>show 1+(a.wt+(1+0))<3+a.wt;lia
 | bin j a b=>show 1+(a.wt+(1+(b.wt+(1+0))))<4+a.wt+b.wt;lia
def cat:List Str→Str
 | []=>Str.empty
 | x::r=>x++cat r
theorem Id:∀ a b:List Str,cat (a++b)=cat a++cat b
 | [],b=>by show cat b=Str.empty++cat b;rw[Str.empty_append]
 | x::r,b=>by show x++cat (r++b)=x++cat r++cat b;rw[Id r b,Zb2]
theorem join_cat:∀ a:List Str,Str.join Str.empty a=cat a
 | []=>rfl
 | [x]=>by show x=x++Str.empty;rw[Zbn]
 | x::y::r=>by
  show x++Str.empty++Str.join Str.empty (y::r)=x++cat (y::r)
  rw[join_cat (y::r),Zbn]
theorem cat_len:∀ a:List Str,(a.map (·.length)).sum=(cat a).length
 | []=>rfl
 | x::r=>by
  show (x.length::r.map (·.length)).sum=(x++cat r).length
  rw[List.sum_cons,cat_len r,Zan]
end
end My
namespace My
noncomputable section
open PySem PySem.Spec PyProof.Rows L2
abbrev Pn (K:PySem.W.Frag) (C:Addr) (x:Str):Prop:=PySem.W.findIn K (.ref C) x=some none
abbrev Pf (K:PySem.W.Frag) (C:Addr) (x:Str) (f:Addr):Prop:=PySem.W.findIn K (.ref C) x=some (some (.ref f))
abbrev Gz (K:PySem.W.Frag) (x:Str):Prop:=PySem.W.nsIn K mainGlobals x=some none
abbrev Gf (K:PySem.W.Frag) (x:Str) (f:Addr):Prop:=PySem.W.nsIn K mainGlobals x=some (some (.ref f))
abbrev If (K:PySem.W.Frag) (f:Addr):Prop:=PySem.W.isFn K (.ref f)=true
abbrev Kf (K:PySem.W.Frag) (f:Addr):Prop:=PySem.W.keepIn K (.ref f)=true
theorem ei {α:Type}{a b:α}(h:a=b:=by show _=_;k_is):a=b:=h
structure Gd (K:PySem.W.Frag) (x:Str) (st:Stmt) (f:Addr) (fd:FuncData):Prop where
 a:Gf K x f
 F:Fun K x x st f fd
structure Md (K:PySem.W.Frag) (C:Addr) (x q:Str) (st:Stmt) (f:Addr) (fd:FuncData):Prop where
 a:Pf K C x f
 i:If K f
 F:Fun K x q st f fd
theorem gd {K:PySem.W.Frag}{x:Str}{st:Stmt}{f:Addr}{oc:Value}{od an:Option Addr}{osl:Array (Option Value)}{kV doc pm cdv ct:Value}(a:Gf K x f:=by show _=_;k_is)(l:K.lookup f=some ⟨oc,od,.func (PySem.W.fnOf x x (Cj st) (Cc st) (Bd st) .none kV doc pm an cdv ct),osl⟩:=by show _=_;k_is)(c:PySem.W.codeIn K cdv x=true:=by show _=_;k_is)(k:Kf K f:=by show _=_;k_is):Gd K x st f (PySem.W.fnOf x x (Cj st) (Cc st) (Bd st) .none kV doc pm an cdv ct):=⟨a,fun_mk l c k⟩
theorem md {K:PySem.W.Frag}{C:Addr}{x q:Str}{st:Stmt}{f:Addr}{oc:Value}{od an:Option Addr}{osl:Array (Option Value)}{kV doc pm cdv ct:Value}(a:Pf K C x f:=by show _=_;k_is)(l:K.lookup f=some ⟨oc,od,.func (PySem.W.fnOf x q (Cj st) (Cc st) (Bd st) .none kV doc pm an cdv ct),osl⟩:=by show _=_;k_is)(c:PySem.W.codeIn K cdv q=true:=by show _=_;k_is)(k:Kf K f:=by show _=_;k_is)(i:If K f:=by show _=_;k_is):Md K C x q st f (PySem.W.fnOf x q (Cj st) (Cc st) (Bd st) .none kV doc pm an cdv ct):=⟨a,i,fun_mk l c k⟩
theorem Md.m {K:PySem.W.Frag}{C:Addr}{x q:Str}{st:Stmt}{f:Addr}{fd:FuncData}(h:Md K C x q st f fd):Meth K C x f:=⟨h.a,h.i,h.F.kp⟩
section
variable {K:PySem.W.Frag} {x q p p' p'' p3 p4:Str} {st:Stmt} {f:Addr} {fd:FuncData}
theorem fb0 (F:Fun K x q st f fd)(h:∀ (kV doc pm:Value) (an:Option Addr) (cdv ct:Value),bindArgs (PySem.W.fnOf x q (Cj st) (Cc st) (Bd st) .none kV doc pm an cdv ct) ⟨[],[]⟩=pure []:=by intros;rfl):Da K fd [] [] :=
 F.binds fun _ _ _ _ _ _ b a=>by cases Zai a;exact h ..
theorem fb1 (F:Fun K x q st f fd)(h:∀ (kV doc pm:Value) (an:Option Addr) (cdv ct u:Value),bindArgs (PySem.W.fnOf x q (Cj st) (Cc st) (Bd st) .none kV doc pm an cdv ct) ⟨[u],[]⟩=pure [(p,u)]:=by intros;rfl):Da K fd [p] [] :=
 F.binds fun _ _ _ _ _ _ a b=>match a,b with | [_],_=>h ..
theorem fb2 (F:Fun K x q st f fd)(h:∀ (kV doc pm:Value) (an:Option Addr) (cdv ct u v:Value),bindArgs (PySem.W.fnOf x q (Cj st) (Cc st) (Bd st) .none kV doc pm an cdv ct) ⟨[u,v],[]⟩=pure [(p,u),(p',v)]:=by intros;rfl):Da K fd [p,p'] [] :=
 F.binds fun _ _ _ _ _ _ a b=>match a,b with | [_,_],_=>h ..
theorem fb3 (F:Fun K x q st f fd)(h:∀ (kV doc pm:Value) (an:Option Addr) (cdv ct u v y:Value),bindArgs (PySem.W.fnOf x q (Cj st) (Cc st) (Bd st) .none kV doc pm an cdv ct) ⟨[u,v,y],[]⟩=pure [(p,u),(p',v),(p'',y)]:=by intros;rfl):Da K fd [p,p',p''] [] :=
 F.binds fun _ _ _ _ _ _ a b=>match a,b with | [_,_,_],_=>h ..
theorem fb4 (F:Fun K x q st f fd)(h:∀ (kV doc pm:Value) (an:Option Addr) (cdv ct u v y z:Value),bindArgs (PySem.W.fnOf x q (Cj st) (Cc st) (Bd st) .none kV doc pm an cdv ct) ⟨[u,v,y,z],[]⟩=pure [(p,u),(p',v),(p'',y),(p3,z)]:=by intros;rfl):Da K fd [p,p',p'',p3] [] :=
 F.binds fun _ _ _ _ _ _ a b=>match a,b with | [_,_,_,_],_=>h ..
end
inductive Df (P:Program) (w:World) (K:PySem.W.Frag) (mg:Str→Option Value) (base:Heap) (CX:CXT) (k:Nat) (x:Str) (ps:List Str) (sp:Sp):Prop
 | mk {f:Addr} {fd:FuncData} (_:FnOk P w K mg base CX k f fd ps sp) (_:Kf K f) (_:Da K fd ps []) (_:mg x=some (.ref f))
inductive Dm (P:Program) (w:World) (K:PySem.W.Frag) (mg:Str→Option Value) (base:Heap) (CX:CXT) (k:Nat) (C:Addr) (x:Str) (ps:List Str) (sp:Sp):Prop
 | mk {f:Addr} {fd:FuncData} (_:FnOk P w K mg base CX k f fd ps sp) (_:Da K fd ps []) (_:Meth K C x f)
section
variable {X:Cx} {CX:CXT} {k j:Nat} {C:Addr} {ps:List Str} {sp:Sp} {E:XK} {x m:Str} {p pos apos:Pos} {e o:Expr} {es:List Expr} {ta:TE} {t:TA}
theorem Ak (F:Df X.prog X.w X.K X.mg X.base CX k x ps sp)(hr:Room j X.A)(hx:Dk CX X E)(ha:PA X (e::es) t)(hk:k≤j:=by first | decide | exact Zd _)(hg:Gl X x:=by rfl)(hdb:(x == ("__debug__" : Str))=false:=by decide)(he:starEach (e::es) X.env=(false,eval e X.env)::starEach es X.env:=by rfl)(hpl:(backTo pos (starEach es X.env)).any (·.1)=false:=by rfl):PE X (.Call (.Name x p) (e::es) [] pos) (tCall sp [] E t):=by
 obtain⟨F,a,b,m⟩:=F
 exact pe_call F (hr.mono hk) hg m a b .nil hx ha hdb he hpl
theorem Hr (F:Df X.prog X.w X.K X.mg X.base CX k x ps sp)(hr:Room j X.A)(hx:Dk CX X E)(hk:k≤j:=by first | decide | exact Zd _)(hg:Gl X x:=by rfl)(hdb:(x == ("__debug__" : Str))=false:=by decide):PE X (.Call (.Name x p) [] [] pos) (tCall sp [] E tNil):=by
 obtain⟨F,a,b,m⟩:=F
 exact pe_call0 F (hr.mono hk) hg m a b .nil hx hdb
theorem Cq {pl:Sem Bool}(he:PE X o ta)(c:Cls X.K C)(F:Dm X.prog X.w X.K X.mg X.base CX k C m ps sp)(hr:Room j X.A)(hx:Dk CX X E)(ha:PA X (e::es) t)(hk:k≤j:=by first | decide | exact Zd _)(hst:starEach (e::es) X.env=(false,eval e X.env)::starEach es X.env:=by rfl)(hpl:(backTo pos (starEach es X.env)).any (·.1)=false:=by rfl)(ht:eval (.Call (.Attribute o m apos) (e::es) [] pos) X.env=(do
   let ov ← eval o X.env
   standAt apos.atName
   let (f,first) ← holding [ov] (getMethod ov m pl)
   callWith pos f first (backTo pos (starEach (e::es) X.env)) (backToKw pos (keywordEach [] X.env))):=by rfl) :
  PE X (.Call (.Attribute o m apos) (e::es) [] pos) (tMeth C m sp [] E ta t):=by
 obtain⟨F,b,m⟩:=F
 exact pe_meth he c m F (hr.mono hk) b .nil hx ha hst hpl ht
theorem pe_methD0 {pl:Sem Bool}(he:PE X o ta)(c:Cls X.K C)(F:Dm X.prog X.w X.K X.mg X.base CX k C m ps sp)(hr:Room j X.A)(hx:Dk CX X E)(hk:k≤j:=by first | decide | exact Zd _)(ht:eval (.Call (.Attribute o m apos) [] [] pos) X.env=(do
   let ov ← eval o X.env
   standAt apos.atName
   let (f,first) ← holding [ov] (getMethod ov m pl)
   callWith pos f first (backTo pos (starEach [] X.env)) (backToKw pos (keywordEach [] X.env))):=by rfl) :
  PE X (.Call (.Attribute o m apos) [] [] pos) (tMeth C m sp [] E ta tNil):=by
 obtain⟨F,b,m⟩:=F
 exact pe_meth0 he c m F (hr.mono hk) b .nil hx ht
end
theorem Bs {P:Program}{w:World}{K:PySem.W.Frag}{mg:Str→Option Value}{base:Heap}{x qual:Str}{st:Stmt}{f:Addr}{fd:FuncData}{ps:List Str}{k:Nat}{sp:Sp}(F:Fun K x qual st f fd)(N:List Str)(hbody:∀ (_:FnScope N ps (Bd st)) (cdv:Value) (A:Around) (outer:List Env) (s:Shared) (H:Hp) (vs:List V) (Q:VK) (E:XK),Room k (A.deeper (envOfC qual (Bd st) s.heap.objs.size f cdv))→sp vs H Q E →
   ∃ t,PSs (Di CX0 P w K mg base N qual (Bd st) f cdv A outer s H E).nox (Cc st) t∧t { nx:=fun _ H'=>Q .non H',rt:=Q } (J4 N vs) H)(S:FnScope N ps (Bd st):=by exact⟨rfl,rfl,rfl,by decide +kernel,rfl,by decide +kernel,by decide +kernel⟩)(len:∀ vs H Q E,sp vs H Q E→vs.length=ps.length:=by intro _ _ _ _ h;first | (cases h;subst_vars;rfl) | (repeat obtain⟨_,h⟩:=h;subst_vars;rfl)):FnOk P w K mg base CX0 (k+1) f fd ps sp :=
 F.ok S len (hbody S)
theorem fn0 {P:Program}{w:World}{K:PySem.W.Frag}{mg:Str→Option Value}{base:Heap}{CX:CXT}{k:Nat}{f:Addr}{fd:FuncData}{ps:List Str}{sp:Sp}(h:∀ vs H Q E,sp vs H Q E→False):FnOk P w K mg base CX k f fd ps sp :=
 ⟨fun vs H Q E z=>(h _ _ _ _ z).elim,fun A a s H b c vs Q E _ _ _ _ z=>(h _ _ _ _ z).elim⟩
abbrev CpB (D:Addr) (tt:TT) (te:TE) (τ:L2.St) (H3:Hp) (N:Hp→Prop):Prop:=tt τ H3 fun ok H4=>if ok=true then te τ H4 fun y H5=>∃ xs,H5 D=some (.lst xs)∧xs.length<sizeLine∧N (upd H5 D (.lst (xs++[y]))) else N H4
abbrev CpW (J:It) (D:Addr) (H1:Hp) (Qd:Hp→Prop) (B:V→Hp→(Hp→Prop)→Prop):Prop:=∃ W:Nat→Nat→Hp→Prop,(∃ m,W 0 m (upd H1 D (.lst [])))∧∀ i m H2,W i m H2→(J.stop i H2∧Qd H2)∨(J.go i H2∧∃ N:Hp→Prop,(∀ H',N H'→∃ m',m'<m∧W (i+1) m' H')∧∀ x H3,J.yld i H2 x H3→B x H3 N)
theorem psnoc_inv {α β:Type}{R:α→β→Prop}{xs:List α}{ys:List β}(h:Paired R xs ys):1≤xs.length→∃ xs' x ys' y,xs=xs'++[x]∧ys=ys'++[y]∧Paired R xs' ys'∧R x y:=by
 induction h with
 | nil=>intro h;exact absurd h (Nat.not_succ_le_zero 0)
 | @cons a b j k r h d =>
  intro _
  cases j with
  | nil=>cases h;exact⟨[],a,[],b,rfl,rfl,.nil,r⟩
  | cons c l =>
   obtain⟨xs',x,ys',y,e,i,g,f⟩:=d (Zbm (Zt _))
   exact⟨a::xs',x,b::ys',y,by rw[e];rfl,by rw[i];rfl,.cons r g,f⟩
theorem papp {α β:Type}{R:α→β→Prop}{xs zs:List α}{ys ws:List β}(h:Paired R xs ys)(g:Paired R zs ws):Paired R (xs++zs) (ys++ws):=by
 induction h with
 | nil=>exact g
 | cons r _ a=>exact .cons r a
theorem prevs {α β:Type}{R:α→β→Prop}{xs:List α}{ys:List β}(h:Paired R xs ys):Paired R xs.reverse ys.reverse:=by
 induction h with
 | nil=>exact .nil
 | cons r _ a=>rw[Zbd,Zbd];exact a.snoc r
def TuS (H H' : Hp):Prop:=∀ b xs,Rd H b (.tup xs)→Rd H' b (.tup xs)
theorem TuS.refl (H:Hp):TuS H H:=fun _ _ h=>h
theorem TuS.trans {H H1 H2:Hp}(a:TuS H H1)(b:TuS H1 H2):TuS H H2:=fun c d h=>b c d (a c d h)
theorem Same_ts {H H' : Hp}(e:Bq H H'):TuS H H':=fun b a h=>h.elim (fun h=>.inl (e _ _ h)) fun ⟨o,h⟩=>.inr ⟨o,e _ _ h⟩
theorem TuS.new {H:Hp}(h:H l=none):TuS H (upd H l o):=fun b c r=>by
 have a:b≠l:=fun e=>by
  subst e
  rcases r with r | ⟨_,r⟩ <;> rw[h] at r <;> cases r
 unfold Rd
 rw[Ai a]
 exact r
theorem TuS.lst {H:Hp}(h:H l=some (.lst ys)):TuS H (upd H l o):=fun b c r=>by
 have a:b≠l:=fun e=>by
  subst e
  rcases r with r | ⟨_,r⟩ <;> rw[h] at r <;> cases r
 unfold Rd
 rw[Ai a]
 exact r
theorem TuS.sq {K:PySem.W.Frag}{H H' : Hp}{a:Addr}{xs:List V}(e:TuS H H')(h:SqT K H a xs):SqT K H' a xs:=h.elim (fun h=>.inl (e _ _ h)) .inr
theorem Aj {H:Hp}(h:H l=none):Bq H (upd H l o):=fun b u e=>by rw[Ai (Ae e h)];exact e
theorem Ci {H H1:Hp}(s:Bq H H1)(h:H l=none):Bq H (upd H1 l o):=fun b u e=>by rw[Ai (Ae e h)];exact s b u e
theorem at0 {α:Type}{x:α}{r:List α}:atI (x::r) 0=some x:=Be (j:=0) rfl
theorem at1 {α:Type}{x y:α}{r:List α}:atI (x::y::r) 1=some y:=Be (j:=1) rfl
theorem at2 {α:Type}{x y z:α}{r:List α}:atI (x::y::z::r) 2=some z:=Be (j:=2) rfl
theorem atI_lt {α:Type}{xs:List α}{i:Int}(h0:0≤i)(h1:i<xs.length):∃ v,atI xs i=some v∧v∈xs:=by
 obtain⟨j,rfl⟩:=Int.eq_ofNat_of_zero_le h0
 have a:j<xs.length:=by lia
 exact⟨xs[j],Be (Zi a),Zc0 a⟩
theorem last_of {α:Type}(xs:List α)(x:α):(xs++[x])[(xs++[x]).length - 1]?=some x:=by
 rw[Zv]
 simp
theorem drop_of {α:Type}(xs:List α)(x:α):(xs++[x]).dropLast=xs:=by simp
theorem ifT {c A B:Prop}[Decidable c](hc:c)(h:A):if decide c=true then A else B:=by
 rw[Z2 hc]
 exact Eg h
theorem ifF {c A B:Prop}[Decidable c](hc:¬ c)(h:B):if decide c=true then A else B:=by
 rw[Z9 hc]
 exact Cv h
theorem small {n:Nat}(h:n≤100000):n≤sizeLine:=Zah h (by decide)
theorem Bf {n:Nat}(h:n≤100000):n<sizeLine:=Nat.lt_of_le_of_lt h (by decide)
section
variable {X:Cx}
theorem kit_str (K:PySem.W.Frag):PySem.W.kitOne K (.type "str") (.type "str")=some true:=rfl
theorem kit_tup (K:PySem.W.Frag):PySem.W.kitOne K (.type "tuple") (.type "str")=some false:=by
 show (if (Value.type "tuple" == Value.type "str")=true then some true else if PySem.W.kitMeta "str" = true then (fastBuiltinMro "tuple").map (·.contains (Value.type "str")) else none)=some false
 decide +kernel
theorem Iv:Dd X (.builtin "isinstance") (fun xs H Q=>∃ x,xs=[x,.ty "str"]∧((∃ z,x = .str z∧Q (.bl true) H)∨∃ a ys,x = .ref a∧SqT X.K H a ys∧Q (.bl false) H)):=by
 intro e s σ H xs m Q I r h
 obtain⟨x,rfl,h⟩:=h
 obtain⟨u,j,rfl,c,g⟩:=vals2 r
 cases (show j=Value.type "str" from g)
 rcases h with ⟨z,rfl,q⟩ | ⟨a,ys,rfl,k,q⟩
 ·exact G4 I c (.str z) (kit_str _) fun b=>⟨.bl true,H,I.tok b,rfl,q⟩
 ·cases (show u=Value.ref a from c)
  obtain⟨l,n,i,p⟩:=I.tuple k
  obtain⟨o,d,f,_⟩:=i
  exact Za5 PySem.W.kitx_tuple I.kIn ⟨o,d,f⟩ (kit_tup _) (fun z=>nomatch z) fun b=>⟨.bl false,H,I.tok b,rfl,q⟩
def GD (K:PySem.W.Frag)(pr:Params)(d:Addr):Prop:=∃ es n,K.lookup d=some ⟨.type "dict", none,.dict es n,#[]⟩∧PySem.W.KeysLit pr es.toList
inductive rGD (K:PySem.W.Frag) (pr:Params) (x y:V) (H:Hp) (Q:VK):Prop
 | mk (d k v u:_) (_:x = .ref d) (_:y = .str k) (_:GD K pr d) (_:PySem.W.nsIn K d k=some (some u)) (_:Bl v u) (_:Q v H)
theorem Gj:IxR X (rGD X.K X.w.params):=by
 intro f c i s σ H x y v u Q I l o h j
 obtain⟨d,k,z,p,rfl,rfl,⟨r,n,b,g⟩,e,m,q⟩:=h
 cases l
 obtain⟨t,rfl⟩:=o
 have a:=PySem.W.mapOf_K (prog:=X.prog) I.kIn b g
 exact tail_any a.typeIs slot_dict_getitem.lookup (wpAny_getItem_of (strKind_is X.prog X.w k t) a (PySem.W.find_K b e) ⟨z,H,I.tok _,m,q⟩) j
theorem Ij {ys:List Str}:∀ {us:List Value},Bi (ys.map V.str) us→StrsAre us ys:=by
 induction ys with
 | nil=>intro us r;cases r;exact .nil
 | cons y ys a =>
  intro us r
  cases r with
  | cons h r =>
   obtain⟨t,rfl⟩:=h
   exact .cons y t (a r)
inductive rJoin (K:PySem.W.Frag) (x:V) (vs:List V) (H:Hp) (Q:VK):Prop
 | mk (z l ys:_) (_:x = .str z) (_:vs=[.ref l]) (_:SqL K H l (ys.map V.str)) (_:(ys.map (·.length)).sum+ys.length * z.length≤16777216) (_:Q (.str (Str.join z ys)) H)
theorem mt_join:MtR X "str.join" (rJoin X.K):=by
 intro a s σ H x n v m Q I c b h
 obtain⟨z,l,ys,rfl,rfl,e,d,q⟩:=h
 obtain⟨t,rfl⟩:=c
 obtain⟨u,rfl,i⟩:=Cs b
 cases i
 obtain⟨j,r,g,_⟩:=I.list e
 refine join_list g.isList (ys:=ys) (by simpa using Ij r) d fun f k=>?_
 refine⟨.str (Str.join z ys),H,I.tok k,⟨f,?_⟩,q⟩
 rw[show Txt.join z ys=Str.join z ys from StrLaws.glued_eq_join z ys]
end
inductive Sy (K:PySem.W.Frag) (H:Hp):V→Sg→Prop
 | no {a:Addr} (h:SqT K H a [.str "no"]):Sy K H (.ref a) .no
 | lt {a:Addr} {x:Str} (h:SqT K H a [.str "letter", .str x]):Sy K H (.ref a) (.lt x)
 | not {a:Addr} {v:V} {s:Sg} (h:SqT K H a [.str "not", v]) (hv:Sy K H v s):Sy K H (.ref a) (.not s)
 | shown {a:Addr} {v:V} {s:Sg} (h:SqT K H a [.str "shown", v]) (hv:Sy K H v s):Sy K H (.ref a) (.shown s)
 | bin {a:Addr} {v u:V} {j:Jn} {s t:Sg} (h:SqT K H a [.str j.word,v,u]) (hv:Sy K H v s) (hu:Sy K H u t):Sy K H (.ref a) (.bin j s t)
theorem Sy.stay {K:PySem.W.Frag}{H H' : Hp}(e:TuS H H'){v:V}{s:Sg}(h:Sy K H v s):Sy K H' v s:=by
 induction h with
 | no h=>exact .no (e.sq h)
 | lt h=>exact .lt (e.sq h)
 | not h _ a=>exact .not (e.sq h) a
 | shown h _ a=>exact .shown (e.sq h) a
 | bin h _ _ c b=>exact .bin (e.sq h) c b
theorem Sy.ref {K:PySem.W.Frag}{H:Hp}{v:V}{s:Sg}(h:Sy K H v s):∃ a xs,v = .ref a∧SqT K H a xs:=by
 cases h with
 | no h=>exact⟨_,_,rfl,h⟩
 | lt h=>exact⟨_,_,rfl,h⟩
 | not h _=>exact⟨_,_,rfl,h⟩
 | shown h _=>exact⟨_,_,rfl,h⟩
 | bin h _ _=>exact⟨_,_,rfl,h⟩
theorem Ev {a b:Str}(h:¬ a=b):¬ V.str a=V.str b:=fun e=>h (V.str.inj e)
theorem w_ln:¬ V.str "letter" = V.str "no" := Ev (by decide +kernel)
theorem w_nn:¬ V.str "not" = V.str "no" := Ev (by decide +kernel)
theorem w_nl:¬ V.str "not" = V.str "letter" := Ev (by decide +kernel)
theorem w_sn:¬ V.str "shown" = V.str "no" := Ev (by decide +kernel)
theorem w_sl:¬ V.str "shown" = V.str "letter" := Ev (by decide +kernel)
theorem w_st:¬ V.str "shown" = V.str "not" := Ev (by decide +kernel)
theorem w_jn (j:Jn):¬ V.str j.word=V.str "no" := by cases j <;> exact Ev (by decide +kernel)
theorem w_jl (j:Jn):¬ V.str j.word=V.str "letter" := by cases j <;> exact Ev (by decide +kernel)
theorem w_jt (j:Jn):¬ V.str j.word=V.str "not" := by cases j <;> exact Ev (by decide +kernel)
theorem w_js (j:Jn):¬ V.str j.word=V.str "shown" := by cases j <;> exact Ev (by decide +kernel)
def PcR (K:PySem.W.Frag)(H:Hp)(v:V)(p:Pc):Prop:=match p with
 | .s x=>v = .str x
 | .g a=>Sy K H v a
theorem PcR.stay {K:PySem.W.Frag}{H H' : Hp}(e:TuS H H'){v:V}{p:Pc}(h:PcR K H v p):PcR K H' v p:=by
 cases p with
 | s x=>exact h
 | g a=>exact Sy.stay e h
theorem Js {K:PySem.W.Frag}{H H' : Hp}(e:TuS H H'){vs:List V}{ps:List Pc}(h:Paired (PcR K H) vs ps):Paired (PcR K H') vs ps:=Paired.imp' (fun _ _=>PcR.stay e) h
theorem at3 {α:Type}{x y z u:α}{r:List α}:atI (x::y::z::u::r) 3=some u:=Be (j:=3) rfl
end
end My
namespace My
noncomputable section
open PySem
inductive Wt where
 | neg | sh | op
 | jn (j:Jn) (a:Sg)
def dn:Sg→List Wt→Sg×List Wt
 | s,.neg::W=>dn (.not s) W
 | s,[]=>(s,[])
 | s,.sh::W=>(s,.sh::W)
 | s,.op::W=>(s,.op::W)
 | s,.jn j a::W=>(s,.jn j a::W)
abbrev RdSt:=Option Sg×List Wt
def dn' (s:Sg)(W:List Wt):RdSt:=(some (dn s W).1,(dn s W).2)
def Hx (c:Nat)(W:List Wt):Option RdSt :=
 if c=126 then some (none,.neg::W) else if c=91 then some (none,.sh::W) else if c=40 then some (none,.op::W)
 else if c=48 then some (dn' .no W) else if c=112 then some (dn' (.lt "p") W) else if c=113 then some (dn' (.lt "q") W) else if c=114 then some (dn' (.lt "r") W) else none
def Iw (c:Nat):Option Jn:=if c=38 then some .and else if c=124 then some .or else if c=62 then some .if_ else none
def goOn (c:Nat)(a:Sg):List Wt→Option RdSt
 | []=>none
 | .neg::_=>none
 | .op::W=>(Iw c).map fun j=>(none,.jn j a::W)
 | .sh::W=>if c=93 then some (dn' (.shown a) W) else none
 | .jn j b::W=>if c=41 then some (dn' (.bin j b a) W) else none
def step (c:Nat):RdSt→Option RdSt
 | (none,W)=>Hx c W
 | (some a,W)=>goOn c a W
def run:List Nat→RdSt→Option RdSt
 | [],st=>some st
 | c::r,st=>(step c st).bind (run r)
theorem run_append:∀ (a b:List Nat) (st:RdSt),run (a++b) st=(run a st).bind (run b)
 | [],b,st=>rfl
 | c::a,b,st=>by
  show (step c st).bind (run (a++b))=((step c st).bind (run a)).bind (run b)
  cases step c st with
  | none=>rfl
  | some st'=>exact run_append a b st'
theorem cps_app (a b:Str):(a++b).cps.toList=a.cps.toList++b.cps.toList:=by
 rw[Str.cps_append,Zae]
theorem cN:(("~" : Str)).cps.toList=[126]:=by decide +kernel
theorem c0:(("0" : Str)).cps.toList=[48]:=by decide +kernel
theorem cL:(("[" : Str)).cps.toList=[91]:=by decide +kernel
theorem cR:(("]" : Str)).cps.toList=[93]:=by decide +kernel
theorem cA:(("(" : Str)).cps.toList=[40]:=by decide +kernel
theorem cB:((")" : Str)).cps.toList=[41]:=by decide +kernel
theorem cp:(("p" : Str)).cps.toList=[112]:=by decide +kernel
theorem cq:(("q" : Str)).cps.toList=[113]:=by decide +kernel
theorem cr:(("r" : Str)).cps.toList=[114]:=by decide +kernel
theorem cJ (j:Jn):∃ c,j.sign.cps.toList=[c]∧Iw c=some j:=by
 cases j with
 | and=>exact⟨38,by decide +kernel,rfl⟩
 | or=>exact⟨124,by decide +kernel,rfl⟩
 | if_=>exact⟨62,by decide +kernel,rfl⟩
theorem G9:∀ (s:Sg),s.Wf→∀ W,run s.txt.cps.toList (none,W)=some (dn' s W)
 | .no,_,W=>by
  show run (("0" : Str)).cps.toList (none,W)=_
  rw[c0];rfl
 | .lt x,h,W=>by
  show run x.cps.toList (none,W)=_
  rcases h with rfl | rfl | rfl
  ·rw[cp];rfl
  ·rw[cq];rfl
  ·rw[cr];rfl
 | .not a,h,W=>by
  show run (("~" : Str)++a.txt).cps.toList (none,W)=_
  rw[cps_app,cN,run_append]
  show run a.txt.cps.toList (none,.neg::W)=_
  rw[G9 a h]
  rfl
 | .shown a,h,W=>by
  show run (("[" : Str)++a.txt++("]" : Str)).cps.toList (none,W)=_
  rw[cps_app,cps_app,cL,cR,run_append,run_append]
  show ((run a.txt.cps.toList (none,.sh::W)).bind (run [93]))=_
  rw[G9 a h]
  rfl
 | .bin j a b,h,W=>by
  obtain⟨c,ec,ej⟩:=cJ j
  show run (("(" : Str)++a.txt++j.sign++b.txt++(")" : Str)).cps.toList (none,W)=_
  rw[cps_app,cps_app,cps_app,cps_app,cA,cB,ec,run_append,run_append,run_append,run_append]
  show ((((run a.txt.cps.toList (none,.op::W)).bind (run [c])).bind (run b.txt.cps.toList)).bind (run [41]))=_
  rw[G9 a h.1]
  show (((run [c] (some a,.op::W)).bind (run b.txt.cps.toList)).bind (run [41]))=_
  have e1:run [c] (some a,.op::W)=some (none,.jn j a::W):=by
   show ((Iw c).map fun j=>((none,.jn j a::W):RdSt)).bind (run [])=_
   rw[ej]
   rfl
  rw[e1]
  show ((run b.txt.cps.toList (none,.jn j a::W)).bind (run [41]))=_
  rw[G9 b h.2]
  rfl
theorem run_whole (s:Sg)(h:s.Wf):run s.txt.cps.toList (none,[])=some (some s,[]):=G9 s h []
theorem Gs:∀ (s:Sg) (W:List Wt),(dn s W).2.length≤W.length
 | s,.neg::W=>by
  have:=Gs (.not s) W
  show (dn (.not s) W).2.length≤W.length+1
  lia
 | s,[]=>Zd _
 | s,.sh::W=>Zd _
 | s,.op::W=>Zd _
 | s,.jn j a::W=>Zd _
theorem step_len {c:Nat}{st st' : RdSt}(h:step c st=some st'):st'.2.length≤st.2.length+1:=by
 obtain⟨o,W⟩:=st
 cases o with
 | none =>
  have d : Hx c W=some st':=h
  unfold Hx at d
  have n:=Gs .no W
  have i:=Gs (.lt "p") W
  have k:=Gs (.lt "q") W
  have m:=Gs (.lt "r") W
  repeat (split at d;(cases d;first | exact Zd _ | (simp only[dn'];lia)))
  cases d
 | some a =>
  have d : goOn c a W=some st':=h
  cases W with
  | nil=>cases d
  | cons f W =>
   cases f with
   | neg=>cases d
   | op =>
    obtain⟨j,_,e⟩:=Zbw.mp d
    cases e
    exact Zbp _
   | sh =>
    have g:(if c=93 then some (dn' (.shown a) W) else none)=some st':=d
    have l:=Gs (.shown a) W
    split at g
    ·cases g;simp only[dn',Zab];lia
    ·cases g
   | jn j b =>
    have g:(if c=41 then some (dn' (.bin j b a) W) else none)=some st':=d
    have l:=Gs (.bin j b a) W
    split at g
    ·cases g;simp only[dn',Zab];lia
    ·cases g
end
end My
namespace My
noncomputable section
open PySem PySem.Spec PyProof.Rows L2
section
variable {X:Cx} {pins:List (Addr×Obj)} {σ:L2.St} {H:Hp} {s:Shared} {h' : Heap}
theorem Dq {t' : Nat}{fp:List Addr}(I:Inv X pins σ H s)(k:∀ b o,b∉fp→s.heap.get? b=some o→h'.get? b=some o)(hf:∀ b∈fp,Ic X pins H b):Inv X pins σ H { s with heap:=h',toks:=t' }:=by
 have d:∀ b u,H b=some u→b∉fp:=fun b u e z=>by rw[(hf b z).1] at e;cases e
 refine I.step (g':=s.gens) (d':=s.drawn) (ch:=fp) (fun b p=>?_) (fun b o _ _ a e _=>k b o a e) (fun b o _ _ a e _=>⟨o.slots,k b o a e⟩) (fun _ _ _ _ n=>n)
  (fun b o a e=>⟨o,k b o a e⟩) (fun _ _ e=>e) (fun _ _ _ e=>e) (fun b x e=>⟨#[],by rw[e];simp⟩) (fun m i=>?_) (fun b u e=>?_) I.bare
 ·obtain⟨_,f,_,t,g,w⟩:=hf b p
  exact⟨t,f,g,w⟩
 ·obtain⟨o,l,j,h,r⟩:=i
  exact⟨o,l,j,k _ o (fun z=>(hf _ z).2.1 rfl) h,r⟩
 ·refine (I.hok b u e).stay (fun c v a q=>k c v ?_ q) (fun _ q=>q) fun _ _ q=>q
  rcases a with z | z
  ·rw[z];exact d b u e
  ·exact d c _ z
end
def Ite (x:Str):It:=⟨fun i _=>i<x.cps.size,fun i H v H'=>∃ t c,v = .ref t∧H t=none∧H'=upd H t (.tup [.int i,.str ⟨#[c]⟩])∧x.cps[i]?=some c,fun i _=>x.cps.size≤i⟩
theorem drawsS {A:Around}(hh:A.handled=none)(it:Addr)(x:Str)(t:Tok) :
  Draws prog w A it [it] x.cps.size (fun i v=>∃ c u,x.cps[i]?=some c∧v = .str ⟨#[c]⟩ u) (fun i h=>h.IsStrIter it (strIterType x) x t i):=by
 unfold strIterType
 split
 ·exact Draws.strAscii hh it x t
 ·exact Draws.strWide hh it x t
theorem turn_enum {P:Program}{w:World}{K:PySem.W.Frag}{elts:List Expr}{k1:Nat}{pos:Pos}(e it:Addr)(hne:e≠it)(x:Str)(t:Tok) :
  Turn P w K (.Tuple elts k1 pos) (Ite x) [e,it] e (fun i h=>i≤x.cps.size∧(∃ old,IsEnum h e it i old)∧h.IsStrIter it (strIterType x) x t i) where
 mem:=by simp
 obj:=fun i h j b d=>by
  obtain⟨_,⟨old,f⟩,o,n,l,G⟩:=j
  rcases Zr.mp d with rfl | d
  ·exact⟨_,f,fun v z=>by cases z⟩
  ·rw[Zg.mp d]
   exact⟨o,n,fun v z=>by rw[G] at z;cases z⟩
 keep:=fun i h h' j k=>by
  obtain⟨a,⟨old,f⟩,o,n,l,G⟩:=j
  exact⟨a,⟨old,k e (by simp) _ f⟩,o,k it (by simp) o n,l,G⟩
 item:=by
  intro X N L O l i g s σ H E I F j J
  subst N L O
  obtain⟨a,⟨old,f⟩,B⟩:=j
  have M:X.A.handled=none:=I.ok.hd l
  have hi:i<x.cps.size:=J
  refine wpAny_pyNext_enum_itemD (drawsS (A:=X.A.in1) M it x t) f B hi hne (by simpa using hne) fun y h' r U n ab hT ad hk=>?_
  obtain⟨c,u,ec,rfl⟩:=U
  refine⟨_,rfl,wpAny_letOwnedTupleGo_enum n fun ac D m=>?_⟩
  have V:e<s.heap.objs.size:=Zo f
  have Y:it<s.heap.objs.size:=by obtain⟨o,p,_⟩:=B;exact Zo p
  have Z:H s.heap.objs.size=none:=I.hok.fresh (Zd _)
  -- the tuple laid,then the records turned
  have I1:Inv X g σ (upd H s.heap.objs.size (.tup [.int i,.str ⟨#[c]⟩])) { s with heap:=s.heap.push { cls:=.type "tuple", data:=.seq #[.int i r,.str ⟨#[c]⟩ u] } } :=
   I.laid (t':=s.toks) (fun b o z=>Zc _ z) (Zd _) ⟨by show 2≤sizeLine;decide,[.int i r,.str ⟨#[c]⟩ u],.cons ⟨r,rfl⟩ (.cons ⟨u,rfl⟩ .nil),⟨_,Zn _ rfl,rfl,_,rfl⟩⟩
  have ne:∀ b∈[e,it],b≠s.heap.objs.size:=fun b d=>by
   rcases Zr.mp d with rfl | d
   ·exact Z5 V
   ·rw[Zg.mp d];exact Z5 Y
  have R:∀ b∈[e,it],Ic X g (upd H s.heap.objs.size (.tup [.int i,.str ⟨#[c]⟩])) b:=fun b d=>by
   obtain⟨a0,a⟩:=F b d
   exact⟨by rw[Ai (ne b d)];exact a0,a⟩
  have I2:Inv X g σ (upd H s.heap.objs.size (.tup [.int i,.str ⟨#[c]⟩])) { s with heap:=ac,toks:=r+1 }:=Dq (s:={ s with heap:=s.heap.push { cls:=.type "tuple", data:=.seq #[.int i r,.str ⟨#[c]⟩ u] } }) I1 (fun b o d z=>by
   have C:b≠e:=fun q=>d (by simp[q])
   have S:b≠it:=fun q=>d (by simp[q])
   refine (m.2 b C).trans ?_
   rcases Heap.get?_push_cases z with ⟨aa,T⟩ | z2
   ·rw[aa,T]
    exact hT
   ·exact hk b o C S z2) R
  exact⟨.ref s.heap.objs.size,_,I2,rfl,⟨_,c,rfl,Z,rfl,ec⟩,⟨hi,⟨_,by simpa using D⟩,by
   obtain⟨o,p,hr⟩:=ab
   exact⟨o,(m.2 it hne.symm).trans p,hr⟩⟩,fun b d=>(R b d).1⟩
 done:=by
  intro X N L O l i g s σ H E I F j J
  subst N L O
  obtain⟨a,⟨old,f⟩,B⟩:=j
  have M:X.A.handled=none:=I.ok.hd l
  have e1:i=x.cps.size:=Nat.le_antisymm a J
  subst e1
  refine wpAny_pyNext_enum_endD (drawsS (A:=X.A.in1) M it x t) f B fun h' hx=>⟨rfl,?_⟩
  exact Dq (t':=s.toks) I (fun b o d z=>hx b o (fun q=>d (by simp[q])) z) F
 self:=fun _ i s Q E j h=>by
  obtain⟨_,⟨old,f⟩,_⟩:=j
  exact wpAny_pyIter_enum f h
section
variable {X:Cx} {elts:List Expr} {k1:Nat} {tpos:Pos}
inductive iEnum_ (R:It→Hp→Prop) (vs:List V) (H1:Hp):Prop
 | mk (x:_) (_:vs=[.str x]) (_:R (Ite x) H1)
def iEnum (ta:TA):TI:=fun σ H R=>ta σ H fun vs H1=>iEnum_ R vs H1
theorem pi_enum {a:Expr}{ta:TA}{p pos:Pos}(hg:Gl X "enumerate")(hm:X.mg "enumerate" = none)(ha:PA X [a] ta)(hs:starEach [a] X.env=[(false,eval a X.env)]:=by rfl):PI X (.Tuple elts k1 tpos) (.Call (.Name "enumerate" p) [a] [] pos) (iEnum ta):=by
 refine⟨?_⟩
 intro d s σ H R I h
 refine Call_ (Dj I hg hm boot_enumerate (Zaw (thn (ha pos d s σ H _ I h) fun w c ⟨z,g,f,o,n⟩=>?_) hs rfl))
 obtain⟨x,rfl,q⟩:=n
 obtain⟨u,rfl,v⟩:=Cs o
 obtain⟨t,rfl⟩:=v
 refine call_enumerate_str fun j i r y m=>wpAny_pyIter_enum (s:={ c with heap:=j }) i ?_
 have l:Inv X d σ g { c with heap:=j }:=f.kept (t':=c.toks) m
 have k:∀ b,c.heap.objs.size≤b→g b=none:=fun b e=>f.hok.fresh e
 refine⟨_,[_,_],_,Ite x,g,rfl,l,turn_enum (c.heap.objs.size+1) c.heap.objs.size (Zc8 (Zbk _)) x t,⟨Zt _,⟨_,i⟩,r⟩,fun b e=>?_,q⟩
 rcases Zr.mp e with rfl | e
 ·exact f.fpOk (Zbp _) (k _ (Zbp _))
 ·rw[Zg.mp e]
  exact f.fpOk (Zd _) (k _ (Zd _))
end
theorem for_enum {x:Str}{g:TG}{tb:TS}{D:Ends}{σ:L2.St}{H:Hp}(Pv:Nat→L2.St→Hp→Prop)(h0:Pv 0 σ H)(hs:∀ i c t σ H,x.cps[i]?=some c→H t=none→Pv i σ H→g (.ref t) σ (upd H t (.tup [.int i,.str ⟨#[c]⟩])) fun σ2 H2=>tb { D with nx:=Pv (i+1),ct:=Pv (i+1),bk:=D.nx } σ2 H2)(hd:∀ σ H,Pv x.cps.size σ H→D.nx σ H) :
  ∃ W:Nat→Nat→L2.St→Hp→Prop,(∃ m,W 0 m σ H)∧∀ i m σ H,W i m σ H →
   ((Ite x).stop i H∧D.nx σ H)∨((Ite x).go i H∧∃ N:L2.St→Hp→Prop,(∀ σ' H',N σ' H'→∃ m',m'<m∧W (i+1) m' σ' H')∧∀ y H',(Ite x).yld i H y H'→g y σ H' fun σ2 H2=>tb { D with nx:=N,ct:=N,bk:=D.nx } σ2 H2):=by
 refine⟨fun i m σ H=>m=x.cps.size - i∧i≤x.cps.size∧Pv i σ H,⟨_,rfl,Zt _,h0⟩,?_⟩
 rintro i m σ H ⟨rfl,f,p⟩
 by_cases a:i<x.cps.size
 ·refine .inr ⟨a,Pv (i+1),fun σ' H' b=>⟨x.cps.size - (i+1),by lia,rfl,a,b⟩,fun y H' z=>?_⟩
  obtain⟨t,c,rfl,ht,rfl,d⟩:=z
  exact hs i c t σ H d ht p
 ·have e:i=x.cps.size:=by lia
  subst e
  exact .inl ⟨Zd _,hd σ H p⟩
def Fg:List V→List V→Bool
 | x::xs,y::ys=>eqV x y && Fg xs ys
 | [],[]=>true
 | _,_=>false
def flats:List V→List V→Bool
 | x::xs,y::ys=>De x && De y && flats xs ys
 | _,_=>true
theorem flats_at:∀ {xs ys:List V} {j:Nat} {x y:V},flats xs ys=true→xs[j]?=some x→ys[j]?=some y→De x=true∧De y=true
 | a::xs,b::ys,0,x,y,h,h1,h2=>by
  have e1:a=x:=Zm h1
  have e2:b=y:=Zm h2
  subst e1 e2
  have h' : (De a && De b && flats xs ys)=true:=h
  rw[Zay,Zay] at h'
  exact h'.1
 | a::xs,b::ys,j+1,x,y,h,h1,h2=>by
  have h' : (De a && De b && flats xs ys)=true:=h
  rw[Zay,Zay] at h'
  exact flats_at h'.2 h1 h2
 | [],_,_,_,_,_,h1,_=>by simp at h1
 | _::_,[],_,_,_,_,_,h2=>by simp at h2
def eqJ (xs ys:List V)(j:Nat):Bool:=match xs[j]?,ys[j]? with
 | some x,some y=>eqV x y
 | _,_=>true
theorem eqAll_eq:∀ (xs ys:List V),((List.range (min xs.length ys.length)).all (eqJ xs ys) && xs.length == ys.length)=Fg xs ys
 | [],[]=>rfl
 | [],y::ys=>by simp[Fg]
 | x::xs,[]=>by simp[Fg]
 | x::xs,y::ys=>by
  have ih:=eqAll_eq xs ys
  have e:min (x::xs).length (y::ys).length=min xs.length ys.length+1:=by simp only[Zab];lia
  rw[e,List.range_succ_eq_map,List.all_cons,List.all_map]
  have e2:(eqJ (x::xs) (y::ys) ∘ Nat.succ)=eqJ xs ys:=by
   funext j
   show eqJ (x::xs) (y::ys) (j+1)=_
   unfold eqJ
   rw[List.getElem?_cons_succ,List.getElem?_cons_succ]
  rw[e2]
  show (eqV x y && (List.range (min xs.length ys.length)).all (eqJ xs ys) && ((xs.length+1) == (ys.length+1)))=(eqV x y && Fg xs ys)
  rw[← ih,Bool.and_assoc]
  congr 2
  rw[Zcm,Zc1,Zc1]
  lia
section
variable {X:Cx}
inductive rEqT (K:PySem.W.Frag) (x y:V) (H:Hp) (Q:VK):Prop
 | mk (a b xs ys:_) (_:x = .ref a) (_:y = .ref b) (_:SqT K H a xs) (_:SqT K H b ys) (_:flats xs ys=true) (_:Q (.bl (Fg xs ys)) H)
theorem op_eqT (hu:X.A.units<cLine):OpR X (compareOp .Eq) (rEqT X.K):=by
 intro z s σ H x y v u Q I M O h
 obtain⟨a,b,d,c,rfl,rfl,P,C,F,q⟩:=h
 cases M
 cases O
 obtain⟨g,r,R,Y⟩:=I.tuple P
 obtain⟨f,m,n,W⟩:=I.tuple C
 have T:=r.length
 have p:=m.length
 refine SeqAt.eq_tupleAt (e:=eqJ d c) R n hu (fun j w B=>?_) ⟨.bl (Fg d c),H,I,?_,q⟩
 ·have V : j<g.length:=by simpa using w
  have U : j<f.length:=by simpa using B
  have i:d[j]?=some d[j]:=Zi (by lia)
  have k:c[j]?=some c[j]:=Zi (by lia)
  obtain⟨L,J,o⟩:=r.get i
  obtain⟨G,S,l⟩:=m.get k
  obtain⟨t,N⟩:=flats_at F i k
  have E:g.toArray[j]=L:=by
   have:=(Zj.mp J).2
   simpa using this
  have D:f.toArray[j]=G:=by
   have:=(Zj.mp S).2
   simpa using this
  rw[E,D,show eqJ d c j=eqV d[j] c[j] from by unfold eqJ;rw[i,k]]
  exact eqAt_V o l t N
 ·show Value.bool _=Value.bool _
  rw[← eqAll_eq,Zh,Zh,T,p]
theorem Jj:OpR X (compareOp .In) (fun x y H Q=>∃ d k r,x = .str k∧y = .ref d∧GD X.K X.w.params d∧(d == sysModules)=false∧PySem.W.nsIn X.K d k=some r∧Q (.bl r.isSome) H):=by
 intro f s σ H x y v u Q I g j h
 obtain⟨d,k,r,rfl,rfl,⟨l,n,a,c⟩,b,e,q⟩:=h
 obtain⟨t,rfl⟩:=g
 cases j
 have i:=PySem.W.mapOf_K (prog:=X.prog) I.kIn a c
 refine wpAny_in_of (strKind_is X.prog X.w k t) b i ?_
 rw[PySem.W.find_K a e]
 exact⟨.bl r.isSome,H,I.tok _,rfl,q⟩
theorem kit_tt (K:PySem.W.Frag):PySem.W.kitOne K (.type "tuple") (.type "tuple")=some true:=rfl
theorem call_isTup:Dd X (.builtin "isinstance") (fun xs H Q=>∃ a ys,xs=[.ref a,.ty "tuple"]∧SqT X.K H a ys∧Q (.bl true) H):=by
 intro c s σ H xs m Q I r h
 obtain⟨a,ys,rfl,k,q⟩:=h
 obtain⟨u,j,rfl,e,f⟩:=vals2 r
 cases (show j=Value.type "tuple" from f)
 cases (show u=Value.ref a from e)
 obtain⟨l,n,i,p⟩:=I.tuple k
 obtain⟨o,b,d,_⟩:=i
 exact Za5 PySem.W.kitx_tuple I.kIn ⟨o,b,d⟩ (kit_tt _) (fun z=>nomatch z) fun g=>⟨.bl true,H,I.tok g,rfl,q⟩
theorem call_all (hc:X.calm=true):Dd X (.builtin "all") (fun xs H Q=>∃ (l:Addr) (bs:List Bool),xs=[.ref l]∧SqL X.K H l (bs.map V.bl)∧Q (.bl (bs.all id)) H):=by
 intro z s σ H xs P Q I r h
 obtain⟨l,bs,rfl,J,q⟩:=h
 obtain⟨u,rfl,O⟩:=Cs r
 cases O
 obtain⟨a,n,k,S⟩:=I.list J
 have L:X.A.handled=none:=I.ok.hd hc
 have w:bs.length=a.length:=by rw[← n.length,Zl]
 have E:l≠s.heap.objs.size:=fun e=>by
  obtain⟨o,D,_⟩:=k.isList
  exact Za3 _ (e ▸ Zo D)
 refine call_all_walk (Zbx k.isList ?_)
 refine⟨s.heap.objs.size,_,_,_,_,_,fun i=>(bs[i]?).getD true,rfl,Walks.list (A:=X.A.in1) L s.heap.objs.size l E a.toArray,⟨⟨_,Zn _ rfl,rfl,rfl⟩,k.isList.at fun o e=>Zc _ e⟩,fun i v C N T B t=>?_,fun M F x=>?_⟩
 ·have d : a[i]?=some v:=by simpa using B
  have c:i<a.length:=(Zj.mp d).1
  have g:(bs.map V.bl)[i]?=some (V.bl bs[i]):=by
   rw[Zp,Zi (by lia)]
   rfl
  obtain⟨R,p,m⟩:=n.get g
  rw[d] at p
  cases p
  cases (show v=Value.bool bs[i] from m)
  have j:N ((bs[i]?).getD true) C:=t
  rw[Zi (by lia)] at j
  exact Zbb j
 ·have y:∀ b o,s.heap.get? b=some o→M.get? b=some o:=fun b o e=>x b o (by simpa using Z5 (Zo e)) (Zc _ e)
  refine⟨.bl (bs.all id),H,I.kept (t':=F) y,?_,q⟩
  show Value.bool _=Value.bool _
  congr 1
  rw[Zh,← w]
  rw[Zcm,List.all_eq_true,List.all_eq_true]
  constructor
  ·intro h b G
   obtain⟨i,c,rfl⟩:=Zb8 G
   have:=h i (List.mem_range.mpr c)
   rw[Zi c] at this
   exact this
  ·intro h i c
   have f:=List.mem_range.mp c
   rw[Zi f]
   exact h _ (Zc0 f)
end
def AllIn (cells:List (Str×Addr)):List (Str×Addr)→Prop
 | []=>True
 | p::r=>cells.lookup p.1=some p.2∧AllIn cells r
theorem C0 {cells:List (Str×Addr)}:∀ {cl:List (Str×Addr)},AllIn cells cl→∀ y c,cl.lookup y=some c→cells.lookup y=some c
 | [],_,_,_,h=>by simp at h
 | (z,d)::r,a,y,c,h=>by
  cases e:y == z with
  | true =>
   rw[List.lookup_cons,e] at h
   have h' : d=c:=Zm h
   have e' : y=z:=eq_of_beq e
   rw[e',← h']
   exact a.1
  | false =>
   rw[List.lookup_cons,e] at h
   exact C0 a.2 y c h
def hasAll (cl:List (Str×Addr))(names:List (Str×NameKind)):Bool:=names.all fun p=>!(p.2 == .cell || p.2 == .free) || (cl.lookup p.1).isSome
theorem hasAll_of {cl:List (Str×Addr)}{y:Str}:∀ {names:List (Str×NameKind)},hasAll cl names=true→(names.lookup y=some .cell∨names.lookup y=some .free)→∃ c,cl.lookup y=some c
 | [],_,h=>by rcases h with h | h <;> simp at h
 | (z,k)::r,a,h=>by
  have a' : (!(k == .cell || k == .free) || (cl.lookup z).isSome)=true∧hasAll cl r=true:=by
   unfold hasAll at a
   rw[List.all_cons,Zay] at a
   exact a
  cases e:y == z with
  | true =>
   rw[List.lookup_cons,e] at h
   have e' : y=z:=eq_of_beq e
   subst e'
   have hk:(k == NameKind.cell || k == NameKind.free)=true:=by
    rcases h with h | h
    ·have:k = .cell:=Zm h
     subst this;rfl
    ·have:k = .free:=Zm h
     subst this;rfl
   have:=a'.1
   rw[hk] at this
   exact Zcn.mp this
  | false =>
   rw[List.lookup_cons,e] at h
   exact hasAll_of a'.2 h
def CapOk (X:Cx)(scope:Scope)(cl:List (Str×Addr)):List (Str×Nat)→Prop
 | []=>True
 | p::r=>(X.N[p.2]?=some p.1∧(X.env.scope.names.lookup p.1=some .cell∨X.env.scope.names.lookup p.1=some .free)∧(cl.lookup p.1).isSome=true ∧
   ((relabel scope X.env).names.lookup p.1=some .cell∨(relabel scope X.env).names.lookup p.1=some .free))∧CapOk X scope cl r
theorem CapOk.at {X:Cx}{cl:List (Str×Addr)}:∀ {ys:List (Str×Nat)} {j:Nat} {p:Str×Nat},CapOk X scope cl ys→ys[j]?=some p →
  X.N[p.2]?=some p.1∧(X.env.scope.names.lookup p.1=some .cell∨X.env.scope.names.lookup p.1=some .free)∧(cl.lookup p.1).isSome=true∧((relabel scope X.env).names.lookup p.1=some .cell∨(relabel scope X.env).names.lookup p.1=some .free)
 | [],_,_,_,h=>by simp at h
 | q::r,0,p,a,h=>by
  have e:q=p:=Zm h
  subst e
  exact a.1
 | q::r,j+1,p,a,h=>CapOk.at a.2 h
def Ix (σ:L2.St)(ys:List (Str×Nat)):L2.St:=ys.map fun p=>(σ[p.2]?).join
def Bt (X:Cx)(scope:Scope)(cl:List (Str×Addr))(C:Addr)(s₀:Shared)(H₀:Hp)(ex:List Addr)(xs:List Str)(ys:List (Str×Nat))(fn:Str→Bool):Cx where
 prog:=X.prog
 w:=X.w
 K:=X.K
 mg:=X.mg
 base:=X.base
 A:=X.A
 N:=xs++ys.map (·.1)
 s₀:=s₀
 H₀:=H₀
 env:=compEnvC scope cl C X.env
 outer:=X.stack
 stack:=X.stack
 ex:=ex
 fn:=fn
 calm:=X.calm
 pn:=[]
 xe:=fun _ _=>False
structure CpOk (X:Cx) (scope:Scope) (cl:List (Str×Addr)) (xs:List Str) (ys:List (Str×Nat)) (iter:Expr):Prop where
 sub:AllIn X.env.cells cl
 has:hasAll cl (relabel scope X.env).names=true
 cap:CapOk X scope cl ys
 cell:∀ y∈scope.names,y.2 ≠ .cell
 kind:scope.kind = .function
 names:∀ y∈scope.names,y.2 = .local→scope.names.lookup y.1=some .local
 loc:∀ x∈xs,scope.names.lookup x=some .local
 nd:(xs++ys.map (·.1)).Nodup
 set:∀ z,foldedSetIterable iter X.env z=pure z
theorem cok {X:Cx}{scope:Scope}{cl:List (Str×Addr)}{xs:List Str}{ys:List (Str×Nat)}{iter:Expr}(h1:AllIn X.env.cells cl:=by repeat (first | exact True.intro | refine And.intro rfl ?_))(h2:hasAll cl (relabel scope X.env).names=true:=by rfl)(h3:CapOk X scope cl ys:=by repeat (first | exact True.intro | refine And.intro ⟨rfl,.inl rfl,rfl,.inl rfl⟩ ?_))(h4:∀ y∈scope.names,y.2 ≠ .cell:=by decide +kernel)(h5:scope.kind = .function:=by rfl)(h6:∀ y∈scope.names,y.2 = .local→scope.names.lookup y.1=some .local:=by decide +kernel)(h7:∀ x∈xs,scope.names.lookup x=some .local:=by decide +kernel)(h8:(xs++ys.map (·.1)).Nodup:=by decide +kernel)(h9:∀ z,foldedSetIterable iter X.env z=pure z:=by intro _;rfl):CpOk X scope cl xs ys iter :=
 ⟨h1,h2,h3,h4,h5,h6,h7,h8,h9⟩
section
variable {X:Cx} {scope:Scope} {cl:List (Str×Addr)} {C:Addr} {xs:List Str} {ys:List (Str×Nat)} {pins:List (Addr×Obj)} {σ:L2.St} {H:Hp} {s:Shared} {ex:List Addr}
theorem cap_at {h₁:Heap}{j:Nat}{y:Str}{v:V}(hk:∀ b o,s.heap.get? b=some o→h₁.get? b=some o)(hsub:AllIn X.env.cells cl)(hcap:CapOk X scope cl ys)(I:Inv X pins σ H s)(e1' : (ys.map (·.1))[j]?=some y)(e2' : (Ix σ ys)[j]?=some (some v)) :
  ∃ u c,Bl v u∧((relabel scope X.env).names.lookup y=some .cell∨(relabel scope X.env).names.lookup y=some .free)∧cl.lookup y=some c∧h₁.IsCell c (some u):=by
 rw[Zp] at e1'
 unfold Ix at e2'
 rw[Zp] at e2'
 cases q:ys[j]? with
 | none=>rw[q] at e1';cases e1'
 | some p =>
  rw[q] at e1' e2'
  have h:p.1=y:=Zm e1'
  have d:(σ[p.2]?).join=some v:=Zm e2'
  subst h
  have f : σ[p.2]?=some (some v):=by
   cases z:σ[p.2]? with
   | none=>rw[z] at d;cases d
   | some o=>rw[z] at d;exact congrArg some d
  obtain⟨r,a,i,l⟩:=hcap.at q
  obtain⟨B,_,t⟩:=I.loc
  obtain⟨u,A,w⟩:=t p.2 p.1 v r f (.inr a)
  rcases w with ⟨x,_⟩ | ⟨_,c,n,o,k,m⟩
  ·have g : X.env.scope.names.lookup p.1=some .local:=x
   rcases a with a | a <;> rw[g] at a <;> cases a
  ·obtain⟨C,e⟩:=Zcn.mp i
   have:=C0 hsub _ _ e
   rw[n] at this
   cases this
   exact⟨u,c,A,l,e,o,hk c o k,m⟩
theorem comp_ok (I:Inv X pins σ H s)(hkind:scope.kind = .function)(hsub:AllIn X.env.cells cl)(hhas:hasAll cl (relabel scope X.env).names=true)(hC:s.heap.objs.size≤C)(hf:∀ b∈ex,Ic X pins H b)(hlt:∀ b∈ex,b<s.heap.objs.size):(Bt X scope cl C s H ex xs ys fun _=>false).Ok where
 mod:=I.ok.mod
 kind:=hkind
 glob:=I.ok.glob
 blt:=I.ok.blt
 above:=hC
 inj:=fun y z c f g=>I.ok.inj y z c (C0 hsub y c f) (C0 hsub z c g)
 has:=fun y h=>hasAll_of hhas h
 cab:=fun _ _ h=>absurd h Zu
 hd:=I.ok.hd
 frames:=I.ok.frames
 stk:=.inl rfl
 exf:=fun b a=>⟨Z5 (Z7 (hlt b a) hC),fun y c h=>(hf b a).2.2.2.2.1 y c (C0 hsub y c h)⟩
 bs:=I.bs
 bsz:=Zah I.ok.bsz I.sz
 noex:=fun b o e a=>by
  obtain⟨_,_,_,d,_⟩:=hf b a
  rcases d with d | d
  ·exact I.ok.noex b o e d
  ·exact absurd (Z7 (Zo (I.ok.bs b o e).1) d) (Za3 _)
 exfs:=fun b a i=>by
  rcases Zr.mp (I.stkSub b i) with e | e
  ·exact (hf b a).2.1 e
  ·exact (hf b a).2.2.1 e
 funs:=I.stack
 frf:=I.stkFree
theorem comp_start {h₁:Heap}{t:Nat}{m:Str→Option Value}(I:Inv X pins σ H s)(hkind:scope.kind = .function)(hsub:AllIn X.env.cells cl)(hhas:hasAll cl (relabel scope X.env).names=true)(hcap:CapOk X scope cl ys)(hC:s.heap.objs.size≤C)(hf:∀ b∈ex,Ic X pins H b)(hlt:∀ b∈ex,b<s.heap.objs.size)(hk:∀ b o,s.heap.get? b=some o→h₁.get? b=some o)(hn:h₁.Ns C m) :
  Inv (Bt X scope cl C s H ex xs ys fun _=>false) [] (xs.map (fun _=>none)++Ix σ ys) H { s with heap:=h₁,toks:=t } where
 ok:=comp_ok I hkind hsub hhas hC hf hlt
 os:=rfl
 bare:=I.bare
 base:=Un.kept hk
 loc:=by
  refine⟨m,hn,fun i y v k g x=>?_⟩
  rcases Nat.lt_or_ge i xs.length with d | d
  ·have a : (xs.map (fun _=>(none:Option V))++Ix σ ys)[i]?=some (some v):=g
   rw[Zat (by rw[Zl];exact d),Zp,Zi d] at a
   cases a
  ·have e : (xs++ys.map (·.1))[i]?=some y:=k
   have a : (xs.map (fun _=>(none:Option V))++Ix σ ys)[i]?=some (some v):=g
   rw[Zag d] at e
   rw[Zag (by rw[Zl];exact d),Zl] at a
   obtain⟨u,c,w,l,q,f⟩:=cap_at hk hsub hcap I e a
   exact⟨u,w,.inr ⟨l,c,q,f⟩⟩
 cell:=fun y c h=>by
  obtain⟨v,o,j,n⟩:=I.cell y c (C0 hsub y c h)
  exact⟨v,o,hk c o j,n⟩
 free:=I.hok.fresh hC
 freeC:=fun y c h=>I.freeC y c (C0 hsub y c h)
 pin:=fun p r=>nomatch r
 hok:=I.hok.kept hk
 len:=by simp[Bt,Ix]
theorem comp_end {H' : Hp}{s' : Shared}(I:Inv X pins σ H s)(os:s'.os=s.os)(u:Un (frs X.stack) ex H H' s.heap s'.heap)(bare:AllBare s'.gens)(hok:HOk X.prog X.w H' s'.heap)(hf:∀ b∈ex,Ic X pins H b):Inv X pins σ H' s':=by
 refine I.call' (ch:=ex) os u hok bare fun b a=>?_
 obtain⟨_,c,_,d,f,e⟩:=hf b a
 exact⟨d,c,f,e⟩
end
def PTs (X:Cx)(ifs:List Expr)(t:TT):Prop :=
 ∀ (pins:List (Addr×Obj)) (s:Shared) (σ:L2.St) (H:Hp) (E:Value→Shared→Prop) (Q:Bool→Hp→Prop),Inv X pins σ H s→t σ H Q →
  wpAny (model X.prog X.w) X.A (forIn ifs true fun c r=>if r=true then do let ok ← isTrue c X.env (eval c X.env);pure (ForInStep.yield ok) else pure (ForInStep.yield r)) (TP X pins σ Q) E s
def tYes:TT:=fun _ H Q=>Q true H
theorem cpY {D:Addr}{te:TE}{τ:L2.St}{H:Hp}{N:Hp→Prop}(h:te τ H fun y H5=>∃ xs,H5 D=some (.lst xs)∧xs.length<sizeLine∧N (upd H5 D (.lst (xs++[y])))):CpB D tYes te τ H N:=by
 dsimp only [CpB,tYes]
 exact Eg h
theorem Ep:PTs X [] tYes:=fun _ _ _ H _ _ I h=>wpAny_tests_nil ⟨H,I,h⟩
theorem pts_one {X:Cx}(hx:X.xe=fun _ _=>False)(h:PT X c t):PTs X [c] t:=fun a s σ H E Q I q =>
 wpAny_tests_one (Zbt (h a s σ H Q I q) (fun _ _ z=>z) fun e b z=>by rw[hx] at z;exact z.elim)
def tComp (ys:List (Str×Nat))(wi:TI)(tt:TT)(te:TE):TE:=fun σ H Q=>wi σ H fun J H1=>∀ D,H1 D=none→CpW J D H1 (fun H2=>Q (.ref D) H2) fun x H3 N=>CpB D tt te (some x::Ix σ ys) H3 N
abbrev testsOf (ifs:List Expr) (env:Env):Sem Bool:=forIn ifs true fun c r=>if r=true then (do let ok ← isTrue c env (eval c env);pure (ForInStep.yield ok)) else pure (ForInStep.yield r)
section
variable {prog:Program} {w:World} {A:Around} {R:Result→Shared→Prop} {s:Shared}
abbrev Hc (prog:Program) (w:World) (A:Around) (env:Env) (R:Result→Shared→Prop):Value→Shared→Prop:=notedBy (model prog w) A env fun e s'=>R (.error e) s'
def TurnTo (prog:Program)(w:World)(A:Around)(R:Result→Shared→Prop)(tg elt:Expr)(ifs:List Expr)(it acc:Value)(env:Env)(next:Shared→Prop)(v:Value)(s₁:Shared):Prop :=
 wpAny (model prog w) A (letOwnedTupleGo tg it v) (fun _ s₂=>wpAny (model prog w) A (assign tg env v) (fun _ s₃=>wpAny (model prog w) A (testsOf ifs env) (fun ok s₄ =>
  if ok=true then wpAny (model prog w) A (eval elt env) (fun x s₅=>wpAny (model prog w) A (call (.builtin "list.append") [acc,x]) (fun _ s₆=>next s₆) (Hc prog w A env R) s₅) (Hc prog w A env R) s₄ else next s₄)
  (Hc prog w A env R) s₃) (Hc prog w A env R) s₂) (Hc prog w A env R) s₁
theorem compLoop_go (J:Nat→Shared→Prop)(turn:∀ n s,J n s→wpAny (model prog w) A (pyNext it) (fun r s₁=>match r with | none=>R (.ok .next) s₁ | some v=>TurnTo prog w A R tg elt ifs it acc env (fun s'=>∃ m,m<n∧J m s') v s₁) (Hc prog w A env R) s)(n:Nat)(h:J n s):codeAny (model prog w) A (.compLoop (.ListComp elt [⟨tg,iter,ifs,0⟩] scope pos) 0 it acc env) R s:=by
 refine codeAny_loop rfl J (fun m s' g=>?_) n h
 have step:wpAny (model prog w) A (compTurn (.ListComp elt [⟨tg,iter,ifs,0⟩] scope pos) 0 it acc env) (fun fin a=>match fin with | .done f=>R (.ok f) a | .again c=>c = .compLoop (.ListComp elt [⟨tg,iter,ifs,0⟩] scope pos) 0 it acc env∧∃ k,k<m∧J k a) (Hc prog w A env R) s':=by
  rw[compTurn_list]
  refine Zb (wpAny_standAt (Zb (thn (turn m s' g) fun r s₁ d=>?_)))
  cases r with
  | none=>exact Zk d
  | some v =>
   refine Zb (thn d fun _ o i=>Zb (thn i fun _ u e=>Zb (thn e fun ok p b=>?_)))
   cases ok with
   | false=>exact Zk ⟨rfl,b⟩
   | true=>exact Zb (Zb (thn b fun x t j=>Zb (thn j fun _ q l=>Zk (Zk ⟨rfl,l⟩))))
 exact wpAny_noted step
end
theorem comp_loop {Y:Cx}{tg elt iter:Expr}{ifs:List Expr}{scope:Scope}{pos:Pos}{tt:TT}{te:TE}{J:It}{fp:List Addr}{it D:Addr}{tn:Nat→Heap→Prop}{R:Result→Shared→Prop}{cs v0:L2.St}{k:Nat}{Bk:V→Hp→(L2.St→Prop)→Prop}{W:Nat→Nat→Hp→Prop}{Qn:Hp→Prop}{H:Hp}{s₃:Shared}{m0:Nat}(hc:Y.calm=true)(hxe:Y.xe=fun _ _=>False)(T:Turn Y.prog Y.w Y.K tg J fp it tn)(ht:PTs Y ifs tt)(he:PE Y elt te)(hg:∀ pins s v0 H x u R,v0.length=k→Inv Y pins (v0++cs) H s→Bl x u→Bk x H R→wpAny (model Y.prog Y.w) Y.A (assign tg Y.env u) (fun _ s'=>∃ τ,τ.length=k∧Inv Y pins (τ++cs) H s'∧R τ) Y.xe s)(fY:∀ {H'},(∀ b∈fp,H' b=none)→∀ b∈fp,Ic Y [] H' b)(turn:∀ i m H2,W i m H2→(J.stop i H2∧Qn H2)∨(J.go i H2∧∃ N:Hp→Prop,(∀ H',N H'→∃ m',m'<m∧W (i+1) m' H')∧∀ x H3,J.yld i H2 x H3→Bk x H3 fun τ=>tt (τ++cs) H3 fun ok H4 =>
   if ok=true then te (τ++cs) H4 fun y H5=>∃ xs,H5 D=some (.lst xs)∧xs.length<sizeLine∧N (upd H5 D (.lst (xs++[y]))) else N H4))(fin:∀ σ' s6 H5,Inv Y [] σ' H5 s6→Qn H5→R (.ok .next) s6)(hk:v0.length=k)(I4:Inv Y [] (v0++cs) H s₃)(st:tn 0 s₃.heap)(fr:∀ b∈fp,H b=none)(w0:W 0 m0 H) :
  codeAny (model Y.prog Y.w) Y.A (.compLoop (.ListComp elt [⟨tg,iter,ifs,0⟩] scope pos) 0 (.ref it) (.ref D) Y.env) R s₃:=by
 refine compLoop_go (fun n s'=>∃ i H' v0,v0.length=k∧Inv Y [] (v0++cs) H' s'∧tn i s'.heap∧(∀ b∈fp,H' b=none)∧W i n H') ?_ m0 ⟨0,_,v0,hk,I4,st,fr,w0⟩
 rintro n s5 ⟨i,H5,v0,F,L,t,v,w5⟩
 rcases turn i n H5 w5 with ⟨stop,qn⟩ | ⟨go,N,hN,step⟩
 ·refine thn (T.done Y rfl rfl rfl hc i [] s5 _ H5 _ L (fY v) t stop) fun r s6 a=>?_
  obtain⟨C,I6⟩:=a
  subst C
  exact fin _ _ _ I6 qn
 ·refine thn (T.item Y rfl rfl rfl hc i [] s5 _ H5 _ L (fY v) t go) fun r s6 a=>?_
  obtain⟨u,C,h6⟩:=a
  subst C
  refine thn h6 fun _ P a=>?_
  obtain⟨Q,B,I7,r7,y7,j,S⟩:=a
  refine Zbt (hg _ P _ B Q u _ F (I7.pinned (fY S) (T.obj _ _ j)) r7 (step Q B y7)) (fun _ s8 a=>?_) (fun _ _ z=>by rw[hxe] at z;exact z.elim)
  obtain⟨τ,lt,I8,l⟩:=a
  have f:∀ {c:Hp} {h:Shared},Inv Y ([]++pinsAt fp P.heap) (τ++cs) c h→N c→∃ m,m<n∧∃ i H' v0,v0.length=k∧Inv Y [] (v0++cs) H' h∧tn i h.heap∧(∀ b∈fp,H' b=none)∧W i m H':=fun {c h} g n9=>by
   obtain⟨m',hm,w9⟩:=hN c n9
   refine⟨m',hm,i+1,c,τ,lt,g.unpinned,T.keep _ _ _ j fun b p o e=>(g.pin (b,o) (Zaq _ (Zaq _ (Eb p e)))).1,fun b p=>?_,w9⟩
   obtain⟨o,e,d⟩:=T.obj _ _ j b p
   exact (g.pin (b,o) (Zaq _ (Zaq _ (Eb p e)))).2.1
  refine thn (ht _ s8 _ B _ _ I8 l) fun ok h a=>?_
  obtain⟨c,g,q⟩:=a
  cases ok with
  | false =>
   rw[Zs Zu] at q ⊢
   exact f g q
  | true =>
   rw[Zw rfl] at q ⊢
   refine Zbt (he _ h _ c _ g q) (fun y aa a=>?_) (fun _ _ z=>by rw[hxe] at z;exact z.elim)
   obtain⟨G,U,M,ry,xs,E,hz,Z⟩:=a
   exact Zbt (Ba (X:=Y) _ aa _ U (.ref D) [G] (.ref D) [y] (fun _ H'=>N H') M rfl (.cons ry .nil) ⟨_,xs,G,rfl,rfl,E,hz,Z⟩)
    (fun _ ab ⟨_,ac,O,_,I⟩=>f O I) (fun _ _ z=>by rw[hxe] at z;exact z.elim)
section
variable {X:Cx} {scope:Scope} {cl:List (Str×Addr)} {x y:Str} {px py pt pos:Pos} {k1:Nat} {xs:List Str} {ys:List (Str×Nat)} {tg elt iter:Expr} {ifs:List Expr} {wi:TI} {tt:TT} {te:TE} {Bk:V→Hp→(L2.St→Prop)→Prop}
def tCompG (Bk:V→Hp→(L2.St→Prop)→Prop)(ys:List (Str×Nat))(wi:TI)(tt:TT)(te:TE):TE:=fun σ H Q=>wi σ H fun J H1=>∀ D,H1 D=none→CpW J D H1 (fun H2=>Q (.ref D) H2) fun x H3 N=>Bk x H3 fun τ=>CpB D tt te (τ++Ix σ ys) H3 N
theorem comp_core {use:Option (Value→Sem Unit)}{Qv:Value→Shared→Prop}{H:Hp}{cf:Addr→List (Str×Addr)}{fn:Str→Bool}{k:Nat}(hc:X.calm=true)(hi:PI X tg iter wi)(ht:∀ C s₀ H₀ ex,PTs (Bt X scope (cf C) C s₀ H₀ ex xs ys fn) ifs tt)(he:∀ C s₀ H₀ ex,PE (Bt X scope (cf C) C s₀ H₀ ex xs ys fn) elt te)(hclos:closureFor scope X.env=pure cl)(hkind:scope.kind = .function)(hnames:∀ y∈scope.names,y.2 = .local→scope.names.lookup y.1=some .local)(hs:∀ z,foldedSetIterable iter X.env z=pure z)(I:Inv X pins σ H s)(h:tCompG Bk ys wi tt te σ H Q)(hg:∀ C s₀ H₀ ex pins s v0 H x u R,v0.length=k→Inv (Bt X scope (cf C) C s₀ H₀ ex xs ys fn) pins (v0++Ix σ ys) H s→Bl x u→Bk x H R→wpAny (model X.prog X.w) X.A (assign tg (compEnvC scope (cf C) C X.env) u) (fun _ s'=>∃ τ,τ.length=k∧Inv (Bt X scope (cf C) C s₀ H₀ ex xs ys fn) pins (τ++Ix σ ys) H s'∧R τ) (fun _ _=>False) s)(hE:∀ (s3:Shared) (H3:Hp) (fp:List Addr) (E:Value→Shared→Prop) (Q:Env→Shared→Prop),Inv X pins σ H3 s3→(∀ b∈fp,Ic X pins H3 b)→(∀ b∈fp,b<s3.heap.objs.size) →
   (∀ cenv h₁ t v0,cenv.locals=s3.heap.objs.size→{ cenv with scope:=relabel scope X.env }=compEnvC scope (cf s3.heap.objs.size) s3.heap.objs.size X.env→v0.length=k→(∀ b o,s3.heap.get? b=some o→h₁.get? b=some o) →
    Inv (Bt X scope (cf s3.heap.objs.size) s3.heap.objs.size s3 H3 fp xs ys fn) [] (v0++Ix σ ys) H3 { s3 with heap:=h₁,toks:=t }→Q cenv { s3 with heap:=h₁,toks:=t }) →
   wpAny (model X.prog X.w) X.A (newFunctionEnv scope X.env.globals cl [] X.env.qual none .none (some X.env)) Q E s3)(hfin:∀ (D C:Addr) (m:Str→Option Value) (s6:Shared) (H5:Hp),Inv X pins σ H5 s6→Ic X pins H5 C→s6.heap.Ns C m→Q (.ref D) H5→compPost (model X.prog X.w) X.A X.xe use Qv (.ref D) C (.ok .next) s6) :
  wpAny (model X.prog X.w) X.A (comprehension (.ListComp elt [⟨tg,iter,ifs,0⟩] scope pos) scope X.env pos' (newList []) false (eval iter X.env) use) Qv X.xe s:=by
 refine wpAny_comprehension_free (use:=use) rfl hs hclos hkind hnames (thn (hi pins s σ H _ I h) fun v s1 U=>thn U fun aa d V=>?_)
 obtain⟨it,fp,tn,J,i,rfl,M,T,n,Z,q⟩:=V
 have hD:i d.heap.objs.size=none:=M.hok.fresh (Zd _)
 have F:Inv X pins σ (upd i d.heap.objs.size (.lst [])) { d with heap:=d.heap.push { cls:=.type "list", dict:=none,data:=.seq ([]:List Value).toArray } }:=M.lnew (its:=[]) (t':=d.toks) .nil (Zt _)
 obtain⟨W,⟨m0,w0⟩,L⟩:=q _ hD
 have l:∀ b∈fp,b<d.heap.objs.size:=fun b c=>let ⟨o,e,_⟩:=T.obj _ _ n b c;Zo e
 have K:∀ b∈fp,Ic X pins (upd i d.heap.objs.size (.lst [])) b:=fun b c=>by
  obtain⟨a0,a⟩:=Z b c
  exact⟨by rw[Ai (Z5 (l b c))];exact a0,a⟩
 refine Zby ?_
 have G:∀ b o,d.heap.get? b=some o→(d.heap.push { cls:=.type "list", dict:=none,data:=.seq ([]:List Value).toArray }).get? b=some o:=fun b o e=>Zc _ e
 refine hE _ _ fp _ _ F K (fun b c=>by rw[Za1];exact Zb6 (l b c)) fun cenv h₁ t v0 S N P O j=>?_
 have fY:∀ {H' : Hp},(∀ b∈fp,H' b=none)→∀ b∈fp,Ic (Bt X scope (cf _) _ _ (upd i d.heap.objs.size (.lst [])) fp xs ys fn) [] H' b:=fun B b c =>
  ⟨B b c,(j.ok.exf b c).1,j.ok.exfs b c,.inl c,(j.ok.exf b c).2,fun p hp=>nomatch hp⟩
 have r:tn 0 h₁:=T.keep _ _ _ n fun b _ o e=>O b o (G b o e)
 rw[N,S]
 have g:=comp_loop (Y:=Bt X scope (cf _) _ { d with heap:=d.heap.push { cls:=.type "list", dict:=none,data:=.seq ([]:List Value).toArray } } (upd i d.heap.objs.size (.lst [])) fp xs ys fn) (R:=compPost (model X.prog X.w) X.A X.xe use Qv (.ref d.heap.objs.size) _) (iter:=iter) (scope:=scope) (pos:=pos) hc rfl T (ht _ _ _ _) (he _ _ _ _) (hg _ _ _ _) fY L
  (fun σ' s6 H5 f qn=>by
   obtain⟨m,B,_⟩:=id f.loc
   exact hfin _ _ m s6 H5 (comp_end F f.os f.base f.bare f.hok K) (F.fpOk (Zd _) f.free) B qn) P j r (fun b c=>(K b c).1) w0
 exact codeAny_compStart_list g (T.self X.A 0 _ _ _ r g)
theorem comp_new {H3:Hp}{s3:Shared}{fp:List Addr}{E:Value→Shared→Prop}{Q:Env→Shared→Prop}(ok:CpOk X scope cl xs ys iter)(I3:Inv X pins σ H3 s3)(f3:∀ b∈fp,Ic X pins H3 b)(hlt:∀ b∈fp,b<s3.heap.objs.size)(q:∀ cenv h₁ t v0,cenv.locals=s3.heap.objs.size→{ cenv with scope:=relabel scope X.env }=compEnvC scope cl s3.heap.objs.size X.env→v0.length=xs.length→(∀ b o,s3.heap.get? b=some o→h₁.get? b=some o) →
   Inv (Bt X scope cl s3.heap.objs.size s3 H3 fp xs ys fun _=>false) [] (v0++Ix σ ys) H3 { s3 with heap:=h₁,toks:=t }→Q cenv { s3 with heap:=h₁,toks:=t }) :
  wpAny (model X.prog X.w) X.A (newFunctionEnv scope X.env.globals cl [] X.env.qual none .none (some X.env)) Q E s3:=by
 refine wpAny_newFunctionEnv ok.cell (by intro y f;simp at f) (fun h₁ d c=>?_) ok.kind
 have a:∀ b o,s3.heap.get? b=some o→h₁.get? b=some o:=fun b o e=>c.extBut b o (Z5 (Zo e)) (Zc _ e)
 exact q _ _ _ _ rfl rfl (Zl ..) a (comp_start I3 ok.kind ok.sub ok.has ok.cap (Zd _) f3 hlt a d)
theorem comp_name {C:Addr}{s₀:Shared}{H₀:Hp}{ex:List Addr}{H:Hp}{v0:L2.St}{v:V}{u:Value}{R:L2.St→Prop}{fn:Str→Bool}(hnd:([x]++ys.map (·.1)).Nodup)(hx:Loc (relabel scope X.env) x)(hf:fn x=true∨(relabel scope X.env).names.lookup x=some .local)(hv:v0.length=1)(I:Inv (Bt X scope cl C s₀ H₀ ex [x] ys fn) pins (v0++Ix σ ys) H s)(r:Bl v u)(hR:R [some v]) :
  wpAny (model X.prog X.w) X.A (assign (.Name x px) (compEnvC scope cl C X.env) u) (fun _ s'=>∃ τ,τ.length=1∧Inv (Bt X scope cl C s₀ H₀ ex [x] ys fn) pins (τ++Ix σ ys) H s'∧R τ) (fun _ _=>False) s:=by
 obtain⟨a,rfl⟩:=List.length_eq_one_iff.mp hv
 refine thn ((Bn (X:=Bt X scope cl C s₀ H₀ ex [x] ys fn) (i:=0) hnd rfl hx hf).run pins s _ H v u (fun d c=>d=[some v]++Ix σ ys∧c=H) I r ⟨rfl,rfl⟩) fun _ s' b=>?_
 obtain⟨d,c,e,rfl,rfl⟩:=b
 exact⟨_,rfl,e,hR⟩
theorem comp_pair {C:Addr}{s₀:Shared}{H₀:Hp}{ex:List Addr}{H:Hp}{v0:L2.St}{v:V}{u:Value}{R:L2.St→Prop}(hc:X.calm=true)(ok:CpOk X scope cl [x,y] ys iter)(hv:v0.length=2)(I:Inv (Bt X scope cl C s₀ H₀ ex [x,y] ys fun _=>false) pins (v0++Ix σ ys) H s)(r:Bl v u)(hR:∃ a u1 u2,v = .ref a∧SqT X.K H a [u1,u2]∧R [some u1,some u2]) :
  wpAny (model X.prog X.w) X.A (assign (.Tuple [.Name x px,.Name y py] k1 pt) (compEnvC scope cl C X.env) u) (fun _ s'=>∃ τ,τ.length=2∧Inv (Bt X scope cl C s₀ H₀ ex [x,y] ys fun _=>false) pins (τ++Ix σ ys) H s'∧R τ) (fun _ _=>False) s:=by
 obtain⟨a,b,rfl⟩:∃ a b,v0=[a,b]:=match v0,hv with | [a,b],_=>⟨a,b,rfl⟩
 obtain⟨h,u1,u2,k,g,hR⟩:=hR
 have c:=fun z (m:z∈[x,y])=>lookup_relabel_local (env:=X.env) (ok.loc z m)
 refine thn ((Hy (X:=Bt X scope cl C s₀ H₀ ex [x,y] ys fun _=>false) hc (Br (Bn (i:=0) ok.nd rfl (.inl (c x (by simp))) (.inr (c x (by simp)))) (Br (Bn (i:=1) ok.nd rfl (.inl (c y (by simp))) (.inr (c y (by simp)))) Fm))).run pins s _ H v u
  (fun f e=>f=[some u1,some u2]++Ix σ ys∧e=H) I r ⟨h,[u1,u2],k,g,rfl,u1,[u2],rfl,u2,[],rfl,rfl,rfl,rfl⟩) fun _ s' d=>?_
 obtain⟨f,e,j,rfl,rfl⟩:=d
 exact⟨_,rfl,j,hR⟩
def CorR (X:Cx)(e:Expr)(scope:Scope)(iter:Expr)(t:TE):Prop:=∀ {pins:List (Addr×Obj)} {s:Shared} {σ:L2.St} {H:Hp} {Q:VK} {use:Option (Value→Sem Unit)} {Qv:Value→Shared→Prop} {pos' : Pos},Inv X pins σ H s→t σ H Q →
 (∀ (D C:Addr) (m:Str→Option Value) (s6:Shared) (H5:Hp),Inv X pins σ H5 s6→Ic X pins H5 C→s6.heap.Ns C m→Q (.ref D) H5→compPost (model X.prog X.w) X.A X.xe use Qv (.ref D) C (.ok .next) s6) →
 wpAny (model X.prog X.w) X.A (comprehension e scope X.env pos' (newList []) false (eval iter X.env) use) Qv X.xe s
theorem pe_cor {t:TE}(h:CorR X (.ListComp elt [⟨tg,iter,ifs,0⟩] scope pos) scope iter t):PE X (.ListComp elt [⟨tg,iter,ifs,0⟩] scope pos) t:=by
 refine⟨?_⟩
 intro f s σ H Q I q
 rw[eval_ListComp]
 refine h I q fun D C m d k i g j q=>⟨m,j,fun l c=>⟨.ref D,k,?_,rfl,q⟩⟩
 exact Dq (t':=d.toks) (fp:=[C]) i (fun b o a e=>(c.2 b (fun z=>a (by simp[z]))).trans e) fun b a=>by rw[Zg.mp a];exact g
def tSetComp (i:Nat)(t:TE):TS:=fun D σ H=>t σ H fun v H1=>D.nx (σ.set i (some v)) H1
theorem ps_cor {t:TE}{i:Nat}{y:Str}{py spos:Pos}(h:CorR X (.ListComp elt [⟨tg,iter,ifs,0⟩] scope pos) scope iter t)(hN:X.N.Nodup)(hi' : X.N[i]?=some y)(hy:Loc X.env.scope y)(hsw:swapsWith (.ListComp elt [⟨tg,iter,ifs,0⟩] scope pos) (some (.Name y py)) spos.line X.env=pure true)(hf:X.fn y=true∨X.env.scope.names.lookup y=some .local) :
  PS X (.Assign [.Name y py] (.ListComp elt [⟨tg,iter,ifs,0⟩] scope pos) spos) (tSetComp i t):=by
 refine⟨?_⟩
 intro c s σ H D I q
 rw[exec_Assign_Name_used _ _ _ _ hsw]
 refine Zb (wpAny_standAt (Zb ?_))
 show wpAny _ X.A (do let _ ← comprehension (.ListComp elt [⟨tg,iter,ifs,0⟩] scope pos) scope X.env _ (newList []) false (eval iter X.env) (some (assign (.Name y py) X.env))) _ _ s
 refine Zb (thn (Q:=fun _ k=>SP X c D .next k) (h I q fun L C m n B r d x q=>?_) fun _ k E=>Zk (Zk E))
 show wpAny _ X.A (assign (.Name y py) X.env (.ref L)) _ _ n
 refine wpAny_assign_Name (store_ok2 (v:=.ref L) r hN hi' hy rfl (fun u w g=>?_) hf)
 obtain⟨a,g,p⟩:=g
 have l:C≠a:=fun z=>by
  rcases p with e | e
  ·exact d.2.1 (z.trans e)
  ·exact d.2.2.2.2.1 y a e z.symm
 refine⟨m,x.sameBut g l,fun F j=>⟨σ.set i (some (.ref L)),B,?_,q⟩⟩
 exact Dq (t':=u.toks) (fp:=[C]) w (fun b o f e=>(j.2 b (fun z=>f (by simp[z]))).trans e) fun b f=>by rw[Zg.mp f];exact d
theorem cor1 (hc:X.calm=true)(hi:PI X (.Name x px) iter wi)(ht:∀ C s₀ H₀ ex,PTs (Bt X scope cl C s₀ H₀ ex [x] ys fun _=>false) ifs tt)(he:∀ C s₀ H₀ ex,PE (Bt X scope cl C s₀ H₀ ex [x] ys fun _=>false) elt te)(hclos:closureFor scope X.env=pure cl)(ok:CpOk X scope cl [x] ys iter) :
  CorR X (.ListComp elt [⟨.Name x px,iter,ifs,0⟩] scope pos) scope iter (tComp ys wi tt te):=fun I h a =>
 have b:=lookup_relabel_local (env:=X.env) (ok.loc x (by simp))
 comp_core (Bk:=fun x _ R=>R [some x]) (cf:=fun _=>cl) hc hi ht he hclos ok.kind ok.names ok.set I h (fun _ _ _ _ _ _ _ _ _ _ _ c I r q=>comp_name ok.nd (.inl b) (.inr b) c I r q) (fun _ _ _ _ _ I f l q=>comp_new ok I f l q) a
theorem Ej (hc:X.calm=true)(ys:List (Str×Nat))(hi:PI X (.Name x px) iter wi)(ht:∀ C s₀ H₀ ex,PTs (Bt X scope cl C s₀ H₀ ex [x] ys fun _=>false) ifs tt)(he:∀ C s₀ H₀ ex,PE (Bt X scope cl C s₀ H₀ ex [x] ys fun _=>false) elt te)(hclos:closureFor scope X.env=pure cl:=by rfl)(ok:CpOk X scope cl [x] ys iter:=by exact cok):PE X (.ListComp elt [⟨.Name x px,iter,ifs,0⟩] scope pos) (tComp ys wi tt te):=pe_cor (cor1 hc hi ht he hclos ok)
theorem Ia {i:Nat}{y:Str}{py spos:Pos}(hN:X.N.Nodup)(hi' : X.N[i]?=some y)(hy:Loc X.env.scope y)(hc:X.calm=true)(ys:List (Str×Nat))(hi:PI X (.Name x px) iter wi)(ht:∀ C s₀ H₀ ex,PTs (Bt X scope cl C s₀ H₀ ex [x] ys fun _=>false) ifs tt)(he:∀ C s₀ H₀ ex,PE (Bt X scope cl C s₀ H₀ ex [x] ys fun _=>false) elt te)(hsw:swapsWith (.ListComp elt [⟨.Name x px,iter,ifs,0⟩] scope pos) (some (.Name y py)) spos.line X.env=pure true:=by rfl)(hf:X.fn y=true∨X.env.scope.names.lookup y=some .local:=by first | exact .inl rfl | exact .inr rfl)(hclos:closureFor scope X.env=pure cl:=by rfl)(ok:CpOk X scope cl [x] ys iter:=by exact cok):PS X (.Assign [.Name y py] (.ListComp elt [⟨.Name x px,iter,ifs,0⟩] scope pos) spos) (tSetComp i (tComp ys wi tt te)):=ps_cor (cor1 hc hi ht he hclos ok) hN hi' hy hsw hf
def tComp2 (K:PySem.W.Frag)(ys:List (Str×Nat))(wi:TI)(tt:TT)(te:TE):TE:=fun σ H Q=>wi σ H fun J H1=>∀ D,H1 D=none→CpW J D H1 (fun H2=>Q (.ref D) H2) fun x H3 N=>∃ a u1 u2,x = .ref a∧SqT K H3 a [u1,u2]∧CpB D tt te (some u1::some u2::Ix σ ys) H3 N
theorem cor2 (hc:X.calm=true)(hi:PI X (.Tuple [.Name x px,.Name y py] k1 pt) iter wi)(ht:∀ C s₀ H₀ ex,PTs (Bt X scope cl C s₀ H₀ ex [x,y] ys fun _=>false) ifs tt)(he:∀ C s₀ H₀ ex,PE (Bt X scope cl C s₀ H₀ ex [x,y] ys fun _=>false) elt te)(hclos:closureFor scope X.env=pure cl)(ok:CpOk X scope cl [x,y] ys iter) :
  CorR X (.ListComp elt [⟨.Tuple [.Name x px,.Name y py] k1 pt,iter,ifs,0⟩] scope pos) scope iter (tComp2 X.K ys wi tt te):=fun I h b =>
 comp_core (Bk:=fun x H R=>∃ a d c,x = .ref a∧SqT X.K H a [d,c]∧R [some d,some c]) (cf:=fun _=>cl) hc hi ht he hclos ok.kind ok.names ok.set I h (fun _ _ _ _ _ _ _ _ _ _ _ e I r q=>comp_pair hc ok e I r q) (fun _ _ _ _ _ I f l q=>comp_new ok I f l q) b
theorem pe_comp2 (hc:X.calm=true)(ys:List (Str×Nat))(hi:PI X (.Tuple [.Name x px,.Name y py] k1 pt) iter wi)(ht:∀ C s₀ H₀ ex,PTs (Bt X scope cl C s₀ H₀ ex [x,y] ys fun _=>false) ifs tt)(he:∀ C s₀ H₀ ex,PE (Bt X scope cl C s₀ H₀ ex [x,y] ys fun _=>false) elt te)(hclos:closureFor scope X.env=pure cl:=by rfl)(ok:CpOk X scope cl [x,y] ys iter:=by exact cok):PE X (.ListComp elt [⟨.Tuple [.Name x px,.Name y py] k1 pt,iter,ifs,0⟩] scope pos) (tComp2 X.K ys wi tt te):=pe_cor (cor2 hc hi ht he hclos ok)
end
section
variable {X:Cx}
theorem kit_ii (K:PySem.W.Frag):PySem.W.kitOne K (.type "int") (.type "int")=some true:=rfl
theorem kit_ib (K:PySem.W.Frag):PySem.W.kitOne K (.type "int") (.type "bool")=some false:=by
 show (if (Value.type "int" == Value.type "bool")=true then some true else if PySem.W.kitMeta "bool" = true then (fastBuiltinMro "int").map (·.contains (Value.type "bool")) else none)=some false
 decide +kernel
theorem Ii:Dd X (.builtin "isinstance") (fun xs H Q=>∃ (i:Int) (c:String),xs=[.int i,.ty c]∧((c = "int" ∧ Q (.bl true) H)∨(c = "bool" ∧ Q (.bl false) H))):=by
 intro d s σ H xs g Q I r h
 obtain⟨i,c,rfl,h⟩:=h
 obtain⟨u,f,rfl,b,e⟩:=vals2 r
 cases (show f=Value.type c from e)
 rcases h with ⟨rfl,q⟩ | ⟨rfl,q⟩
 ·exact G4 I b (.int i) (kit_ii _) fun a=>⟨.bl true,H,I.tok a,rfl,q⟩
 ·exact G4 I b (.int i) (kit_ib _) fun a=>⟨.bl false,H,I.tok a,rfl,q⟩
theorem C8 {ns:List Int}{its:List Value}(r:Bi (ns.map V.int) its){i:Nat}(h:its.toArray[i]?=some v):∃ t,v = .int (ns.getD i 0) t:=by
 have b : its[i]?=some v:=by simpa using h
 have e:i<its.length:=(Zj.mp b).1
 have d:ns.length=its.length:=by rw[← r.length,Zl]
 have g:(ns.map V.int)[i]?=some (V.int (ns.getD i 0)):=by
  rw[Zp,Zi (by lia),Z4,Zi (by lia)]
  rfl
 obtain⟨f,a,c⟩:=r.get g
 rw[b] at a
 cases a
 exact c
theorem preSum_eq (ns:List Int):∀ k,k≤ns.length→preSum (fun i=>ns.getD i 0) k=(ns.take k).sum
 | 0,_=>by simp[preSum]
 | k+1,h=>by
  have ih:=preSum_eq ns k (by lia)
  show preSum (fun i=>ns.getD i 0) k+ns.getD k 0=_
  have hk:k<ns.length:=by lia
  have e:ns.take (k+1)=ns.take k++[ns[k]]:=by
   rw[Zao,Zi hk]
   rfl
  rw[ih,e,List.sum_append,Z4,Zi hk]
  simp
theorem call_sum (hc:X.calm=true):Dd X (.builtin "sum") (fun xs H Q=>∃ (l:Addr) (ns:List Int),xs=[.ref l]∧SqL X.K H l (ns.map V.int)∧Q (.int ns.sum) H):=by
 intro p s σ H xs D Q I r h
 obtain⟨l,ns,rfl,y,q⟩:=h
 obtain⟨u,rfl,C⟩:=Cs r
 cases C
 obtain⟨c,g,a,E⟩:=I.list y
 have z:X.A.handled=none:=I.ok.hd hc
 have k:ns.length=c.length:=by rw[← g.length,Zl]
 have w:l≠s.heap.objs.size:=fun e=>by
  obtain⟨o,d,_⟩:=a.isList
  exact Za3 _ (e ▸ Zo d)
 have j:l<s.heap.objs.size:=by
  obtain⟨o,d,_⟩:=a.isList
  exact Zo d
 refine call_sum_walkG (Zbx a.isList ?_)
 refine⟨s.heap.objs.size,_,_,_,_,_,fun i=>ns.getD i 0,rfl,Walks.list (A:=X.A.in1) z s.heap.objs.size l w c.toArray,⟨⟨_,Zn _ rfl,rfl,rfl⟩,a.isList.at fun o e=>Zc _ e⟩,fun b f=>?_,fun i v t=>C8 g t,fun B x t' m=>?_⟩
 ·show b<(s.heap.push _).objs.size
  rw[Za1]
  rcases Zr.mp f with rfl | f
  ·exact Zbk _
  ·rw[Zg.mp f];exact Zb6 j
 ·have n:∀ b o,s.heap.get? b=some o→B.get? b=some o:=fun b o e=>m b o (by simpa using Z5 (Zo e)) (Zc _ e)
  refine⟨.int ns.sum,H,I.kept (t':=x) n,⟨t',?_⟩,q⟩
  rw[Zh,← k,preSum_eq ns ns.length (Zd _),Zaz]
end
theorem comp_list {K:PySem.W.Frag}{a:Addr}{xs:List V}{tt:TT}{te:TE}{τ:L2.St}{H1:Hp}{D:Addr}{Q:VK}(Pv:Nat→Hp→Prop)(h0:Pv 0 (upd H1 D (.lst [])))(hl:∀ i H,i≤xs.length→Pv i H→SqL K H a xs)(hs:∀ i x H,xs[i]?=some x→Pv i H→CpB D tt te (some x::τ) H (Pv (i+1)))(hd:∀ H,Pv xs.length H→Q (.ref D) H) :
  CpW (Itl K a) D H1 (fun H2=>Q (.ref D) H2) fun x H3 N=>CpB D tt te (some x::τ) H3 N:=by
 refine⟨fun i m H=>m=xs.length - i∧i≤xs.length∧Pv i H,⟨_,rfl,Zt _,h0⟩,?_⟩
 rintro i m H ⟨rfl,h,p⟩
 have c:=hl i H h p
 by_cases b:i<xs.length
 ·have g:xs[i]?=some xs[i]:=Zi b
  refine .inr ⟨⟨xs,xs[i],c,g⟩,Pv (i+1),fun d f=>⟨xs.length - (i+1),by lia,rfl,b,f⟩,fun x d y=>?_⟩
  obtain⟨e,y⟩:=y
  subst e
  exact hs i x _ (y xs c) p
 ·have e:i=xs.length:=by lia
  subst e
  exact .inl ⟨⟨xs,c,Zd _⟩,hd H p⟩
end
end My
namespace PySem
set_option maxRecDepth 100000
theorem F.my_args_maxd (a d:Value):argsOk "max" ⟨[a],[("default", d)]⟩:=by unfold argsOk;kernel_rfl
section
variable {prog:Program} {w:World} {A:Around} {R:Result→Shared→Prop} {I:Addr} {fp wr:List Addr} {n:Nat} {P:Nat→Value→Prop} {St:Nat→Heap→Prop}
theorem my_max_loop (kw:List (Str×Value))(W:Walks prog w A.in1 I fp wr n P St)(bt:Nat→Nat→Bool)(hcmp:CmpOf prog w A.in1 .Gt P bt)(S:Addr)(hSf:S∉fp) :
  ∀ (k j:Nat) (s:Shared) (vb:Value) (c:Nat),n - (j+1)=k→j+1≤n→St (j+1) s.heap→P (argBest bt j) vb →
  s.heap.get? S=some { cls:=.type "list", dict:=none,data:=.seq #[vb,vb] c,slots:=#[] } →
  (∀ v h' tk,P (argBest bt (n - 1)) v→(∀ b o,b∉wr→b≠S→s.heap.get? b=some o→h'.get? b=some o)→R (.ok (.ret v)) { s with heap:=h',toks:=tk }) →
  codeAny (model prog w) A (.builtin "max.loop" ⟨[.ref I,.none,.ref S],kw⟩) R s:=by
 have C:S∉wr:=fun z=>hSf (W.sub _ z)
 have i:(toString "max" ++ toString ".loop" : String) = "max.loop" := by decide
 intro k
 induction k with
 | zero =>
  intro j s vb c L M y h t B
  have D:j+1=n:=by lia
  refine Zb9 F.entry_max_loop ?_
  rw[Zbe Zbv _]
  show wpAny _ A.in1 (seqItems? (.ref S) >>= _) _ _ s
  refine Zb (Zbj t rfl ?_)
  show wpAny _ A.in1 (tryCatch (pyNext (.ref I)) _ >>= _) _ _ s
  refine Zb (wpAny_tryCatch (W.done s _ _ (D ▸ y) fun g tk l=>?_))
  have a:=l S _ C t
  show wpAny _ A.in1 (updateSeq S (fun _=>#[]) >>= _) _ _ _
  refine Zb ?_
  refine wpAny_updateSeq a rfl (Zb (wpAny_letGo (Zk ?_)))
  refine B vb _ tk (by rw[← D];exact h) fun b o d m e=>?_
  exact (Za7 _ _ (Zdi m)).trans (l b o d e)
 | succ k H =>
  intro j s vb c L M y h t B
  have p:j+1<n:=by lia
  refine Zb9 F.entry_max_loop ?_
  rw[Zbe Zbv _]
  show wpAny _ A.in1 (seqItems? (.ref S) >>= _) _ _ s
  refine Zb (Zbj t rfl ?_)
  show wpAny _ A.in1 (tryCatch (pyNext (.ref I)) _ >>= _) _ _ s
  refine Zb (wpAny_tryCatch (W.item (j+1) s _ _ p y fun v g tk K x l=>?_))
  have a:=l S _ C t
  show wpAny _ A.in1 (tryCatch (holding [v,v] (richCompare .Gt v vb >>= _)) _ >>= _) _ _ _
  refine Zb (wpAny_tryCatch (Zbc (Zb (hcmp (j+1) (argBest bt j) v vb _ _ _ K h ?_))))
  refine Zb (Zbc (Zbb ?_))
  refine Zb (wpAny_letGo (Zk ?_))
  cases J:bt (j+1) (argBest bt j) with
  | true =>
   simp only[if_true]
   refine Zb ?_
   refine wpAny_updateSeq a rfl (Zb (wpAny_letGo ?_))
   rw[i]
   have f:argBest bt (j+1)=j+1:=by simp only[argBest,J,if_true]
   refine Zk ⟨Zcf Zbv _,H (j+1) _ v _ (by lia) p (W.frame _ _ _ x fun b N o e=>?_) (by rw[f];exact K) (Zce _ a rfl) fun E G r q u=>?_⟩
   ·exact (Za7 _ _ (fun z:S=b=>hSf (by rw[z];exact N))).trans e
   ·exact B E G r q fun b o d m e=>u b o d m ((Za7 _ _ (Zdi m)).trans (l b o d e))
  | false =>
   simp only[Za6,Zc3]
   refine Zb (wpAny_letGo ?_)
   rw[i]
   have f:argBest bt (j+1)=argBest bt j:=by simp only[argBest,J,Za6,Zc3]
   refine Zk ⟨Zcf Zbv _,H (j+1) _ vb c (by lia) p x (by rw[f];exact h) a fun E G r q u=>?_⟩
   exact B E G r q fun b o d m e=>u b o d m (l b o d e)
theorem my_max_first (kw:List (Str×Value))(W:Walks prog w A.in1 I fp wr n P St)(bt:Nat→Nat→Bool)(hcmp:CmpOf prog w A.in1 .Gt P bt)(S:Addr)(hSf:S∉fp)(hn:0<n){s:Shared}{c:Nat}(hst:St 0 s.heap)(hS:s.heap.get? S=some { cls:=.type "list", dict:=none,data:=.seq #[] c,slots:=#[] })(hR:∀ v h' tk,P (argBest bt (n - 1)) v→(∀ b o,b∉wr→b≠S→s.heap.get? b=some o→h'.get? b=some o)→R (.ok (.ret v)) { s with heap:=h',toks:=tk }) :
  codeAny (model prog w) A (.builtin "max.loop" ⟨[.ref I,.none,.ref S],kw⟩) R s:=by
 have i:S∉wr:=fun z=>hSf (W.sub _ z)
 have a:(toString "max" ++ toString ".loop" : String) = "max.loop" := by decide
 refine Zb9 F.entry_max_loop ?_
 rw[Zbe Zbv _]
 show wpAny _ A.in1 (seqItems? (.ref S) >>= _) _ _ s
 refine Zb (Zbj hS rfl ?_)
 show wpAny _ A.in1 (tryCatch (pyNext (.ref I)) _ >>= _) _ _ s
 refine Zb (wpAny_tryCatch (W.item 0 s _ _ hn hst fun v g tk u f j=>?_))
 have d:=j S _ i hS
 show wpAny _ A.in1 (updateSeq S (fun _=>#[v,v]) >>= _) _ _ _
 refine Zb ?_
 refine wpAny_updateSeq d rfl ?_
 rw[a]
 refine Zk ⟨Zcf Zbv _,my_max_loop kw W bt hcmp S hSf _ 0 _ v _ rfl hn (W.frame _ _ _ f fun b r o e=>?_) u (Zce _ d rfl) fun q t m k p=>?_⟩
 ·exact (Za7 _ _ (fun z:S=b=>hSf (by rw[z];exact r))).trans e
 ·exact hR q t m k fun b o h l e=>p b o h l ((Za7 _ _ (Zdi l)).trans (j b o h e))
theorem my_max_none (d:Value)(W:Walks prog w A.in1 I fp wr 0 P St)(S:Addr){s:Shared}{c:Nat}(hst:St 0 s.heap)(hS:s.heap.get? S=some { cls:=.type "list", dict:=none,data:=.seq #[] c,slots:=#[] })(hR:∀ h' tk,(∀ b o,b∉wr→s.heap.get? b=some o→h'.get? b=some o)→R (.ok (.ret d)) { s with heap:=h',toks:=tk }) :
  codeAny (model prog w) A (.builtin "max.loop" ⟨[.ref I,.none,.ref S],[("default", d)]⟩) R s:=by
 refine Zb9 F.entry_max_loop ?_
 rw[Zbe Zbv _]
 show wpAny _ A.in1 (seqItems? (.ref S) >>= _) _ _ s
 refine Zb (Zbj hS rfl ?_)
 show wpAny _ A.in1 (tryCatch (pyNext (.ref I)) _ >>= _) _ _ s
 refine Zb (wpAny_tryCatch (W.done s _ _ hst fun g tk a=>?_))
 refine Zb (Zdl (Zk ?_))
 exact hR g tk a
end
section
variable {prog:Program} {w:World} {A:Around} {E:Value→Shared→Prop} {s:Shared}
theorem my_call_kw {id:String}{Q:Value→Shared→Prop}(hk:builtinKind id=none)(hp:plainId id=true)(hb:entryFor table id=some b)(ha:argsOk id ⟨args,kw⟩)(hc:wpAny (model prog w) A.in1 (b ⟨args,kw⟩) (fun fin s'=>match fin with
   | .done f=>(match (Except.ok f:Result) with | .ok (.ret v)=>Q v s' | .ok _=>False | .error e=>E e s')
   | .again c'=>c'.quiet=true∧codeAny (model prog w) A c' (fun r s'=>match r with | .ok (.ret v)=>Q v s' | .ok _=>False | .error e=>E e s') s') E s) :
  wpAny (model prog w) A (call (.builtin id) args kw) Q E s:=by
 refine wpAny_call (codeAny_call_builtin hp hb ?_)
 simp only[checkBuiltinCall,hk]
 cases c:Manifest.signature? id with
 | none=>exact Zk hc
 | some a =>
  simp only[argsOk,c] at ha
  have d:Bind.checkArgs id a ⟨args,kw⟩=pure ():=ha
  show wpAny _ A.in1 (Bind.checkArgs id a ⟨args,kw⟩) _ _ s
  rw[d]
  exact Zk hc
theorem Fq {Q:Value→Shared→Prop}(h:wpAny (model prog w) A.in1 (pyIter x) (fun it s₂=>∃ I fp wr n P St bt,it = .ref I∧Walks prog w A.in1 I fp wr n P St∧St 0 s₂.heap∧(∀ b∈fp,b<s₂.heap.objs.size)∧CmpOf prog w A.in1 .Gt P bt ∧
   (∀ h' tk,n=0→(∀ b o,b∉wr→s₂.heap.get? b=some o→h'.get? b=some o)→Q d { s₂ with heap:=h',toks:=tk }) ∧
   ∀ v h' tk,0<n→P (argBest bt (n - 1)) v→(∀ b o,b∉wr→s₂.heap.get? b=some o→h'.get? b=some o)→Q v { s₂ with heap:=h',toks:=tk }) E s) :
  wpAny (model prog w) A (call (.builtin "max") [x] [("default", d)]) Q E s:=by
 have c:(toString "max" ++ toString ".loop" : String) = "max.loop" := by decide
 refine my_call_kw F.kind_max F.plain_max F.entry_max (F.my_args_maxd _ _) ?_
 show wpAny _ A.in1 (Builtin.Builtins.bindParams "max" ["key","default"] 0 ⟨[],[("default", d)]⟩ >>= _) _ _ s
 refine Zb (wpAny_of_eq (show Builtin.Builtins.bindParams "max" ["key","default"] 0 ⟨[],[("default", d)]⟩=pure [none,some d] from rfl) ?_)
 refine Zb (Zk ?_)
 refine Zb (Zbt h (fun it s₂ r=>?_) fun _ _ e=>e)
 obtain⟨I,fp,wr,n,P,St,bt,rfl,W,m,l,j,p,q⟩:=r
 refine Zb (Zby ?_)
 have k:s₂.heap.objs.size∉fp:=fun t=>Za3 _ (l _ t)
 rw[c]
 have a:=W.frame 0 s₂.heap (s₂.heap.push { cls:=.type "list", dict:=none,data:=.seq ([]:List Value).toArray }) m fun b _ o e=>Zc _ e
 by_cases u:n=0
 ·subst u
  refine Zk ⟨Zcf Zbv _,my_max_none d W s₂.heap.objs.size a (Zn _ rfl) fun g tk i=>?_⟩
  exact p g tk rfl fun b o f e=>i b o f (Zc _ e)
 ·refine Zk ⟨Zcf Zbv _,my_max_first _ W bt j s₂.heap.objs.size k (by lia) a (Zn _ rfl) fun v g tk y i=>?_⟩
  exact q v g tk (by lia) y fun b o f e=>i b o f (Z5 (Zo e)) (Zc _ e)
end
end PySem
namespace My
noncomputable section
open PySem PySem.Spec PyProof.Rows L2
def maxN:List Nat→Nat
 | []=>0
 | a::r=>max a (maxN r)
theorem best_le (val:Nat→Int):∀ k j,j≤k→val j≤val (argBest (fun i j=>decide (val j<val i)) k)
 | 0,j,h=>by
  have:j=0:=by lia
  subst this
  exact Int.le_refl _
 | k+1,j,h=>by
  show val j≤val (if decide (val (argBest _ k)<val (k+1))=true then k+1 else argBest _ k)
  have ih:=best_le val k
  split
  ·rename_i hc
   have hc':=Zaf hc
   by_cases e:j=k+1
   ·subst e;exact Int.le_refl _
   ·have:=ih j (by lia);lia
  ·rename_i hc
   have hc' : ¬ val (argBest (fun i j=>decide (val j<val i)) k)<val (k+1):=fun z=>hc (Z2 z)
   by_cases e:j=k+1
   ·subst e;lia
   ·exact ih j (by lia)
theorem Jd (bt:Nat→Nat→Bool):∀ k,argBest bt k≤k
 | 0=>Zd _
 | k+1=>by
  have:=Jd bt k
  show (if bt (k+1) (argBest bt k)=true then k+1 else argBest bt k)≤k+1
  split <;> lia
theorem maxN_ge:∀ {ns:List Nat} {a:Nat},a∈ns→a≤maxN ns
 | b::r,a,h=>by
  rcases Zr.mp h with rfl | h
  ·exact Nat.le_max_left ..
  ·exact Zah (maxN_ge h) (Nat.le_max_right ..)
theorem maxN_le:∀ {ns:List Nat} {m:Nat},(∀ a∈ns,a≤m)→maxN ns≤m
 | [],m,_=>Zt _
 | b::r,m,h=>Nat.max_le.mpr ⟨h b (Z0 ..),maxN_le fun a ha=>h a (Zz _ ha)⟩
section
variable {X:Cx} {e d:Expr} {te td:TE} {p pos kpos:Pos}
inductive tMaxD_ (K:PySem.W.Frag) (Q:VK) (vs:List V) (zs:List V) (H2:Hp):Prop
 | mk (l:Addr) (ns:List Nat) (_:vs=[.ref l]) (_:zs=[.int 0]) (_:SqL K H2 l (ns.map fun (n:Nat)=>V.int (n:Int))) (_:Q (.int (maxN ns:Int)) H2)
def tMaxD (K:PySem.W.Frag)(te td:TE):TE:=fun σ H Q=>tCons te tNil σ H fun vs H1=>tCons td tNil σ H1 fun zs H2=>tMaxD_ K Q vs zs H2
theorem pe_maxd (hc:X.calm=true)(hg:Gl X "max")(hm:X.mg "max" = none)(he:PE X e te)(hd:PE X d td)(hs:starEach [e] X.env=[(false,eval e X.env)]:=by rfl)(hks:(backToKw pos (keywordEach [⟨some "default", d,kpos⟩] X.env)).filterMap (·.1)=[("default" : Str)]:=by rfl)(h1:backTo pos (starEach [e] X.env)=(false,eval e X.env)::backTo pos (starEach [] X.env):=by rfl)(h2:(backTo pos (starEach [e] X.env)).any (·.1)=false:=by rfl)(h3:(backToKw pos (keywordEach [⟨some "default", d,kpos⟩] X.env)).all (·.1.isSome)=true:=by rfl)(h4:(backToKw pos (keywordEach [⟨some "default", d,kpos⟩] X.env)).any (·.1.isNone)=false:=by rfl) :
  PE X (.Call (.Name "max" p) [e] [⟨some "default", d,kpos⟩] pos) (tMaxD X.K te td):=by
 refine⟨?_⟩
 intro g s σ H Q I h
 refine Zbg (Dj I hg hm PyProof.Rows.boot_max ?_ (by decide) (by decide))
 refine PyProof.Rows.callWith_kw (thn ((Aa he Ac hs) pos g s σ H _ I h) fun us s1 ⟨vs,H1,Z,r1,q1⟩=>?_) h1 h2 h3 h4
 refine thn ((pk_cons (nm:=some "default") (kpos:=kpos) hd pk_nil) pos g s1 σ H1 _ Z q1) fun ws f ⟨zs,H2,J,rz,l,c,M,e2,hl,q⟩=>?_
 rw[hks]
 subst M e2
 obtain⟨u,rfl,ru⟩:=Cs r1
 obtain⟨z,rfl,S⟩:=Cs rz
 cases ru
 obtain⟨tz,rfl⟩:=S
 obtain⟨y,U,G,hz⟩:=J.list hl
 have hh:X.A.handled=none:=J.ok.hd hc
 have P:Bi ((c.map fun (n:Nat)=>(n:Int)).map V.int) y:=by rw[Zda];exact U
 have D:c.length=y.length:=by rw[← U.length,Zl]
 have nl:l≠f.heap.objs.size:=fun e=>by
  obtain⟨o,R,_⟩:=G.isList
  exact Za3 _ (e ▸ Zo R)
 have W:l<f.heap.objs.size:=by
  obtain⟨o,R,_⟩:=G.isList
  exact Zo R
 have m:∀ i,i<c.length→(c.map fun (n:Nat)=>(n:Int)).getD i 0=(c.getD i 0:Nat):=fun i L=>by
  rw[Z4,Z4,Zp,Zi L]
  rfl
 have E:∀ (v:Value) (w : Heap) (r:Nat),(∀ b o,b∉[f.heap.objs.size]→(f.heap.push { cls:=.type "list_iterator", data:=.fields #[.ref l,.int 0 0] }).get? b=some o→w.get? b=some o)→(∃ t,v = .int (maxN c:Int) t)→EP X g σ Q v { f with heap:=w,toks:=r }:=fun v w r F ⟨t,N⟩ =>
  ⟨.int (maxN c:Int),H2,J.kept (t':=r) fun b o e=>F b o (by simpa using Z5 (Zo e)) (Zc _ e),⟨t,N⟩,q⟩
 refine Fq (Zbx G.isList ?_)
 refine⟨f.heap.objs.size,_,_,_,_,_,fun i j=>decide ((c.map fun (n:Nat)=>(n:Int)).getD j 0<(c.map fun (n:Nat)=>(n:Int)).getD i 0),rfl,Walks.list (A:=X.A.in1) hh f.heap.objs.size l nl y.toArray,⟨⟨_,Zn _ rfl,rfl,rfl⟩,G.isList.at fun o e=>Zc _ e⟩,fun b C=>?_,?_,fun w r O F=>?_,fun v w r O hv F=>?_⟩
 ·show b<(f.heap.push _).objs.size
  rw[Za1]
  rcases Zr.mp C with rfl | C
  ·exact Zbk _
  ·rw[Zg.mp C];exact Zb6 W
 ·intro i j vi vj s' Q' E' L B hq
  obtain⟨ti,rfl⟩:=C8 P L
  obtain⟨tj,rfl⟩:=C8 P B
  exact gt_int hq
 ·have e0:c=[]:=Zai (by rw[D];simpa using O)
  subst e0
  exact E _ w r F ⟨tz,rfl⟩
 ·refine E v w r F ?_
  obtain⟨t,N⟩:=C8 P hv
  refine⟨t,N.trans ?_⟩
  have ab : 0<c.length:=by rw[D];simpa using O
  have T:y.toArray.size - 1=c.length - 1:=by rw[Zh,D]
  rw[T]
  generalize C:argBest (fun i j=>decide ((c.map fun (n:Nat)=>(n:Int)).getD j 0<(c.map fun (n:Nat)=>(n:Int)).getD i 0)) (c.length - 1)=k
  have aa:k≤c.length - 1:=by rw[← C];exact Jd _ _
  have x:k<c.length:=by lia
  have top:=fun j B=>best_le (fun i=>(c.map fun (n:Nat)=>(n:Int)).getD i 0) (c.length - 1) j B
  rw[C] at top
  congr 1
  rw[m k x]
  congr 1
  refine Nat.le_antisymm (maxN_ge ?_) (maxN_le fun a Y=>?_)
  ·rw[Z4,Zi x]
   exact Zc0 x
  ·obtain⟨j,B,rfl⟩:=Zb8 Y
   have:=top j (by lia)
   rw[m j B,m k x] at this
   have M:c.getD j 0=c[j]:=by rw[Z4,Zi B];rfl
   rw[M] at this
   lia
end
end
end My
namespace My
noncomputable section
open PySem
def Sg.inner:Sg→List Sg
 | .no=>[]
 | .lt _=>[]
 | .not a=>[a]
 | .shown a=>[a]
 | .bin _ a b=>[a,b]
def Sg.size:Sg→Nat
 | .no=>1
 | .lt _=>1
 | .not a=>1+a.size
 | .shown a=>1+a.size
 | .bin _ a b=>1+(a.size+b.size)
def Sg.depth:Sg→Nat
 | .no=>0
 | .lt _=>0
 | .not a=>a.depth
 | .shown a=>a.depth+1
 | .bin _ a b=>max a.depth b.depth
def Sg.high:Sg→Nat
 | .no=>0
 | .lt _=>0
 | .not a=>a.high+1
 | .shown a=>a.high+1
 | .bin _ a b=>max (a.high+1) (b.high+1)
theorem Sg.size_pos (s:Sg):1≤s.size:=by cases s <;> simp only[Sg.size] <;> lia
def add (ss:List Sg)(s:Sg):List Sg:=if s∈ss then ss else ss++[s]
def idx (ss:List Sg)(s:Sg):Nat:=ss.idxOf s
theorem Ie (h:s∈ss):add ss s=ss:=Zw h
theorem add_new (h:s∉ss):add ss s=ss++[s]:=Zs h
def Pre (ss tt:List Sg):Prop:=∃ r,tt=ss++r
theorem Pre.refl (ss:List Sg):Pre ss ss:=⟨[],(Zbr _).symm⟩
theorem Pre.mem (h:Pre a b)(hs:s∈a):s∈b:=by
 obtain⟨r,rfl⟩:=h
 exact Zb3 _ hs
theorem Pre.idx (h:Pre a b)(hs:s∈a):idx b s=idx a s:=by
 obtain⟨r,rfl⟩:=h
 unfold My.idx
 rw[List.idxOf_append,Zw hs]
theorem add_pre (ss:List Sg)(s:Sg):Pre ss (add ss s):=by
 unfold add
 split
 ·exact Pre.refl _
 ·exact⟨[s],rfl⟩
theorem Jr (ss:List Sg)(s:Sg):s∈add ss s:=by
 unfold add
 split
 ·assumption
 ·exact Zaq _ (Zg.mpr rfl)
theorem Hk {ss:List Sg}(h:s∈ss):idx ss s<ss.length:=List.idxOf_lt_length_iff.mpr h
theorem Cd {ss:List Sg}(h:s∈ss):ss[idx ss s]?=some s:=by
 rw[Zi (Hk h)]
 exact congrArg some (List.getElem_idxOf (Hk h))
theorem idx_inj (hs:s∈ss)(ht:t∈ss)(e:idx ss s=idx ss t):s=t:=by
 have a:=Cd hs
 rw[e,Cd ht] at a
 exact (Zm a).symm
theorem Gq {ss:List Sg}(h:s∉ss):idx (ss++[s]) s=ss.length:=by
 unfold idx
 rw[List.idxOf_append,Zs h]
 simp
inductive Tab:List Sg→Prop
 | nil:Tab []
 | snoc {ss:List Sg} {s:Sg} (h:Tab ss) (hn:s∉ss) (hi:∀ a∈s.inner,a∈ss):Tab (ss++[s])
theorem Tab.inner (h:Tab ss):∀ s∈ss,∀ a∈s.inner,a∈ss:=by
 induction h with
 | nil=>intro s d;simp at d
 | @snoc ss s h g e f =>
  intro t ht a b
  rcases Zaa.mp ht with c | c
  ·exact Zb3 _ (f t c a b)
  ·rw[Zg.mp c] at b
   exact Zb3 _ (e a b)
def Cz (ss:List Sg)(s:Sg):List Nat:=s.inner.map (idx ss)
def vis:Sg→List Sg→List Sg
 | .no,ss=>add ss .no
 | .lt x,ss=>add ss (.lt x)
 | .not a,ss=>add (vis a ss) (.not a)
 | .shown a,ss=>add (vis a ss) (.shown a)
 | .bin j a b,ss=>add (vis b (vis a ss)) (.bin j a b)
theorem vis_in:∀ (s:Sg) {ss:List Sg},Tab ss→s∈ss→vis s ss=ss
 | .no,ss,_,h=>Ie h
 | .lt x,ss,_,h=>Ie h
 | .not a,ss,T,h=>by
  show add (vis a ss) (.not a)=ss
  rw[vis_in a T (T.inner _ h a (by simp[Sg.inner]))]
  exact Ie h
 | .shown a,ss,T,h=>by
  show add (vis a ss) (.shown a)=ss
  rw[vis_in a T (T.inner _ h a (by simp[Sg.inner]))]
  exact Ie h
 | .bin j a b,ss,T,h=>by
  show add (vis b (vis a ss)) (.bin j a b)=ss
  rw[vis_in a T (T.inner _ h a (by simp[Sg.inner])),vis_in b T (T.inner _ h b (by simp[Sg.inner]))]
  exact Ie h
theorem add_mem (h:t∈add ss s):t∈ss∨t=s:=by
 unfold add at h
 split at h
 ·exact .inl h
 ·exact (Zaa.mp h).imp id Zg.mp
theorem vis_size:∀ (s:Sg) (ss:List Sg) (t:Sg),t∈vis s ss→t∈ss∨t.size≤s.size:=by
 intro s
 induction s with
 | no=>exact fun ss t h=>(add_mem h).imp id fun e=>by rw[e];exact Zd _
 | lt x=>exact fun ss t h=>(add_mem h).imp id fun e=>by rw[e];exact Zd _
 | not a c =>
  intro ss t h
  rcases add_mem h with h | rfl
  ·exact (c ss t h).imp id fun e=>by simp only[Sg.size];lia
  ·exact .inr (Zd _)
 | shown a c =>
  intro ss t h
  rcases add_mem h with h | rfl
  ·exact (c ss t h).imp id fun e=>by simp only[Sg.size];lia
  ·exact .inr (Zd _)
 | bin j a b d f =>
  intro ss t h
  rcases add_mem h with h | rfl
  ·rcases f _ t h with h | h
   ·exact (d ss t h).imp id fun e=>by simp only[Sg.size];lia
   ·exact .inr (by simp only[Sg.size];lia)
  ·exact .inr (Zd _)
theorem vis_last (s:Sg):∃ r,vis s []=r++[s]:=by
 have no:∀ (t:Sg) (c:List Sg),t∉c→(∃ r,add c t=r++[t]):=fun t c h=>⟨c,add_new h⟩
 cases s with
 | no=>exact⟨[],rfl⟩
 | lt x=>exact⟨[],rfl⟩
 | not a =>
  refine no _ _ fun h=>?_
  rcases vis_size a [] _ h with h | h
  ·simp at h
  ·simp only[Sg.size] at h;lia
 | shown a =>
  refine no _ _ fun h=>?_
  rcases vis_size a [] _ h with h | h
  ·simp at h
  ·simp only[Sg.size] at h;lia
 | bin j a b =>
  refine no _ _ fun h=>?_
  rcases vis_size b _ _ h with h | h
  ·rcases vis_size a [] _ h with h | h
   ·simp at h
   ·simp only[Sg.size] at h;lia
  ·simp only[Sg.size] at h;lia
theorem G1 (ss:List Sg)(s:Sg):(add ss s).length≤ss.length+1:=by
 unfold add
 split
 ·lia
 ·rw[Zv];exact Zd _
theorem Eo:∀ (s:Sg) (ss:List Sg),(vis s ss).length≤ss.length+s.size
 | .no,ss=>G1 ss _
 | .lt x,ss=>G1 ss _
 | .not a,ss=>by have:=G1 (vis a ss) (.not a);have:=Eo a ss;simp only[vis,Sg.size];lia
 | .shown a,ss=>by have:=G1 (vis a ss) (.shown a);have:=Eo a ss;simp only[vis,Sg.size];lia
 | .bin j a b,ss=>by have:=G1 (vis b (vis a ss)) (.bin j a b);have:=Eo a ss;have:=Eo b (vis a ss);simp only[vis,Sg.size];lia
def after:List (Sg×Bool)→List Sg→List Sg
 | [],ss=>ss
 | (.bin j a b,false)::r,ss=>after r (add (vis b ss) (.bin j a b))
 | (t,_)::r,ss=>after r (add ss t)
inductive Zip:List (Sg×Bool)→Sg→Sg→Prop
 | nil {W:Sg}:Zip [] W W
 | not {s W:Sg} {r:List (Sg×Bool)} (h:Zip r (.not s) W):Zip ((.not s,false)::r) s W
 | shown {s W:Sg} {r:List (Sg×Bool)} (h:Zip r (.shown s) W):Zip ((.shown s,false)::r) s W
 | fst {j:Jn} {s u W:Sg} {r:List (Sg×Bool)} (h:Zip r (.bin j s u) W):Zip ((.bin j s u,false)::r) s W
 | snd {j:Jn} {a s W:Sg} {r:List (Sg×Bool)} (h:Zip r (.bin j a s) W):Zip ((.bin j a s,true)::r) s W
def rem:List (Sg×Bool)→Nat
 | []=>0
 | (.bin _ _ b,false)::r=>b.size+rem r
 | _::r=>rem r
def Sg.stp (f:Bool):Sg→Nat
 | .no=>0
 | .lt _=>0
 | .not a=>a.stp f+1
 | .shown a=>a.stp f+1
 | .bin _ a b=>(match f with | true=>a.stp f | false=>b.stp f)+1
def Sg.lfe (f:Bool):Sg→Sg
 | .not a=>a.lfe f
 | .shown a=>a.lfe f
 | .bin _ a b=>match f with | true=>a.lfe f | false=>b.lfe f
 | s=>s
theorem Ea (f:Bool):∀ s:Sg,s.stp f≤s.high
 | .no=>Zd _
 | .lt x=>Zd _
 | .not a=>by have:=Ea f a;simp only[Sg.stp,Sg.high];lia
 | .shown a=>by have:=Ea f a;simp only[Sg.stp,Sg.high];lia
 | .bin _ a b=>by have:=Ea f a;have:=Ea f b;cases f <;> simp only[Sg.stp,Sg.high] <;> lia
theorem Em:∀ s:Sg,s.high<s.size
 | .no=>by decide
 | .lt x=>by show 0<1;decide
 | .not a=>by have:=Em a;simp only[Sg.high,Sg.size];lia
 | .shown a=>by have:=Em a;simp only[Sg.high,Sg.size];lia
 | .bin _ a b=>by have:=Em a;have:=Em b;simp only[Sg.high,Sg.size];lia
end
end My
namespace My
noncomputable section
open PySem PySem.Spec PyProof.Rows L2
def TuO (H H' : Hp):Prop:=∀ b xs,H b=some (.tup xs)→H' b=some (.tup xs)
abbrev Fz (H:Hp) (a:Addr) (xs:List V):Prop:=H a=some (.tup xs)
theorem Fz.of {H:Hp}(h:H a=some (.tup xs)):Fz H a xs:=h
theorem TuO.refl (H:Hp):TuO H H:=fun _ _ h=>h
theorem TuO.trans {H H1 H2:Hp}(a:TuO H H1)(b:TuO H1 H2):TuO H H2:=fun c d h=>b c d (a c d h)
theorem Al {H H' : Hp}(e:Bq H H'):TuO H H':=fun b a h=>e _ _ h
theorem TuO.new {H:Hp}(h:H l=none):TuO H (upd H l o):=fun b a r=>by rw[Ai (Ae r h)];exact r
theorem TuO.other {H:Hp}(h:H l=some u)(hn:∀ xs,HO.tup xs≠u):TuO H (upd H l o):=fun b xs r=>by rw[Ai (ne_of r h (hn xs))];exact r
theorem TuO.lst {H:Hp}(h:H l=some (.lst ys)):TuO H (upd H l o):=TuO.other h fun a z=>by cases z
theorem TuO.sq {H H' : Hp}(e:TuO H H')(h:Fz H a xs):Fz H' a xs:=e a xs h
inductive SyO (H:Hp):V→Sg→Prop
 | no {a:Addr} (h:Fz H a [.str "no"]):SyO H (.ref a) .no
 | lt {a:Addr} {x:Str} (h:Fz H a [.str "letter", .str x]):SyO H (.ref a) (.lt x)
 | not {a:Addr} {v:V} {s:Sg} (h:Fz H a [.str "not", v]) (hv:SyO H v s):SyO H (.ref a) (.not s)
 | shown {a:Addr} {v:V} {s:Sg} (h:Fz H a [.str "shown", v]) (hv:SyO H v s):SyO H (.ref a) (.shown s)
 | bin {a:Addr} {v u:V} {j:Jn} {s t:Sg} (h:Fz H a [.str j.word,v,u]) (hv:SyO H v s) (hu:SyO H u t):SyO H (.ref a) (.bin j s t)
theorem SyO.stay {H H' : Hp}(e:TuO H H')(h:SyO H v s):SyO H' v s:=by
 induction h with
 | no h=>exact .no (e.sq h)
 | lt h=>exact .lt (e.sq h)
 | not h _ a=>exact .not (e.sq h) a
 | shown h _ a=>exact .shown (e.sq h) a
 | bin h _ _ c b=>exact .bin (e.sq h) c b
theorem SyO.sy (K:PySem.W.Frag){H:Hp}(h:SyO H v s):Sy K H v s:=by
 induction h with
 | no h=>exact .no (SqT.of h)
 | lt h=>exact .lt (SqT.of h)
 | not h _ a=>exact .not (SqT.of h) a
 | shown h _ a=>exact .shown (SqT.of h) a
 | bin h _ _ c b=>exact .bin (SqT.of h) c b
def Sg.word:Sg→Str
 | .no => "no"
 | .lt _ => "letter"
 | .not _ => "not"
 | .shown _ => "shown"
 | .bin j _ _=>j.word
theorem SyO.ref {H:Hp}{s:Sg}(h:SyO H v s):∃ a r,v = .ref a∧H a=some (.tup (.str s.word::r))∧((s.inner≠[]∧Paired (SyO H) r s.inner)∨(s.inner=[]∧r.length≤1)):=by
 cases h with
 | no h=>exact⟨_,_,rfl,h,.inr ⟨rfl,Zt _⟩⟩
 | lt h=>exact⟨_,_,rfl,h,.inr ⟨rfl,Zd _⟩⟩
 | not h b=>exact⟨_,_,rfl,h,.inl ⟨by simp[Sg.inner],.cons b .nil⟩⟩
 | shown h b=>exact⟨_,_,rfl,h,.inl ⟨by simp[Sg.inner],.cons b .nil⟩⟩
 | bin h b c=>exact⟨_,_,rfl,h,.inl ⟨by simp[Sg.inner],.cons b (.cons c .nil)⟩⟩
abbrev Fh (H:Hp):List V→List Sg→Prop:=Paired fun v s=>SyO H v s
theorem Fh.stay {H H' : Hp}(e:TuO H H')(h:Fh H vs ss):Fh H' vs ss:=Paired.imp' (fun _ _=>SyO.stay e) h
section
variable {P:Program} {w:World} {K:Type} [DecidableEq K]
abbrev NKey (n:Nat) (K:Type):={l:List (Sum Int Str) // l.length=n}×K
def NkIs (kd:HeapKind P w K){n:Nat}(h:Heap)(k:NKey n K)(a:Addr):Prop :=
 ∃ (o:Obj) (us:List Value) (b:Addr) (m:Nat),h.get? a=some o∧o.cls = .type "tuple" ∧ o.data = .seq (us++[Value.ref b]).toArray m∧ItemsAre (Bc P w) k.1.1 us∧kd.is h k.2 b
variable {kd:HeapKind P w K} {n:Nat}
theorem NkIs.ty {s:Shared}(x:NkIs kd s.heap k a):s.TypeIs (.ref a) "tuple" := by
 obtain⟨o,_,_,_,e,c,_⟩:=x
 exact⟨o,e,c⟩
theorem NkIs.inj (hx:NkIs kd h x a)(hy:NkIs kd h y a):x=y:=by
 obtain⟨o,p,b,m,e,_,d,i,r⟩:=hx
 obtain⟨n,g,j,w,s,_,f,l,t⟩:=hy
 have k:o=n:=Zm (e.symm.trans s)
 subst k
 rw[d] at f
 injection f with q _
 have v:p++[Value.ref b]=g++[Value.ref j]:=by have:=congrArg Array.toList q;simpa using this
 obtain⟨rfl,c⟩:=List.append_inj' v rfl
 have u:b=j:=by injection c with c _;injection c
 subst u
 exact Prod.ext (Subtype.ext (i.inj l)) (kd.inj r t)
theorem NkIs.keeps {h h' : Heap}{o:Obj}{es ep}(x:NkIs kd h k a)(ho:h.get? d=some o)(hd:o.data = .dict es ep)(hs:Heap.SameBut d h h'):NkIs kd h' k a:=by
 obtain⟨g,n,b,m,e,c,f,i,r⟩:=x
 have j:a≠d:=fun z=>by
  subst z
  have l:g=o:=Zm (e.symm.trans ho)
  subst l
  rw[hd] at f
  cases f
 exact⟨g,n,b,m,(hs.2 a j).trans e,c,f,i,kd.keeps r ho hd hs⟩
def nkHash (kd:HeapKind P w K)(k:NKey n K):Int:=reduceHash (Builtin.Tuple.tupleHashOf (k.1.1.map (Bc P w).hash++[kd.hash k.2]))
variable {A:Around} {E:Value→Shared→Prop} {s:Shared}
theorem nk_pyHash {k:NKey n K}{Q:Int→Shared→Prop}(hu:A.units<cLine)(hi:kd.room A.in1)(hk:NkIs kd s.heap k a)(h:Q (nkHash kd k) { s with toks:=s.toks+(n+kd.draws k.2+1) }) :
  wpAny (model P w) A (pyHash (.ref a)) Q E s:=by
 have t:=hk.ty
 obtain⟨o,J,b,m,L,_,M,G,N⟩:=hk
 unfold pyHash
 first | unfold pyHashByItsType | skip
 first | refine Zb (wpAny_cRoomFor_or (.inr hu) ?_) | skip
 refine Zb (Zcp t F.slot_tuple_hash.lookup ?_)
 show wpAny _ _ (if (some (Value.builtin "tuple.__hash__") == some Value.none)=true then _ else _) Q E s
 rw[Zs (by rw[beq_builtin_none];exact Zu)]
 refine Zb (Zcp t F.slot_tuple_hash.lookup ?_)
 refine Zb (wpAny_callSpecialIfBoundUnlessNone?_slot t F.slot_tuple_hash (Zbu F.slot_tuple_hash t F.entry_tuple_hash ?_ (F.args_tuple_hash_1 _)))
 show wpAny _ _ (Builtin.Tuple.tupleItemsOf (Value.ref a) >>= _) _ _ s
 refine Zb (wpAny_tupleItemsOf L M ?_)
 refine Zb ?_
 rw[← Array.forIn_toList]
 refine Zdg _
  (fun f (z:Array Int) p=>(∃ d left r,k.1.1=d++left∧f=r++[Value.ref b]∧ItemsAre (Bc P w) left r∧z.toList=d.map (Bc P w).hash∧p={ s with toks:=s.toks+d.length }) ∨
   (f=[]∧z.toList=k.1.1.map (Bc P w).hash++[kd.hash k.2]∧p={ s with toks:=s.toks+(n+kd.draws k.2) }))
  _ ?_ ?_ _ _ (.inl ⟨[],k.1.1,J,rfl,by simp,G,rfl,rfl⟩)
 ·rintro x f z p (⟨d,left,r,i,u,R,l,rfl⟩ | ⟨e,_⟩)
  ·cases R with
   | nil =>
    have j : x::f=[Value.ref b]:=u
    injection j with e4 e5
    subst e4 e5
    rw[Zbr] at i
    have O:d.length=n:=by rw[← i];exact k.1.2
    refine Zb (kd.pyHash hi N ?_)
    have fin:(∃ C H g,k.1.1=C++H∧([]:List Value)=g++[Value.ref b]∧ItemsAre (Bc P w) H g∧(z.push (kd.hash k.2)).toList=C.map (Bc P w).hash∧{ s with toks:=s.toks+d.length+kd.draws k.2 }={ s with toks:=s.toks+C.length }) ∨
      (([]:List Value)=[]∧(z.push (kd.hash k.2)).toList=k.1.1.map (Bc P w).hash++[kd.hash k.2]∧{ s with toks:=s.toks+d.length+kd.draws k.2 }={ s with toks:=s.toks+(n+kd.draws k.2) }) :=
     .inr ⟨rfl,by rw[i];simp[l],by rw[O,Zbo]⟩
    first
     | exact Zk fin
     | exact Zb (Zk (Zk fin))
   | @cons D v B g I y =>
    have j : x::f=v::(g++[Value.ref b]):=u
    injection j with e4 e5
    subst e4 e5
    refine Zb ((Bc P w).pyHash I ?_)
    first
     | exact Zk (.inl ⟨d++[D],B,g,by simp[i],rfl,y,by simp[l],by simp[Zbo]⟩)
     | exact Zb (Zk (Zk (.inl ⟨d++[D],B,g,by simp[i],rfl,y,by simp[l],by simp[Zbo]⟩)))
  ·cases e
 ·rintro z p (⟨d,left,r,i,u,_⟩ | ⟨_,l,rfl⟩)
  ·exact absurd u (by simp)
  ·show wpAny _ _ (retInt (Builtin.Tuple.tupleHashOf z.toList)) _ _ _
   rw[l]
   refine wpAny_ret_mkInt ?_
   unfold nkHash reduceHash at h
   generalize Builtin.Tuple.tupleHashOf (k.1.1.map (Bc P w).hash++[kd.hash k.2])=q at h ⊢
   show wpAny _ _ (if (decide (-(2:Int) ^ 63≤q) && decide (q<2 ^ 63))=true then _ else _) Q E _
   by_cases c:(decide (-(2:Int) ^ 63≤q) && decide (q<2 ^ 63))=true
   ·rw[Zw c]
    rw[Zw c] at h
    exact Zk (by simpa [Zbo] using h)
   ·rw[Zs c]
    rw[Zs c] at h
    exact Zb (Zdl (Zk (by simpa [Zbo] using h)))
theorem nk_eqTree {x y:NKey n K}{a b:Addr}{R:Fin→Shared→Prop}(hi:kd.room A)(hx:NkIs kd s.heap x a)(hy:NkIs kd s.heap y b)(h:R (.done (.ret (.bool (decide (x=y))))) s) :
  wpAny (model P w) A (Builtin.«tuple.__eq__» ⟨[.ref a,.ref b],[]⟩) R E s:=by
 have U:=hy.ty
 obtain⟨oa,B,m,na,ea,_,Z,Q,ra⟩:=hx
 obtain⟨ob,G,o,nb,eb,_,db,O,rb⟩:=hy
 have lx:B.length=n:=by rw[← Q.length];exact x.1.2
 have ly:G.length=n:=by rw[← O.length];exact y.1.2
 show wpAny _ _ (isInstance (.ref b) (.type "tuple") >>= _) _ _ s
 refine Zb (Zdh U isSubtype_tuple_tuple ?_)
 simp only[Zcx,Za6,Zc3]
 refine Zb (wpAny_tupleItemsOf ea Z ?_)
 refine Zb (wpAny_tupleItemsOf eb db ?_)
 refine Zb ?_
 refine Zdg _
  (fun c r C=>r.1=none∧C=s∧((∃ D H f d,c=List.zip (f++[Value.ref m]) (d++[Value.ref o])∧f.length=d.length∧ItemsAre (Bc P w) D f∧ItemsAre (Bc P w) H d∧decide (D=H∧x.2=y.2)=decide (x=y))∨(c=[]∧decide (x=y)=true)))
  _ ?_ ?_ _ _ ⟨rfl,rfl,.inl ⟨x.1.1,y.1.1,B,G,by simp,by lia,Q,O,?_⟩⟩
 ·rintro⟨u,v⟩ c r C ⟨L,rfl,(⟨D,H,f,d,F,q,I,t,j⟩ | ⟨e,_⟩)⟩
  ·cases I with
   | nil =>
    cases t with
    | cons _ _=>simp at q
    | nil =>
     have p : (u,v)::c=[(Value.ref m,Value.ref o)]:=F
     injection p with e1 e2
     injection e1 with e3 e4
     subst e2 e3 e4
     refine Zb (kd.eqBool hi ra rb ?_)
     have i : decide (x.2=y.2)=decide (x=y):=by rw[← j];simp
     by_cases g:x.2=y.2
     ·rw[Z2 g]
      rw[Z2 g] at i
      simp only[Zcx,Za6,Zc3]
      exact Zk ⟨rfl,rfl,.inr ⟨by trivial,i.symm⟩⟩
     ·rw[Z9 g]
      rw[Z9 g] at i
      simp only[Bool.not_false,if_true]
      rw[← i] at h
      exact Zb (Zk (Zk (Zk h)))
   | @cons V u' T k W M =>
    cases t with
    | nil=>simp at q
    | @cons N Y S l X J =>
     have p : (u,v)::c=(u',Y)::List.zip (k++[Value.ref m]) (l++[Value.ref o]):=F
     injection p with e1 e2
     injection e1 with e3 e4
     subst e2 e3 e4
     refine Zb ((Bc P w).eqBool (a:=V) (b:=N) W X ?_)
     by_cases g:V=N
     ·subst g
      rw[Z2 rfl]
      simp only[Zcx,Za6,Zc3]
      exact Zk ⟨rfl,rfl,.inl ⟨T,S,k,l,rfl,by simpa using q,M,J,by rw[← j];simp⟩⟩
     ·rw[Z9 g]
      simp only[Bool.not_false,if_true]
      have hf:decide (x=y)=false:=by rw[← j];simp[g]
      rw[hf] at h
      exact Zb (Zk (Zk (Zk h)))
  ·cases e
 ·rintro⟨r1,r2⟩ C ⟨L,rfl,(⟨D,H,f,d,F,q,I,t,j⟩ | ⟨_,j⟩)⟩
  ·exfalso
   cases f <;> cases d <;> simp at F q
  ·simp only at L
   subst L
   refine Zk ?_
   rw[j] at h
   have:((B++[Value.ref m]).toArray.size == (G++[Value.ref o]).toArray.size)=true:=by simp[lx,ly]
   show R (.done (.ret (.bool ((B++[Value.ref m]).toArray.size == (G++[Value.ref o]).toArray.size)))) C
   rw[this]
   exact h
 ·by_cases e:x=y
  ·subst e;simp
  ·rw[Z9 e,Z9 fun z=>e (Prod.ext (Subtype.ext z.1) z.2)]
theorem nk_eqBool {Q:Bool→Shared→Prop}(hu:A.units<cLine)(hi:kd.room A.in1)(hx:NkIs kd s.heap x a)(hy:NkIs kd s.heap y b)(h:Q (decide (x=y)) s) :
  wpAny (model P w) A (eqBool (.ref a) (.ref b)) Q E s:=by
 unfold eqBool
 try with_reducible refine Zbc ?_
 show wpAny _ _ (if (Value.ref a == Value.ref b)=true then _ else _) Q E s
 by_cases c:(Value.ref a == Value.ref b)=true
 ·rw[Zw c]
  have e:a=b:=by injection eq_of_beq c
  subst e
  have d:=hx.inj hy
  subst d
  exact Zb (Zdl (Zk (by simpa using h)))
 ·rw[Zs c]
  refine Zb (wpAny_richCompare_same_room (op:=.Eq) hx.ty hy.ty F.slot_tuple_eq (Zbu F.slot_tuple_eq hx.ty F.entry_tuple_eq ?_ (F.args_tuple_eq_2 _ _)) hu)
  exact nk_eqTree hi hx hy ⟨_,rfl,(fun e=>nomatch e),Zbb h⟩
def J1 (kd:HeapKind P w K)(f:Nat):Prop:=∀ {A:Around} {E:Value→Shared→Prop} {s:Shared} {k:K} {a:Addr} {Q:Bool→Shared→Prop},kd.is s.heap k a→Q true s→wpAny (model P w) A (eqIsQuiet f (.ref a)) Q E s
theorem Im (f:Nat):J1 (tupleKind (Bc P w)) (f+1):=by
 intro A E s k a Q g h
 have j:=IsTupleKey.typeIs g
 obtain⟨o,i,m,p,_,q,l⟩:=g
 unfold eqIsQuiet
 refine Zb (Zcp j F.slot_tuple_eq.lookup ?_)
 show wpAny _ _ (isInstance (.ref a) (.type "tuple") >>= _) _ _ s
 refine Zb (Zdh j isSubtype_tuple_tuple ?_)
 simp only[Zcx,Za6,Zc3]
 refine Zb (Zbj p q ?_)
 refine Zb ?_
 show wpAny _ _ (forIn i _ _) _ _ s
 rw[← Array.forIn_toList]
 refine Zdg _ (fun b r d=>r.1=none∧d=s∧∀ v∈b,carriedByValue v=true) _ ?_ ?_ _ _ ⟨rfl,rfl,l.byValue⟩
 ·rintro v b r d ⟨e,rfl,c⟩
  rw[eqIsQuiet_byValue _ (c v Z0)]
  refine Zb (Zk ?_)
  simp only[Zcx,Za6,Zc3]
  exact Zk ⟨rfl,rfl,fun u n=>c u (Zz _ n)⟩
 ·rintro⟨x,t⟩ d ⟨e,rfl,_⟩
  simp only at e
  subst e
  exact Zk h
theorem nk_quiet {f:Nat}(q:J1 kd f){Q:Bool→Shared→Prop}(hk:NkIs kd s.heap k a)(h:Q true s):wpAny (model P w) A (eqIsQuiet (f+1) (.ref a)) Q E s:=by
 have p:=hk.ty
 obtain⟨o,l,b,m,y,_,z,x,B⟩:=hk
 unfold eqIsQuiet
 refine Zb (Zcp p F.slot_tuple_eq.lookup ?_)
 show wpAny _ _ (isInstance (.ref a) (.type "tuple") >>= _) _ _ s
 refine Zb (Zdh p isSubtype_tuple_tuple ?_)
 simp only[Zcx,Za6,Zc3]
 refine Zb (Zbj y z ?_)
 refine Zb ?_
 show wpAny _ _ (forIn (l++[Value.ref b]).toArray _ _) _ _ s
 rw[← Array.forIn_toList]
 refine Zdg _ (fun d r i=>r.1=none∧i=s∧∀ v∈d,carriedByValue v=true∨v = .ref b) _ ?_ ?_ _ _ ⟨rfl,rfl,fun v g=>?_⟩
 ·rintro v d r i ⟨e,rfl,c⟩
  rcases c v Z0 with g | rfl
  ·rw[eqIsQuiet_byValue _ g]
   refine Zb (Zk ?_)
   simp only[Zcx,Za6,Zc3]
   exact Zk ⟨rfl,rfl,fun u j=>c u (Zz _ j)⟩
  ·refine Zb (q B ?_)
   simp only[Zcx,Za6,Zc3]
   exact Zk ⟨rfl,rfl,fun u j=>c u (Zz _ j)⟩
 ·rintro⟨C,D⟩ i ⟨e,rfl,_⟩
  have t:C=none:=e
  subst t
  exact Zk h
 ·have n : v∈l∨v = .ref b:=by simpa using g
  exact n.imp (x.byValue v) id
def nkKind (kd:HeapKind P w K)(q:J1 kd 7)(n:Nat):HeapKind P w (NKey n K) where
 is:=NkIs kd
 hash:=nkHash kd
 draws:=fun k=>n+kd.draws k.2+1
 room:=fun A=>A.units<cLine∧kd.room A.in1
 inj:=fun hx hy=>hx.inj hy
 keeps:=fun x ho hd hs=>x.keeps ho hd hs
 pyHash:=fun hu hk h=>nk_pyHash hu.1 hu.2 hk h
 eqBool:=fun hu hx hy h=>nk_eqBool hu.1 hu.2 hx hy h
 quiet:=fun hk h=>nk_quiet q hk h
def wayK (P:Program)(w:World):HeapKind P w (NKey 1 (List (Sum Int Str))):=nkKind (tupleKind (Bc P w)) (Im 6) 1
theorem wayQ (P:Program)(w:World):J1 (wayK P w) 7:=fun a h=>nk_quiet (Im 5) a h
def lookK (P:Program)(w:World):HeapKind P w (NKey 3 (NKey 1 (List (Sum Int Str)))):=nkKind (wayK P w) (wayQ P w) 3
theorem look_room {A:Around}(h:A.units+3<cLine):(lookK P w).room A:=by
 have e:A.in1.units=A.units+1:=rfl
 have a:A.in1.in1.units=A.units+2:=rfl
 exact⟨by lia,⟨by lia,show A.in1.in1.units<cLine by lia⟩⟩
end
section
variable {P:Program} {w:World} {K:Type} [DecidableEq K] {kd:HeapKind P w K}
theorem setDef_heap {E:Value→Shared→Prop}{s:Shared}{xs:List (K×Addr×Value)}{Q:Value→Shared→Prop}(hu:kd.room A)(hkey:kd.is s.heap k a)(hm:s.heap.DictOfH kd d xs)(hsz:xs.length≤sizeLine)(h1:∀ p,atKey xs k=some p→Q p.2 { s with toks:=s.toks+kd.draws k })(h2:atKey xs k=none→∀ h',h'.DictOfH kd d (xs++[(k,a,v)])→Heap.SameBut d s.heap h'→Q v { s with heap:=h',toks:=s.toks+kd.draws k }) :
  wpAny (model P w) A (dictSetDefault d (.ref a) v) Q E s:=by
 obtain⟨o,u,t,f,q,b,g,h,l⟩:=hm
 unfold dictSetDefault
 try with_reducible refine Zbc ?_
 refine Zb (kd.pyHash hu hkey ?_)
 refine Zb (wpAny_dictFind_heap (s:={ s with toks:=s.toks+kd.draws k }) hu hkey f b g h l ?_ ?_)
 ·intro i
  have m:k∉xs.map (·.1):=not_mem_keys_of_get i
  refine Zb (Zdl (Zb (wpAny_updateDictKeys (hz:=by have e:=size_of_entries g;lia) (s:={ s with toks:=s.toks+kd.draws k }) f b (Zk ?_))))
  refine h2 (atKey_none_of_get i) _ ⟨_,_,t+1,Zce _ f (Obj.isFreed_of_dict (Obj.data_mapDictKeys b _)),q.mapDictKeys _,Obj.data_mapDictKeys b _,?_,?_,?_⟩ (Zcy ..)
  ·simp[g,entryOfKey]
  ·intro x c
   rcases Zaa.mp c with c | c
   ·exact kd.keeps (h x c) f b (Zcy ..)
   ·rw[Zg.mp c]
    exact kd.keeps hkey f b (Zcy ..)
  ·rw[Zac,List.nodup_append]
   refine⟨l,by simp,fun x c y r e=>?_⟩
   have:y=k:=by simpa using r
   exact m (this ▸ e ▸ c)
 ·intro j p n
  refine Zb (wpAny_dictEntries (s:={ s with toks:=s.toks+kd.draws k }) f b ?_)
  rw[entry_at g j,n]
  exact Zb (Zdl (Zk (h1 p (atKey_of_get l n))))
theorem J3 (d a:Addr)(hd:(d == sysModules)=false)(v:Value) :
  MeetsIn P w (Builtin.«dict.setdefault» ⟨[.ref d,.ref a,v],[]⟩) (fun A R s=>kd.room A.in1∧∃ k xs,kd.is s.heap k a∧s.heap.DictOfH kd d xs∧xs.length≤sizeLine ∧
   (∀ p,atKey xs k=some p→R (.ok (.ret p.2)) { s with toks:=s.toks+kd.draws k }) ∧
   (atKey xs k=none→∀ h',h'.DictOfH kd d (xs++[(k,a,v)])→Heap.SameBut d s.heap h'→R (.ok (.ret v)) { s with heap:=h',toks:=s.toks+kd.draws k })) :=
 .of_wp fun A R s ⟨j,k,xs,b,f,m,i,l⟩=>by
  unfold Builtin.«dict.setdefault»
  refine Zb ?_
  unfold Builtin.Dict.keyAndDefault
  refine Zb (wpAny_notOrdered_dict f.typeIs ?_)
  show wpAny _ _ (pure (d,Value.ref a,some v)) _ _ s
  refine Zk ?_
  show wpAny _ _ (if (d == sysModules)=true then _ else (dictSetDefault d (Value.ref a) v >>= _)) _ _ s
  rw[Zs (by rw[hd];exact Zu)]
  exact Zb (setDef_heap j b f m (fun p h=>Zk ⟨p.2,rfl,i p h⟩) fun g h' c e=>Zk ⟨v,rfl,l g h' c e⟩)
end
abbrev WKey:=NKey 1 (List Key)
abbrev LKey:=NKey 3 WKey
inductive WyAt (H:Hp) (k:WKey) (c:Addr):Prop
 | mk (e:_) (_:H c=some (.tup (k.1.1.map kV++[.ref e]))) (_:H e=some (.tup (k.2.map kV)))
inductive LkAt (H:Hp) (k:LKey) (b:Addr):Prop
 | mk (c:_) (_:H b=some (.tup (k.1.1.map kV++[.ref c]))) (_:WyAt H k.2 c)
theorem Hh:∀ {xs:List V} {c:Addr} {its:List Value},Bi (xs++[.ref c]) its→∃ us,its=us++[Value.ref c]∧Bi xs us
 | [],c,its,r=>by
  cases r with
  | cons h t =>
   cases t
   cases (show _=Value.ref c from h)
   exact⟨[],rfl,.nil⟩
 | x::xs,c,its,r=>by
  cases r with
  | cons h t =>
   obtain⟨us,rfl,q⟩:=Hh (xs:=xs) t
   exact⟨_::us,rfl,.cons h q⟩
section
variable {P:Program} {w:World} {H:Hp} {h:Heap}
theorem wy_is (ok:HOk P w H h)(e:WyAt H k c):(wayK P w).is h k c:=by
 obtain⟨d,g,j⟩:=e
 obtain⟨_,l,r,o,b,f,n,a⟩:=(show Cb P w H h c (.tup (k.1.1.map kV++[.ref d])) from ok c _ g)
 obtain⟨i,rfl,q⟩:=Hh r
 exact⟨o,i,d,n,b,f,a,Fa q,Ik ok j⟩
theorem lk_is (ok:HOk P w H h)(e:LkAt H k b):(lookK P w).is h k b:=by
 obtain⟨c,g,j⟩:=e
 obtain⟨_,l,r,o,d,f,n,a⟩:=(show Cb P w H h b (.tup (k.1.1.map kV++[.ref c])) from ok b _ g)
 obtain⟨i,rfl,q⟩:=Hh r
 exact⟨o,i,c,n,d,f,a,Fa q,wy_is ok j⟩
end
def lkV (xs:List (LKey×Addr×Addr)):List (LKey×Addr×Value):=xs.map fun x=>(x.1,x.2.1,Value.ref x.2.2)
def LkP (P:Program)(w:World)(a:Addr)(xs:List (LKey×Addr×Addr))(h:Heap):Prop :=
 xs.length≤sizeLine∧(a == sysModules)=false∧∃ o es ep,h.get? a=some o∧o.ExactDict∧o.data = .dict es ep∧es.toList=(lkV xs).map (entryOfKey (lookK P w))∧((lkV xs).map (·.1)).Nodup
def LkO (P:Program)(w:World)(a:Addr)(xs:List (LKey×Addr×Addr)):HO:=.ext (LkP P w a xs)
theorem lk_ok {H:Hp}(p:LkP P w a xs h):Cb P w H h a (LkO P w a xs):=by
 refine⟨p,?_,fun d f q k=>?_⟩
 ·obtain⟨_,_,o,_,_,e,_⟩:=p
  exact⟨o,e⟩
 ·obtain⟨z,y,o,b,c,e,r⟩:=q
  exact⟨z,y,o,b,c,k o e,r⟩
theorem lk_of {H:Hp}{h:Heap}{xs:List (LKey×Addr×Addr)}(ok:HOk P w H h)(e:H a=some (LkO P w a xs))(ks:∀ x∈xs,LkAt H x.1 x.2.1):xs.length≤sizeLine∧(a == sysModules)=false∧h.DictOfH (lookK P w) a (lkV xs):=by
 obtain⟨⟨z,y,o,b,l,i,k,g,j,d⟩,_⟩:=(show Cb P w H h a (LkO P w a xs) from ok a _ e)
 refine⟨z,y,o,b,l,i,k,g,j,fun x c=>?_,d⟩
 obtain⟨y,f,rfl⟩:=Zar.mp c
 exact lk_is ok (ks y f)
def findLk (xs:List (LKey×Addr×Addr))(k:LKey):Option Addr:=(xs.find? fun x=>decide (x.1=k)).map (·.2.2)
theorem at_lk (xs:List (LKey×Addr×Addr))(k:LKey):(atKey (lkV xs) k).map (·.2)=(findLk xs k).map Value.ref:=by
 unfold atKey lkV findLk
 rw[List.find?_map,Option.map_map,Option.map_map,Option.map_map]
 rfl
theorem find_mem (e:findLk xs k=some l):∃ x∈xs,x.2.2=l:=by
 unfold findLk at e
 obtain⟨x,a,b⟩:=Zbw.mp e
 exact⟨x,List.mem_of_find?_eq_some a,b⟩
inductive tLkGet_ (P:Program) (w:World) (ty tx:TE) (σ:L2.St) (Q:VK) (x:V) (H1:Hp):Prop
 | mk (a xs0:_) (_:x = .ref a) (_:H1 a=some (LkO P w a xs0)) (_:(∀ x∈xs0,LkAt H1 x.1 x.2.1)) (_:ty σ H1 fun y H2=>tx σ H2 fun z H3=>∃ xs k b,H3 a=some (LkO P w a xs)∧y = .ref b∧LkAt H3 k b∧(∀ x∈xs,LkAt H3 x.1 x.2.1)∧Q (((findLk xs k).map V.ref).getD z) H3)
def tLkGet (P:Program)(w:World)(td ty tx:TE):TE:=fun σ H Q=>td σ H fun x H1=>tLkGet_ P w ty tx σ Q x H1
inductive tLkDef_ (P:Program) (w:World) (ty tx:TE) (σ:L2.St) (Q:VK) (x:V) (H1:Hp):Prop
 | mk (a xs0:_) (_:x = .ref a) (_:H1 a=some (LkO P w a xs0)) (_:(∀ x∈xs0,LkAt H1 x.1 x.2.1)) (_:ty σ H1 fun y H2=>tx σ H2 fun z H3=>∃ xs k b l,H3 a=some (LkO P w a xs)∧y = .ref b∧z = .ref l∧LkAt H3 k b∧(∀ x∈xs,LkAt H3 x.1 x.2.1)∧xs.length<sizeLine∧(∀ l',findLk xs k=some l'→Q (.ref l') H3)∧(findLk xs k=none→Q (.ref l) (upd H3 a (LkO P w a (xs++[(k,b,l)])))))
def tLkDef (P:Program)(w:World)(td ty tx:TE):TE:=fun σ H Q=>td σ H fun x H1=>tLkDef_ P w ty tx σ Q x H1
def tLkNew (P:Program)(w:World):TE:=fun _ H Q=>∀ p,H p=none→Q (.ref p) (upd H p (LkO P w p []))
section
variable {X:Cx} {o e f:Expr} {apos cpos pos:Pos} {td ty tx:TE}
theorem lk_ty {H:Hp}{s:Shared}(I:Inv X pins σ H s)(e:H a=some (LkO X.prog X.w a xs))(ks:∀ x∈xs,LkAt H x.1 x.2.1) :
  s.TypeIs (.ref a) "dict" ∧ (∀ b,Value.ref a = .ref b→∃ ob,s.heap.get? b=some ob∧ob.dict=none):=by
 obtain⟨_,_,c⟩:=lk_of I.hok e ks
 refine⟨c.typeIs,fun b q=>?_⟩
 cases q
 obtain⟨ob,_,_,d,f,_⟩:=c
 exact⟨ob,d,f.2.1⟩
theorem pe_lkGet (hu:X.A.units+5<cLine)(ho:PE X o td)(he:PE X e ty)(hf:PE X f tx)(m:M2 X o "get" apos e f cpos):PE X (.Call (.Attribute o "get" apos) [e,f] [] cpos) (tLkGet X.prog X.w td ty tx):=by
 refine⟨?_⟩
 intro c s σ H Q I h
 refine wpAny_Call_method m.base m.few m.line PySem.F.plainAttrs_dict PySem.F.slot_dict_get PySem.F.type_dict_get (thn (ho c s σ H _ I h) fun u V g=>?_)
 obtain⟨x,K,j,D,a,aa,C,d,N,t⟩:=g
 subst C
 cases (show u=Value.ref a from D)
 obtain⟨R,G⟩:=lk_ty j d N
 refine⟨R,G,?_⟩
 rw[m.trees]
 refine Zc2 rfl (Calls.evalArgs_plain (Zb1 (thn (he c V σ K _ j t) fun W Y ⟨y,U,q,S,O⟩ =>
  Zb1 (thn (hf c Y σ U _ q O) fun E s3 g=>?_))))
 obtain⟨z,v,i,J,L,k,b,P,r,Z,n,M⟩:=g
 refine Zdd ?_
 subst r
 cases (show W=Value.ref b from S)
 obtain⟨_,B,p⟩:=lk_of i.hok P n
 have T:(lookK X.prog X.w).room X.A.in1:=look_room (by have e:X.A.in1.units=X.A.units+1:=rfl;lia)
 refine call_meetsIn PySem.F.slot_dict_get p.typeIs PySem.F.entry_dict_get (PySem.F.args_dict_get_3 _ _ _) (meetsH_dict_get_default (lookK X.prog X.w) a b B E) ⟨T,k,_,lk_is i.hok Z,p,_,v,i.tok _,?_,M⟩
 rw[at_lk]
 cases findLk L k with
 | none=>exact J
 | some l=>exact rfl
theorem pe_lkDef (hu:X.A.units+5<cLine)(ho:PE X o td)(he:PE X e ty)(hf:PE X f tx)(m:M2 X o "setdefault" apos e f cpos):PE X (.Call (.Attribute o "setdefault" apos) [e,f] [] cpos) (tLkDef X.prog X.w td ty tx):=by
 refine⟨?_⟩
 intro g s σ H Q I h
 refine wpAny_Call_method m.base m.few m.line PySem.F.plainAttrs_dict PySem.F.slot_dict_setdefault PySem.F.type_dict_setdefault (thn (ho g s σ H _ I h) fun u s1 j=>?_)
 obtain⟨x,Z,C,V,a,aa,T,d,ks,R⟩:=j
 subst T
 cases (show u=Value.ref a from V)
 obtain⟨t1,W⟩:=lk_ty C d ks
 refine⟨t1,W,?_⟩
 rw[m.trees]
 refine Zc2 rfl (Calls.evalArgs_plain (Zb1 (thn (he g s1 σ Z _ C R) fun iv s2 ⟨y,H2,L,ry,q2⟩ =>
  Zb1 (thn (hf g s2 σ H2 _ L q2) fun U s3 j=>?_))))
 obtain⟨z,S,q,Y,c,k,b,l,G,O,ez,kb,D,hl,q3,q4⟩:=j
 refine Zdd ?_
 subst O ez
 cases (show iv=Value.ref b from ry)
 cases (show U=Value.ref l from Y)
 obtain⟨hz,B,E⟩:=lk_of q.hok G D
 have hr:(lookK X.prog X.w).room X.A.in1:=look_room (by have e:X.A.in1.units=X.A.units+1:=rfl;lia)
 have r:(lkV c).length=c.length:=by unfold lkV;rw[Zl]
 refine call_meetsIn PySem.F.slot_dict_setdefault E.typeIs PySem.F.entry_dict_setdefault (PySem.F.args_dict_setdefault_3 _ _ _) (J3 (kd:=lookK X.prog X.w) a b B (Value.ref l)) ⟨hr,k,_,lk_is q.hok kb,E,by rw[r];exact hz,fun p hp=>?_,fun hn h' J N=>?_⟩
 ·have:=at_lk c k
  rw[hp] at this
  cases i:findLk c k with
  | none=>rw[i] at this;cases this
  | some n =>
   rw[i] at this
   have e2:p.2=Value.ref n:=Zm this
   exact⟨.ref n,S,q.tok _,e2,q3 n i⟩
 ·have:=at_lk c k
  rw[hn] at this
  have i:findLk c k=none:=by
   cases i:findLk c k with
   | none=>rfl
   | some n=>rw[i] at this;cases this
  refine⟨.ref l,_,?_,rfl,q4 i⟩
  obtain⟨v,es,ep,K,M,h3,P,_,h5⟩:=J
  have t:lkV (c++[(k,b,l)])=lkV c++[(k,b,Value.ref l)]:=by unfold lkV;rw[Zac];rfl
  exact d_write q (by rw[G];exact True.intro) N ⟨v,K⟩ (lk_ok ⟨by rw[Zv];exact hl,B,v,es,ep,K,M,h3,by rw[t];exact P,by rw[t];exact h5⟩)
theorem pe_lkNew:PE X (.Dict [] [] pos) (tLkNew X.prog X.w):=⟨fun b s σ H Q I h =>
 wpAny_Dict_empty ⟨.ref s.heap.objs.size,_,I.laid (a:=s.heap.objs.size) (o:=LkO X.prog X.w s.heap.objs.size []) (t':=s.toks) (fun _ _ q=>Zc _ q) (Zd _)
  (lk_ok ⟨Zt _,Zam.mpr (Zdi (Z5 I.big)),_,#[],0,Zn _ rfl,⟨rfl,rfl,rfl⟩,rfl,rfl,List.nodup_nil⟩),rfl,h _ (I.hok.fresh (Zd _))⟩⟩
end
inductive Dv where
 | f (v:V)
 | t (xs:List Dv)
 | l (xs:List Dv)
mutual
def DvR (K:PySem.W.Frag)(H:Hp):Dv→V→Prop
 | .f x,v=>v=x∧De x=true
 | .t ds,v=>∃ a vs,v = .ref a∧SqT K H a vs∧DvRs K H ds vs
 | .l ds,v=>∃ a vs,v = .ref a∧SqL K H a vs∧DvRs K H ds vs
def DvRs (K:PySem.W.Frag)(H:Hp):List Dv→List V→Prop
 | [],[]=>True
 | d::ds,v::vs=>DvR K H d v∧DvRs K H ds vs
 | _,_=>False
end
mutual
def dq:Dv→Dv→Bool
 | .f x,.f y=>eqV x y
 | .t xs,.t ys=>dqs xs ys
 | .l xs,.l ys=>dqs xs ys
 | _,_=>false
def dqs:List Dv→List Dv→Bool
 | [],[]=>true
 | x::xs,y::ys=>dq x y && dqs xs ys
 | _,_=>false
end
mutual
def Dv.dp:Dv→Nat
 | .f _=>0
 | .t xs=>1+dps xs
 | .l xs=>1+dps xs
def dps:List Dv→Nat
 | []=>0
 | x::xs=>max x.dp (dps xs)
end
theorem Ef:∀ {xs:List Dv} {x:Dv},x∈xs→x.dp≤dps xs
 | y::ys,x,h=>by
  show x.dp≤max y.dp (dps ys)
  rcases Zr.mp h with rfl | h
  ·exact Nat.le_max_left _ _
  ·exact Zah (Ef h) (Nat.le_max_right _ _)
theorem Ew {K:PySem.W.Frag}{H:Hp}:∀ {ds:List Dv} {vs:List V},DvRs K H ds vs→ds.length=vs.length
 | [],[],_=>rfl
 | _::ds,_::vs,h=>by rw[Zab,Zab,Ew (show DvRs K H ds vs from h.2)]
 | [],_::_,h=>h.elim
 | _::_,[],h=>h.elim
theorem dvrs_at {K:PySem.W.Frag}{H:Hp}:∀ {ds:List Dv} {vs:List V} {j:Nat} {v:V},DvRs K H ds vs→vs[j]?=some v→∃ d,ds[j]?=some d∧DvR K H d v
 | [],[],_,_,_,e=>by simp at e
 | d::ds,v::vs,0,_,h,e=>⟨d,rfl,by rw[← Zm e];exact h.1⟩
 | d::ds,v::vs,j+1,u,h,e=>dvrs_at (ds:=ds) (vs:=vs) (j:=j) h.2 e
 | [],_::_,_,_,h,_=>h.elim
 | _::_,[],_,_,h,_=>h.elim
def dqj (xs ys:List Dv)(j:Nat):Bool:=match xs[j]?,ys[j]? with
 | some x,some y=>dq x y
 | _,_=>true
theorem dqs_eq:∀ (xs ys:List Dv),((List.range (min xs.length ys.length)).all (dqj xs ys) && xs.length == ys.length)=dqs xs ys
 | [],[]=>rfl
 | [],y::ys=>by simp[dqs]
 | x::xs,[]=>by simp[dqs]
 | x::xs,y::ys=>by
  have ih:=dqs_eq xs ys
  have e:min (x::xs).length (y::ys).length=min xs.length ys.length+1:=by simp only[Zab];lia
  rw[e,List.range_succ_eq_map,List.all_cons,List.all_map]
  have e2:(dqj (x::xs) (y::ys) ∘ Nat.succ)=dqj xs ys:=by
   funext j
   show dqj (x::xs) (y::ys) (j+1)=_
   unfold dqj
   simp
  have e3:dqj (x::xs) (y::ys) 0=dq x y:=rfl
  have e4:((x::xs).length == (y::ys).length)=(xs.length == ys.length):=by
   rw[Zab,Zab]
   by_cases h:xs.length=ys.length
   ·rw[h];simp
   ·rw[Zam.mpr h,Zam.mpr (by lia)]
  rw[e2,e3,e4,Bool.and_assoc,ih]
  rfl
theorem Ja (h:De v=true):eqV v v=true:=by
 cases v with
 | non=>rfl
 | bl b=>simp[eqV]
 | int i=>simp[eqV]
 | str x=>simp[eqV]
 | _=>exact absurd h (fun z=>by cases z)
section
variable {X:Cx} {pins:List (Addr×Obj)} {σ:L2.St} {H:Hp} {sh:Shared}
mutual
theorem dq_det (I:Inv X pins σ H sh):∀ (d e:Dv) (v:V),DvR X.K H d v→DvR X.K H e v→dq d e=true
 | .f x,.f y,v,h,g=>by
  have e:x=y:=h.1.symm.trans g.1
  subst e
  exact Ja h.2
 | .f x,.t es,v,h,g=>by
  obtain⟨a,vs,rfl,_⟩:=g
  have q:=h.2
  rw[← h.1] at q
  cases q
 | .f x,.l es,v,h,g=>by
  obtain⟨a,vs,rfl,_⟩:=g
  have q:=h.2
  rw[← h.1] at q
  cases q
 | .t ds,.f y,v,h,g=>by
  obtain⟨a,vs,rfl,_⟩:=h
  have q:=g.2
  rw[← g.1] at q
  cases q
 | .l ds,.f y,v,h,g=>by
  obtain⟨a,vs,rfl,_⟩:=h
  have q:=g.2
  rw[← g.1] at q
  cases q
 | .t ds,.t es,v,h,g=>by
  obtain⟨a,vs,rfl,h1,h2⟩:=h
  obtain⟨a',ws,e,g1,g2⟩:=g
  cases e
  have:=I.tuple_inj h1 g1
  subst this
  exact dqs_det I ds es vs h2 g2
 | .l ds,.l es,v,h,g=>by
  obtain⟨a,vs,rfl,h1,h2⟩:=h
  obtain⟨a',ws,e,g1,g2⟩:=g
  cases e
  have:=I.list_inj h1 g1
  subst this
  exact dqs_det I ds es vs h2 g2
 | .t ds,.l es,v,h,g=>by
  obtain⟨a,vs,rfl,h1,h2⟩:=h
  obtain⟨a',ws,e,g1,g2⟩:=g
  cases e
  obtain⟨_,_,⟨o,e1,c1,_⟩,_⟩:=I.tuple h1
  obtain⟨_,_,⟨o',n',e2,c2,_⟩,_⟩:=I.list g1
  rw[e1] at e2
  cases e2
  rw[c1] at c2
  exact absurd (Zba c2) (by decide)
 | .l ds,.t es,v,h,g=>by
  obtain⟨a,vs,rfl,h1,h2⟩:=h
  obtain⟨a',ws,e,g1,g2⟩:=g
  cases e
  obtain⟨_,_,⟨o,e1,c1,_⟩,_⟩:=I.tuple g1
  obtain⟨_,_,⟨o',n',e2,c2,_⟩,_⟩:=I.list h1
  rw[e1] at e2
  cases e2
  rw[c1] at c2
  exact absurd (Zba c2) (by decide)
theorem dqs_det (I:Inv X pins σ H sh):∀ (ds es:List Dv) (vs:List V),DvRs X.K H ds vs→DvRs X.K H es vs→dqs ds es=true
 | [],[],_,_,_=>rfl
 | d::ds,e::es,v::vs,h,g=>by
  show (dq d e && dqs ds es)=true
  rw[dq_det I d e v h.1 g.1,dqs_det I ds es vs h.2 g.2]
  rfl
 | [],_::_,[],_,g=>g.elim
 | [],_::_,_::_,h,_=>h.elim
 | _::_,[],[],h,_=>h.elim
 | _::_,[],_::_,_,g=>g.elim
 | _::_,_::_,[],h,_=>h.elim
end
theorem Dy {A:Around}{xs ys:List V}{ds es:List Dv}{us ws:List Value}(hx:DvRs X.K H ds xs)(hy:DvRs X.K H es ys)(ru:Bi xs us)(rw' : Bi ys ws)(ih:∀ d e v u x y,d∈ds→DvR X.K H d v→DvR X.K H e u→Bl v x→Bl u y→SeqAt.EqAt A sh x y (dq d e)) :
  ∀ j (h1:j<us.toArray.size) (h2:j<ws.toArray.size),SeqAt.EqAt A sh us.toArray[j] ws.toArray[j] (dqj ds es j):=by
 intro j h1 h2
 have w : j<us.length:=by simpa using h1
 have t : j<ws.length:=by simpa using h2
 have z:=ru.length
 have B:=rw'.length
 have f:xs[j]?=some xs[j]:=Zi (by lia)
 have i:ys[j]?=some ys[j]:=Zi (by lia)
 obtain⟨c,o,r⟩:=ru.get f
 obtain⟨b,s,n⟩:=rw'.get i
 obtain⟨g,a,l⟩:=dvrs_at hx f
 obtain⟨h,p,q⟩:=dvrs_at hy i
 have m:us.toArray[j]=c:=by
  have:=(Zj.mp o).2
  simpa using this
 have k:ws.toArray[j]=b:=by
  have:=(Zj.mp s).2
  simpa using this
 rw[m,k,show dqj ds es j=dq g h from by unfold dqj;rw[a,p]]
 exact ih g h _ _ c b (Ze a) l q r n
theorem Ju {A:Around}{a b:Addr}{xs ys:List V}{ds es:List Dv}{us ws:List Value}(hx:DvRs X.K H ds xs)(hy:DvRs X.K H es ys)(ru:Bi xs us)(rw' : Bi ys ws)(ha:sh.heap.IsList a us.toArray)(hb:sh.heap.IsList b ws.toArray)(hu:A.units<cLine)(it:∀ j (h1:j<us.toArray.size) (h2:j<ws.toArray.size),SeqAt.EqAt A.in1 sh us.toArray[j] ws.toArray[j] (dqj ds es j)):SeqAt.RcAt A sh (.ref a) (.ref b) (dqs ds es)∧SeqAt.RcNeAt A sh (.ref a) (.ref b) (!dqs ds es):=by
 have i:=ru.length
 have k:=rw'.length
 have l:=Ew hx
 have g:=Ew hy
 by_cases h:us.toArray.size=ws.toArray.size
 ·have e:(List.range us.toArray.size).all (dqj ds es)=dqs ds es:=by
   rw[← dqs_eq]
   have f:us.length=ws.length:=by simpa using h
   rw[Zh,show min ds.length es.length=us.length by lia,show (ds.length == es.length)=true from Zc1.mpr (by lia),Bool.and_true]
  have c:=SeqAt.RcAt.lists ha hb h hu it
  have d:=SeqAt.RcNeAt.lists ha hb h hu it
  rw[e] at c d
  exact⟨c,d⟩
 ·have e:dqs ds es=false:=by
   rw[← dqs_eq]
   have f:¬ us.length=ws.length:=by simpa using h
   rw[show (ds.length == es.length)=false from Zam.mpr (by lia),Bool.and_false]
  rw[e]
  exact⟨SeqAt.RcAt.lists_lengths ha hb (by simpa using h) hu,SeqAt.RcNeAt.lists_lengths ha hb (by simpa using h) hu⟩
theorem Gx {A:Around}{a b:Addr}{xs ys:List V}{ds es:List Dv}{us ws:List Value}(hx:DvRs X.K H ds xs)(hy:DvRs X.K H es ys)(ru:Bi xs us)(rw' : Bi ys ws)(ha:sh.heap.IsTuple a us.toArray)(hb:sh.heap.IsTuple b ws.toArray)(hu:A.units<cLine)(it:∀ j (h1:j<us.toArray.size) (h2:j<ws.toArray.size),SeqAt.EqAt A.in1 sh us.toArray[j] ws.toArray[j] (dqj ds es j)):SeqAt.RcAt A sh (.ref a) (.ref b) (dqs ds es)∧SeqAt.RcNeAt A sh (.ref a) (.ref b) (!dqs ds es):=by
 have e:((List.range (min us.toArray.size ws.toArray.size)).all (dqj ds es) && us.toArray.size == ws.toArray.size)=dqs ds es:=by
  have g:=ru.length
  have h:=rw'.length
  have i:=Ew hx
  have f:=Ew hy
  rw[← dqs_eq,Zh,Zh,← g,← h,← i,← f]
 have c:=SeqAt.RcAt.tuples ha hb hu it
 have d:=SeqAt.RcNeAt.tuples ha hb hu it
 rw[e] at c d
 exact⟨c,d⟩
theorem eq_dv (I:Inv X pins σ H sh):∀ (n:Nat) (A:Around) (d e:Dv) (v u:V) (x y:Value),d.dp≤n→A.units+2 * n+2<cLine→DvR X.K H d v→DvR X.K H e u→Bl v x→Bl u y→SeqAt.EqAt A sh x y (dq d e):=by
 intro n
 induction n with
 | zero =>
  intro A d e v u x y M hu h g i m
  have c:A.units<cLine:=by lia
  cases d with
  | t Z=>exact absurd M (by show ¬ (1+dps Z≤0);lia)
  | l Z=>exact absurd M (by show ¬ (1+dps Z≤0);lia)
  | f p =>
   obtain⟨rfl,C⟩:=h
   cases e with
   | f q =>
    obtain⟨rfl,D⟩:=g
    exact eqAt_V i m C D
   | t E =>
    obtain⟨a,O,rfl,o,_⟩:=g
    cases m
    obtain⟨Q,r,k,_⟩:=I.tuple o
    cases v with
    | non=>cases i;exact SeqAt.EqAt.none_tuple k c
    | bl b=>cases i;exact SeqAt.EqAt.bool_tuple b k c
    | int b=>obtain⟨t,rfl⟩:=i;exact SeqAt.EqAt.int_tuple b t k c
    | str b=>obtain⟨t,rfl⟩:=i;exact SeqAt.EqAt.str_tuple b t k c
    | _=>cases C
   | l E =>
    obtain⟨a,O,rfl,o,_⟩:=g
    cases m
    obtain⟨Q,r,k,_⟩:=I.list o
    cases v with
    | non=>cases i;exact SeqAt.EqAt.none_list k.isList c
    | bl b=>cases i;exact SeqAt.EqAt.bool_list b k.isList c
    | int b=>obtain⟨t,rfl⟩:=i;exact SeqAt.EqAt.int_list b t k.isList c
    | str b=>obtain⟨t,rfl⟩:=i;exact SeqAt.EqAt.str_list b t k.isList c
    | _=>cases C
 | succ n ih =>
  intro A d e v u x y M hu h g i m
  have c:A.units<cLine:=by lia
  have T:A.in1.units+2 * n+2<cLine:=by show A.units+1+2 * n+2<cLine;lia
  cases d with
  | f p=>exact (fun (z:SeqAt.EqAt A sh x y (dq (.f p) e))=>z) (by
    obtain⟨rfl,C⟩:=h
    cases e with
    | f q =>
     obtain⟨rfl,D⟩:=g
     exact eqAt_V i m C D
    | t E =>
     obtain⟨a,O,rfl,o,_⟩:=g
     cases m
     obtain⟨Q,r,k,_⟩:=I.tuple o
     cases v with
     | non=>cases i;exact SeqAt.EqAt.none_tuple k c
     | bl b=>cases i;exact SeqAt.EqAt.bool_tuple b k c
     | int b=>obtain⟨t,rfl⟩:=i;exact SeqAt.EqAt.int_tuple b t k c
     | str b=>obtain⟨t,rfl⟩:=i;exact SeqAt.EqAt.str_tuple b t k c
     | _=>cases C
    | l E =>
     obtain⟨a,O,rfl,o,_⟩:=g
     cases m
     obtain⟨Q,r,k,_⟩:=I.list o
     cases v with
     | non=>cases i;exact SeqAt.EqAt.none_list k.isList c
     | bl b=>cases i;exact SeqAt.EqAt.bool_list b k.isList c
     | int b=>obtain⟨t,rfl⟩:=i;exact SeqAt.EqAt.int_list b t k.isList c
     | str b=>obtain⟨t,rfl⟩:=i;exact SeqAt.EqAt.str_list b t k.isList c
     | _=>cases C)
  | t N =>
   obtain⟨a,O,rfl,o,J⟩:=id h
   cases i
   obtain⟨us,R,j,_⟩:=I.tuple o
   have L:dps N≤n:=by have:1+dps N≤n+1:=M;lia
   cases e with
   | f q =>
    obtain⟨rfl,D⟩:=g
    cases u with
    | non=>cases m;exact SeqAt.EqAt.tuple_none j c
    | bl b=>cases m;exact SeqAt.EqAt.tuple_bool b j c
    | int b=>obtain⟨t,rfl⟩:=m;exact SeqAt.EqAt.tuple_int b t j c
    | str b=>obtain⟨t,rfl⟩:=m;exact SeqAt.EqAt.tuple_str b t j c
    | _=>cases D
   | t E =>
    obtain⟨b,P,rfl,F,G⟩:=id g
    cases m
    obtain⟨ws,B,s,_⟩:=I.tuple F
    by_cases w:a=b
    ·subst w
     rw[dq_det I _ _ _ h g]
     exact SeqAt.EqAt.same _
    ·exact SeqAt.EqAt.of_refs w (Gx J G R B j s c (Dy J G R B fun d e v u x y Y U S W ry=>ih A.in1 d e v u x y (Zah (Ef Y) L) T U S W ry)).1
   | l E =>
    obtain⟨b,P,rfl,F,G⟩:=g
    cases m
    obtain⟨ws,B,s,_⟩:=I.list F
    exact SeqAt.EqAt.tuple_list j s.isList c
  | l N =>
   obtain⟨a,O,rfl,o,J⟩:=id h
   cases i
   obtain⟨us,R,j,_⟩:=I.list o
   have L:dps N≤n:=by have:1+dps N≤n+1:=M;lia
   cases e with
   | f q =>
    obtain⟨rfl,D⟩:=g
    cases u with
    | non=>cases m;exact SeqAt.EqAt.list_none j.isList c
    | bl b=>cases m;exact SeqAt.EqAt.list_bool b j.isList c
    | int b=>obtain⟨t,rfl⟩:=m;exact SeqAt.EqAt.list_int b t j.isList c
    | str b=>obtain⟨t,rfl⟩:=m;exact SeqAt.EqAt.list_str b t j.isList c
    | _=>cases D
   | l E =>
    obtain⟨b,P,rfl,F,G⟩:=id g
    cases m
    obtain⟨ws,B,s,_⟩:=I.list F
    by_cases w:a=b
    ·subst w
     rw[dq_det I _ _ _ h g]
     exact SeqAt.EqAt.same _
    ·exact SeqAt.EqAt.of_refs w (Ju J G R B j.isList s.isList c (Dy J G R B fun d e v u x y Y U S W ry=>ih A.in1 d e v u x y (Zah (Ef Y) L) T U S W ry)).1
   | t E =>
    obtain⟨b,P,rfl,F,G⟩:=g
    cases m
    obtain⟨ws,B,s,_⟩:=I.tuple F
    exact SeqAt.EqAt.list_tuple j.isList s c
end
section
variable {X:Cx}
inductive rDv (K:PySem.W.Frag) (n:Nat) (neg:Bool) (x y:V) (H:Hp) (Q:VK):Prop
 | mk (d e:_) (_:DvR K H d x) (_:DvR K H e y) (_:d.dp≤n) (_:((∃ ds es,d = .t ds∧e = .t es)∨∃ ds es,d = .l ds∧e = .l es)) (_:Q (.bl (xor neg (dq d e))) H)
theorem op_eqD {n:Nat}(hu:X.A.units+2 * n+4<cLine):OpR X (compareOp .Eq) (rDv X.K n false):=by
 intro J s σ H x y v u Q I c f h
 obtain⟨d,e,D,C,F,G,q⟩:=h
 rw[Bool.false_xor] at q
 rcases G with ⟨z,M,rfl,rfl⟩ | ⟨z,M,rfl,rfl⟩
 ·obtain⟨a,N,rfl,p,g⟩:=D
  obtain⟨b,E,rfl,B,o⟩:=C
  cases c
  cases f
  obtain⟨L,l,j,_⟩:=I.tuple p
  obtain⟨O,i,k,_⟩:=I.tuple B
  exact (Gx g o l i j k (by lia) (Dy g o l i fun d e v u x y t r m c f=>eq_dv I n _ d e v u x y (by have:=Ef t;have:1+dps z≤n:=F;lia) (by show X.A.units+1+2 * n+2<cLine;lia) r m c f)).1 X.prog X.w _ _ ⟨.bl _,H,I,rfl,q⟩
 ·obtain⟨a,N,rfl,p,g⟩:=D
  obtain⟨b,E,rfl,B,o⟩:=C
  cases c
  cases f
  obtain⟨L,l,j,_⟩:=I.list p
  obtain⟨O,i,k,_⟩:=I.list B
  exact (Ju g o l i j.isList k.isList (by lia) (Dy g o l i fun d e v u x y t r m c f=>eq_dv I n _ d e v u x y (by have:=Ef t;have:1+dps z≤n:=F;lia) (by show X.A.units+1+2 * n+2<cLine;lia) r m c f)).1 X.prog X.w _ _ ⟨.bl _,H,I,rfl,q⟩
theorem op_neDv {n:Nat}(hu:X.A.units+2 * n+4<cLine):OpR X (compareOp .NotEq) (rDv X.K n true):=by
 intro J s σ H x y v u Q I c f h
 obtain⟨d,e,D,C,F,G,q⟩:=h
 rw[Bool.true_xor] at q
 rcases G with ⟨z,M,rfl,rfl⟩ | ⟨z,M,rfl,rfl⟩
 ·obtain⟨a,N,rfl,p,g⟩:=D
  obtain⟨b,E,rfl,B,o⟩:=C
  cases c
  cases f
  obtain⟨L,l,j,_⟩:=I.tuple p
  obtain⟨O,i,k,_⟩:=I.tuple B
  exact (Gx g o l i j k (by lia) (Dy g o l i fun d e v u x y t r m c f=>eq_dv I n _ d e v u x y (by have:=Ef t;have:1+dps z≤n:=F;lia) (by show X.A.units+1+2 * n+2<cLine;lia) r m c f)).2 X.prog X.w _ _ ⟨.bl _,H,I,rfl,q⟩
 ·obtain⟨a,N,rfl,p,g⟩:=D
  obtain⟨b,E,rfl,B,o⟩:=C
  cases c
  cases f
  obtain⟨L,l,j,_⟩:=I.list p
  obtain⟨O,i,k,_⟩:=I.list B
  exact (Ju g o l i j.isList k.isList (by lia) (Dy g o l i fun d e v u x y t r m c f=>eq_dv I n _ d e v u x y (by have:=Ef t;have:1+dps z≤n:=F;lia) (by show X.A.units+1+2 * n+2<cLine;lia) r m c f)).2 X.prog X.w _ _ ⟨.bl _,H,I,rfl,q⟩
end
def Itel (K:PySem.W.Frag)(a:Addr):It :=
 ⟨fun i H=>∃ xs x,SqL K H a xs∧xs[i]?=some x,fun i H v H'=>∃ t x,v = .ref t∧H t=none∧(∀ xs,SqL K H a xs→xs[i]?=some x)∧H'=upd H t (.tup [.int i,x]),fun i H=>∃ xs,SqL K H a xs∧xs.length=i⟩
theorem turn_enumL {P:Program}{w:World}{K:PySem.W.Frag}{elts:List Expr}{k1:Nat}{pos:Pos}(e it a:Addr)(hne:e≠it) :
  Turn P w K (.Tuple elts k1 pos) (Itel K a) [e,it] e (fun i h=>(∃ old,IsEnum h e it i old)∧h.IsListIter it a i) where
 mem:=by simp
 obj:=fun i h m b c=>by
  obtain⟨⟨old,d⟩,o,Z,G,hd⟩:=m
  rcases Zr.mp c with rfl | c
  ·exact⟨_,d,fun v z=>by cases z⟩
  ·rw[Zg.mp c]
   exact⟨o,Z,fun v z=>by rw[hd] at z;cases z⟩
 keep:=fun i h h' m k=>by
  obtain⟨⟨old,d⟩,r⟩:=m
  exact⟨⟨old,k e (by simp) _ d⟩,r.at fun o z=>k it (by simp) o z⟩
 item:=by
  intro X Y T U G i l s σ H E I S m O
  subst Y T U
  obtain⟨⟨old,d⟩,r⟩:=m
  obtain⟨xs,x,J,n⟩:=O
  obtain⟨g,L,p,hz⟩:=I.list J
  obtain⟨u,hu,ru⟩:=L.get n
  have R:X.A.handled=none:=I.ok.hd G
  obtain⟨oi,t,D,ai⟩:=id r
  obtain⟨ol,f,j,nl,ah⟩:=p.isList
  have B:a≠it:=fun z=>by
   subst z
   rw[t] at f
   cases f
   rw[D] at j
   exact absurd (Zba j) (by decide)
  have af:e≠a:=fun z=>by
   subst z
   have N:=d
   unfold IsEnum at N
   rw[N] at f
   cases f
   exact absurd (Zba j) (by decide)
  have hi:i<g.toArray.size:=by
   rw[Zh,← L.length]
   exact (Zj.mp n).1
  refine wpAny_pyNext_enum_itemD (Draws.list (A:=X.A.in1) R it a B g.toArray) d ⟨r,p.isList⟩ hi hne (by simp[hne,af]) fun y h' C al Z ag hT am hk=>?_
  have ey:y=u:=by
   have h1:g[i]?=some y:=by simpa using al
   rw[hu] at h1
   exact (Zm h1).symm
  subst ey
  refine⟨_,rfl,wpAny_letOwnedTupleGo_enum Z fun ak V F=>?_⟩
  have ab:e<s.heap.objs.size:=Zo d
  have ac:it<s.heap.objs.size:=Zo t
  have ad:H s.heap.objs.size=none:=I.hok.fresh (Zd _)
  have I1:Inv X l σ (upd H s.heap.objs.size (.tup [.int i,x])) { s with heap:=s.heap.push { cls:=.type "tuple", data:=.seq #[.int i C,y] } } :=
   I.laid (t':=s.toks) (fun b o z=>Zc _ z) (Zd _) ⟨by show 2≤sizeLine;decide,[.int i C,y],.cons ⟨C,rfl⟩ (.cons ru .nil),⟨_,Zn _ rfl,rfl,_,rfl⟩⟩
  have ne:∀ b∈[e,it],b≠s.heap.objs.size:=fun b c=>by
   rcases Zr.mp c with rfl | c
   ·exact Z5 ab
   ·rw[Zg.mp c];exact Z5 ac
  have f1:∀ b∈[e,it],Ic X l (upd H s.heap.objs.size (.tup [.int i,x])) b:=fun b c=>by
   obtain⟨a0,a⟩:=S b c
   exact⟨by rw[Ai (ne b c)];exact a0,a⟩
  have I2:Inv X l σ (upd H s.heap.objs.size (.tup [.int i,x])) { s with heap:=ak,toks:=C+1 }:=Dq (s:={ s with heap:=s.heap.push { cls:=.type "tuple", data:=.seq #[.int i C,y] } }) I1 (fun b o c z=>by
   have M:b≠e:=fun q=>c (by simp[q])
   have aj:b≠it:=fun q=>c (by simp[q])
   refine (F.2 b M).trans ?_
   rcases Heap.get?_push_cases z with ⟨ae,aa⟩ | z2
   ·rw[ae,aa]
    exact hT
   ·exact hk b o M aj z2) f1
  refine⟨.ref s.heap.objs.size,_,I2,rfl,⟨_,x,rfl,ad,fun ys hy=>by rw[I.list_inj hy J];exact n,rfl⟩,⟨⟨_,by simpa using V⟩,?_⟩,fun b c=>(f1 b c).1⟩
  exact ag.1.at fun o z=>(F.2 it hne.symm).trans z
 done:=by
  intro X Y T U G i l s σ H E I S m O
  subst Y T U
  obtain⟨⟨old,d⟩,r⟩:=m
  obtain⟨xs,J,n⟩:=O
  obtain⟨g,L,p,hz⟩:=I.list J
  have R:X.A.handled=none:=I.ok.hd G
  obtain⟨oi,t,D,ai⟩:=id r
  obtain⟨ol,f,j,nl,ah⟩:=p.isList
  have B:a≠it:=fun z=>by
   subst z
   rw[t] at f
   cases f
   rw[D] at j
   exact absurd (Zba j) (by decide)
  have e1:i=g.toArray.size:=by rw[Zh,← L.length,n]
  subst e1
  refine wpAny_pyNext_enum_endD (Draws.list (A:=X.A.in1) R it a B g.toArray) d ⟨r,p.isList⟩ fun h' n=>⟨rfl,?_⟩
  exact Dq (t':=s.toks) I (fun b o c z=>n b o (fun q=>c (by simp[q])) z) S
 self:=fun _ i s Q E m h=>by
  obtain⟨⟨old,d⟩,_⟩:=m
  exact wpAny_pyIter_enum d h
section
variable {X:Cx} {elts:List Expr} {k1:Nat} {tpos:Pos}
inductive iEnumL_ (K:PySem.W.Frag) (R:It→Hp→Prop) (vs:List V) (H1:Hp):Prop
 | mk (a xs:_) (_:vs=[.ref a]) (_:SqL K H1 a xs) (_:R (Itel K a) H1)
def iEnumL (K:PySem.W.Frag)(ta:TA):TI:=fun σ H R=>ta σ H fun vs H1=>iEnumL_ K R vs H1
theorem pi_enumL {a:Expr}{ta:TA}{p pos:Pos}(hg:Gl X "enumerate")(hm:X.mg "enumerate" = none)(ha:PA X [a] ta)(hs:starEach [a] X.env=[(false,eval a X.env)]:=by rfl):PI X (.Tuple elts k1 tpos) (.Call (.Name "enumerate" p) [a] [] pos) (iEnumL X.K ta):=by
 refine⟨?_⟩
 intro d s σ H R I h
 refine Call_ (Dj I hg hm boot_enumerate (Zaw (thn (ha pos d s σ H _ I h) fun B c i=>?_) hs rfl))
 obtain⟨D,g,e,w,r⟩:=i
 obtain⟨l,E,rfl,z,q⟩:=r
 obtain⟨u,rfl,v⟩:=Cs w
 cases v
 obtain⟨A,C,y,t⟩:=e.list z
 refine call_enumerate_list y.isList fun k j x t o=>wpAny_pyIter_enum (s:={ c with heap:=k }) j ?_
 have n:Inv X d σ g { c with heap:=k }:=e.kept (t':=c.toks) o
 have m:∀ b,c.heap.objs.size≤b→g b=none:=fun b f=>e.hok.fresh f
 refine⟨_,[_,_],_,Itel X.K l,g,rfl,n,turn_enumL (c.heap.objs.size+1) c.heap.objs.size l (Zc8 (Zbk _)),⟨⟨_,j⟩,x⟩,fun b f=>?_,q⟩
 rcases Zr.mp f with rfl | f
 ·exact e.fpOk (Zbp _) (m _ (Zbp _))
 ·rw[Zg.mp f]
  exact e.fpOk (Zd _) (m _ (Zd _))
end
theorem for_enumL {K:PySem.W.Frag}{a:Addr}{xs:List V}{g:TG}{tb:TS}{D:Ends}{σ:L2.St}{H:Hp}(Pv:Nat→L2.St→Hp→Prop)(h0:Pv 0 σ H)(hl:∀ i σ H,i≤xs.length→Pv i σ H→SqL K H a xs)(hs:∀ i x t σ H,xs[i]?=some x→H t=none→Pv i σ H→g (.ref t) σ (upd H t (.tup [.int i,x])) fun σ2 H2=>tb { D with nx:=Pv (i+1),ct:=Pv (i+1),bk:=D.nx } σ2 H2)(hd:∀ σ H,Pv xs.length σ H→D.nx σ H) :
  ∃ W:Nat→Nat→L2.St→Hp→Prop,(∃ m,W 0 m σ H)∧∀ i m σ H,W i m σ H →
   ((Itel K a).stop i H∧D.nx σ H)∨((Itel K a).go i H∧∃ N:L2.St→Hp→Prop,(∀ σ' H',N σ' H'→∃ m',m'<m∧W (i+1) m' σ' H')∧∀ y H',(Itel K a).yld i H y H'→g y σ H' fun σ2 H2=>tb { D with nx:=N,ct:=N,bk:=D.nx } σ2 H2):=by
 refine⟨fun i m σ H=>m=xs.length - i∧i≤xs.length∧Pv i σ H,⟨_,rfl,Zt _,h0⟩,?_⟩
 rintro i m σ H ⟨rfl,f,p⟩
 have q:=hl i σ H f p
 by_cases b:i<xs.length
 ·refine .inr ⟨⟨xs,xs[i],q,Zi b⟩,Pv (i+1),fun σ' H' c=>⟨xs.length - (i+1),by lia,rfl,b,c⟩,fun y H' z=>?_⟩
  obtain⟨t,x,rfl,ht,d,rfl⟩:=z
  exact hs i x t σ H (d xs q) ht p
 ·have e:i=xs.length:=by lia
  subst e
  exact .inl ⟨⟨xs,q,rfl⟩,hd σ H p⟩
structure ZpA (z TI TO i1 i2:Addr) (fp1 fp2:List Addr):Prop where
 tz:TI≠z
 oz:TO≠z
 az:i1≠z
 bz:i2≠z
 to:TI≠TO
 ta:TI≠i1
 tb:TI≠i2
 oa:TO≠i1
 ob:TO≠i2
 ab:i1≠i2
 f1:∀ c∈fp1,c≠z∧c≠TO∧c≠i2
 f2:∀ c∈fp2,c≠z∧c≠TO∧c≠i1
section
variable {prog:Program} {w:World} {A:Around} {E:Value→Shared→Prop} {s:Shared} {z TI TO i1 i2:Addr} {fp1 fp2:List Addr} {n1 n2 k:Nat} {P1 P2:Nat→Value→Prop} {S1 S2:Nat→Heap→Prop} {a b:Value}
theorem B8 {n j:Nat}{Pp:Nat→Value→Prop}{Sp:Nat→Heap→Prop}(D:Draws prog w A it fp n Pp Sp)(st:Sp j h)(sb:Heap.SameBut q h h')(hq:∀ c∈fp,c≠q):Sp j h' :=
 D.frame _ _ _ st fun c a o e=>sb.extBut c o (hq c a) e
theorem zp_item {Q:Value→Shared→Prop}(D1:Draws prog w A i1 fp1 n1 P1 S1)(D2:Draws prog w A i2 fp2 n2 P2 S2)(Z:ZpA z TI TO i1 i2 fp1 fp2)(hz:IsZip s.heap z TI TO .none)(ht:IsPair s.heap TI (.ref i1) (.ref i2))(ho:IsPair s.heap TO a b)(s1:S1 k s.heap)(s2:S2 k s.heap)(k1:k<n1)(k2:k<n2)(hQ:∀ x y h' tk,P1 k x→P2 k y→IsZip h' z TI TO (rawInt s.heap.objs.size)→IsPair h' TO x y→S1 (k+1) h'→S2 (k+1) h'→IsPair h' s.heap.objs.size x y →
   (∀ c o,c≠z→c≠TO→c≠i1→c≠i2→s.heap.get? c=some o→h'.get? c=some o)→Q (.ref s.heap.objs.size) { s with heap:=h',toks:=tk }) :
  wpAny (model prog w) A (Builtin.«zip.__next__» ⟨[.ref z],[]⟩) (fun r s'=>∃ v,r = .done (.ret v)∧Q v s') E s:=by
 show wpAny _ _ (field (.ref z) 2 >>= _) _ _ _
 refine Zb (Zcj hz rfl (x:=.bool false) rfl ?_)
 show wpAny _ _ (field (.ref z) 3 >>= _) _ _ _
 refine Zb (Zcj hz rfl (x:=.ref TI) rfl (Zb (Zbj ht rfl ?_)))
 show wpAny _ _ (Builtin.SmallTypes.ownedTupleIsFree (.ref z) >>= _) _ _ _
 refine Zb ?_
 unfold Builtin.SmallTypes.ownedTupleIsFree
 refine Zb (Zcj hz rfl (x:=.none) rfl (Zk ?_))
 simp only[if_true]
 refine Zb (Zdl (Zb (Zcj hz rfl (x:=.ref TO) rfl (Zb (Zc5 hz (by simp) fun T S h=>?_)))))
 have M:IsZip T z TI TO .ellipsis:=S
 refine Zb ?_
 simp only[List.zipIdx_cons,List.zipIdx_nil,List.forIn_cons,List.forIn_nil]
 -- the first one
 refine Zb (Zb (wpAny_onRaise ?_))
 show wpAny _ _ (Builtin.SmallTypes.nextOf (.ref i1) >>= _) _ _ _
 refine Zb (D1.item k _ _ _ k1 (B8 D1 s1 h fun c d=>(Z.f1 c d).1) fun x g2 aa Y G g=>Zk ?_)
 have J:IsPair g2 TO a b:=g.extBut _ _ Z.oa (h.extBut _ _ Z.oz ho)
 refine Zb (Zbj J rfl (Zb (wpAny_updateSeq_pair J fun g3 V i=>?_)))
 have N:IsPair g3 TO x b:=V
 refine Zb (wpAny_letGo (Zk ?_))
 -- the second one
 refine Zb (Zb (wpAny_onRaise ?_))
 show wpAny _ _ (Builtin.SmallTypes.nextOf (.ref i2) >>= _) _ _ _
 refine Zb (D2.item k _ _ _ k2 (B8 D2 (B8 D2 (B8 D2 s2 h fun c d=>(Z.f2 c d).1) g fun c d=>(Z.f2 c d).2.2) i fun c d=>(Z.f2 c d).2.1) fun y O B P H l=>Zk ?_)
 have C:IsPair O TO x b:=l.extBut _ _ Z.ob N
 refine Zb (Zbj C rfl (Zb (wpAny_updateSeq_pair C fun f U j=>?_)))
 have K:IsPair f TO x y:=U
 refine Zb (wpAny_letGo (Zk (Zk ?_)))
 -- the pair handed out
 refine Zb (Zbj K rfl (Zb (wpAny_newTuple ?_)))
 have size:f.objs.size=s.heap.objs.size:=j.1.trans (l.1.trans (i.1.trans (g.1.trans h.1)))
 have D:IsZip f z TI TO .ellipsis:=j.extBut _ _ Z.oz.symm (l.extBut _ _ Z.bz.symm (i.extBut _ _ Z.oz.symm (g.extBut _ _ Z.az.symm M)))
 have t5:S1 (k+1) f:=B8 D1 (B8 D1 (B8 D1 G i fun c d=>(Z.f1 c d).2.1) l fun c d=>(Z.f1 c d).2.2) j fun c d=>(Z.f1 c d).2.1
 have u5:S2 (k+1) f:=B8 D2 H j fun c d=>(Z.f2 c d).2.1
 have F:z<f.objs.size:=Zo D
 show wpAny _ _ (Builtin.SmallTypes.ownedTupleHandOut (.ref z) (.ref f.objs.size) >>= _) _ _ _
 refine Zb ?_
 unfold Builtin.SmallTypes.ownedTupleHandOut
 have z6:IsZip (f.push { cls:=.type "tuple", data:=.seq #[x,y] }) z TI TO .ellipsis:=Zc _ D
 refine Zb (Zc5 z6 (by simp) fun g7 R t=>?_)
 have L:IsZip g7 z TI TO (rawInt f.objs.size):=R
 refine Zc5 L (by simp) fun p e8 I=>?_
 have u:IsZip p z TI TO (rawInt f.objs.size):=e8
 have m:∀ c o,c≠z→f.get? c=some o→p.get? c=some o:=fun c o n e=>I.extBut _ _ n (t.extBut _ _ n (Zc _ e))
 have q:IsPair p f.objs.size x y:=I.extBut _ _ (Zc8 F) (t.extBut _ _ (Zc8 F) (Zn _ rfl))
 rw[size] at u q
 refine Zk ⟨_,rfl,?_⟩
 show Q (.ref f.objs.size) _
 rw[size]
 refine hQ x y p B Y P u (m _ _ Z.oz K) (D1.frame _ _ _ t5 fun c d o e=>m c o (Z.f1 c d).1 e) (D2.frame _ _ _ u5 fun c d o e=>m c o (Z.f2 c d).1 e) q fun c o n1 n2 W X e=>?_
 exact m c o n1 (j.extBut _ _ n2 (l.extBut _ _ X (i.extBut _ _ n2 (g.extBut _ _ W (h.extBut _ _ n1 e)))))
theorem zp_end {Q:Fin→Shared→Prop}(D1:Draws prog w A i1 fp1 n1 P1 S1)(Z:ZpA z TI TO i1 i2 fp1 fp2)(hz:IsZip s.heap z TI TO .none)(ht:IsPair s.heap TI (.ref i1) (.ref i2))(s1:S1 n1 s.heap)(hE:∀ h' e,(∀ c o,c≠z→c≠TO→c≠i1→c≠i2→s.heap.get? c=some o→h'.get? c=some o)→(∃ o,h'.get? e=some o∧o.cls = .type "StopIteration")→E (.ref e) { s with heap:=h' }) :
  wpAny (model prog w) A (Builtin.«zip.__next__» ⟨[.ref z],[]⟩) Q E s:=by
 show wpAny _ _ (field (.ref z) 2 >>= _) _ _ _
 refine Zb (Zcj hz rfl (x:=.bool false) rfl ?_)
 show wpAny _ _ (field (.ref z) 3 >>= _) _ _ _
 refine Zb (Zcj hz rfl (x:=.ref TI) rfl (Zb (Zbj ht rfl ?_)))
 show wpAny _ _ (Builtin.SmallTypes.ownedTupleIsFree (.ref z) >>= _) _ _ _
 refine Zb ?_
 unfold Builtin.SmallTypes.ownedTupleIsFree
 refine Zb (Zcj hz rfl (x:=.none) rfl (Zk ?_))
 simp only[if_true]
 refine Zb (Zdl (Zb (Zcj hz rfl (x:=.ref TO) rfl (Zb (Zc5 hz (by simp) fun p m f=>?_)))))
 have j:IsZip p z TI TO .ellipsis:=m
 refine Zb ?_
 simp only[List.zipIdx_cons,List.zipIdx_nil,List.forIn_cons,List.forIn_nil]
 refine Zb (Zb (wpAny_onRaise ?_))
 show wpAny _ _ (Builtin.SmallTypes.nextOf (.ref i1) >>= _) _ _ _
 refine Zb (D1.done _ _ _ (B8 D1 s1 f fun c k=>(Z.f1 c k).1) fun u e d n=>?_)
 obtain⟨l,a,b⟩:=n
 have i:IsZip u z TI TO .ellipsis:=d _ _ Z.az.symm j
 have h:e≠z:=fun q=>by subst q;rw[i] at a;cases a;simp at b
 exact Zc5 i (by simp) fun t _ g=>hE t e (fun c o n1 _ r _ q=>g.extBut _ _ n1 (d _ _ r (f.extBut _ _ n1 q))) ⟨l,g.extBut _ _ h a,b⟩
end
section
variable {prog:Program} {w:World} {A:Around} {E:Value→Shared→Prop} {s:Shared} {z TI TO i1 i2:Addr} {fp1 fp2:List Addr} {n1 n2 k:Nat} {P1 P2:Nat→Value→Prop} {S1 S2:Nat→Heap→Prop} {a b:Value}
theorem zp_next {Q:Option Value→Shared→Prop}(D1:Draws prog w A.in1 i1 fp1 n1 P1 S1)(D2:Draws prog w A.in1 i2 fp2 n2 P2 S2)(Z:ZpA z TI TO i1 i2 fp1 fp2)(hz:IsZip s.heap z TI TO .none)(ht:IsPair s.heap TI (.ref i1) (.ref i2))(ho:IsPair s.heap TO a b)(s1:S1 k s.heap)(s2:S2 k s.heap)(k1:k<n1)(k2:k<n2)(hQ:∀ x y h' tk,P1 k x→P2 k y→IsZip h' z TI TO (rawInt s.heap.objs.size)→IsPair h' TO x y→S1 (k+1) h'→S2 (k+1) h'→IsPair h' s.heap.objs.size x y →
   (∀ c o,c≠z→c≠TO→c≠i1→c≠i2→s.heap.get? c=some o→h'.get? c=some o)→Q (some (.ref s.heap.objs.size)) { s with heap:=h',toks:=tk }):wpAny (model prog w) A (pyNext (.ref z)) Q E s:=by
 have d:s.TypeIs (.ref z) "zip" := ⟨_,hz,rfl⟩
 unfold pyNext
 exact Zb (wpAny_attempt (wpAny_callSpecial?_slot (name:=Str.ofString "__next__") d F.slot_zip_next (Zbu F.slot_zip_next d F.entry_zip_next
  (zp_item D1 D2 Z hz ht ho s1 s2 k1 k2 fun x y h' tk m i e g h j l f=>Zk (hQ x y h' tk m i e g h j l f)) (F.args_zip_next_1 _))))
theorem zp_stop {Q:Option Value→Shared→Prop}(D1:Draws prog w A.in1 i1 fp1 n1 P1 S1)(Z:ZpA z TI TO i1 i2 fp1 fp2)(hz:IsZip s.heap z TI TO .none)(ht:IsPair s.heap TI (.ref i1) (.ref i2))(s1:S1 n1 s.heap)(hQ:∀ h',(∀ c o,c≠z→c≠TO→c≠i1→c≠i2→s.heap.get? c=some o→h'.get? c=some o)→Q none { s with heap:=h' }):wpAny (model prog w) A (pyNext (.ref z)) Q E s:=by
 have a:s.TypeIs (.ref z) "zip" := ⟨_,hz,rfl⟩
 unfold pyNext
 refine Zb (wpAny_attempt (wpAny_callSpecial?_slot (name:=Str.ofString "__next__") a F.slot_zip_next (Zbu F.slot_zip_next a F.entry_zip_next
  (zp_end D1 Z hz ht s1 fun h' e d h=>?_) (F.args_zip_next_1 _))))
 obtain⟨o,f,g⟩:=h
 exact Zb (Zdh (T := "StopIteration") (b:=true) ⟨o,f,g⟩ isSubtype_stop (Zk (hQ _ d)))
end
def Itg (G:Nat→Hp→Prop)(Y:Nat→Hp→V→Prop)(En:Nat→Hp→Prop)(K:PySem.W.Frag)(b:Addr):It :=
 ⟨fun i H=>G i H∧∃ ys y,SqL K H b ys∧ys[i]?=some y,fun i H v H'=>∃ t x y,v = .ref t∧H t=none∧Y i H x∧(∀ ys,SqL K H b ys→ys[i]?=some y)∧H'=upd H t (.tup [x,y]),En⟩
theorem n_n {I j k:Nat}(h:j≠k):I+j≠I+k:=by lia
theorem z_n {I k:Nat}(h:k≠0):I≠I+k:=by lia
theorem n_z {I k:Nat}(h:k≠0):I+k≠I:=by lia
structure Zf (P:Program) (w:World) (K:PySem.W.Frag) (I0:Addr) (S:Nat→Heap→Prop) (G:Nat→Hp→Prop) (Y:Nat→Hp→V→Prop) (En:Nat→Hp→Prop):Prop where
 ob:∀ i h,S i h→∃ o,h.get? I0=some o∧o.cls ≠ .type "list" ∧ ∀ v,o.data ≠ .cell v
 kp:∀ i h h',S i h→(∀ o,h.get? I0=some o→h'.get? I0=some o)→S i h'
 dr:∀ (X:Cx) (pins:List (Addr×Obj)) (s:Shared) (σ:L2.St) (H:Hp) (i:Nat),X.prog=P→X.w=w→X.K=K→X.A.handled=none→Inv X pins σ H s→S i s.heap→(G i H∨En i H) →
  ∃ fp n Pp Sp,Draws P w X.A.in1 I0 fp n Pp Sp∧Sp i s.heap∧(∀ c∈fp,c=I0∨∃ o,s.heap.get? c=some o∧o.cls = .type "list")∧(∀ h',Sp (i+1) h'→S (i+1) h')∧(G i H→i<n∧∀ u,Pp i u→∃ x,Bl x u∧Y i H x)∧(En i H→i=n)
theorem mem5 {p:Addr→Prop}(h4:p (I0+4))(h2:p (I0+2))(h3:p (I0+3))(h0:p I0)(h1:p (I0+1))(b:Addr)(hb:b∈[I0+4,I0+2,I0+3,I0,I0+1]):p b:=by
 simp only[Zr,Zcd,or_false] at hb
 rcases hb with rfl | rfl | rfl | rfl | rfl
 ·exact h4
 ·exact h2
 ·exact h3
 ·exact h0
 ·exact h1
theorem turn_zip {P:Program}{w:World}{K:PySem.W.Frag}{elts:List Expr}{k1:Nat}{pos:Pos}{S:Nat→Heap→Prop}{G:Nat→Hp→Prop}{Y:Nat→Hp→V→Prop}{En:Nat→Hp→Prop}(I0 b:Addr)(F:Zf P w K I0 S G Y En) :
  Turn P w K (.Tuple elts k1 pos) (Itg G Y En K b) [I0+4,I0+2,I0+3,I0,I0+1] (I0+4) (fun i h=>IsZip h (I0+4) (I0+2) (I0+3) .none∧IsPair h (I0+2) (.ref I0) (.ref (I0+1))∧(∃ u v,IsPair h (I0+3) u v)∧S i h∧h.IsListIter (I0+1) b i) where
 mem:=by simp
 obj:=fun i h t b g=>by
  obtain⟨r,ht,⟨u,v,z⟩,j,⟨o2,B,_,d2⟩⟩:=t
  obtain⟨o1,j,_,d1⟩:=F.ob i h j
  exact mem5 (p:=fun b=>∃ o,h.get? b=some o∧∀ v,o.data ≠ .cell v) ⟨_,r,fun v e=>by cases e⟩ ⟨_,ht,fun v e=>by cases e⟩ ⟨_,z,fun v e=>by cases e⟩ ⟨o1,j,d1⟩ ⟨o2,B,fun v e=>by rw[d2] at e;cases e⟩ b g
 keep:=fun i h h' t k=>by
  obtain⟨r,ht,⟨u,v,z⟩,j,B⟩:=t
  exact⟨k _ (by simp) _ r,k _ (by simp) _ ht,⟨u,v,k _ (by simp) _ z⟩,F.kp i h h' j fun o e=>k _ (by simp) o e,B.at fun o e=>k _ (by simp) o e⟩
 item:=by
  intro X T N R hc i l s σ H E I hf t C
  obtain⟨r,ht,⟨u,v,z⟩,j,B⟩:=t
  obtain⟨C,ys,y,hq,hy⟩:=C
  have hh:X.A.handled=none:=I.ok.hd hc
  obtain⟨fp,n,Pp,Sp,dr,sp,O,hS,hG,_⟩:=F.dr X l s σ H i T N R hh I j (.inl C)
  obtain⟨hi,hv⟩:=hG C
  obtain⟨o1,g1,c1,d1⟩:=F.ob i _ j
  subst T N R
  obtain⟨M,rv,p,_⟩:=I.list hq
  obtain⟨uy,hu,ru⟩:=rv.get hy
  obtain⟨ol,al,ae,nl,an⟩:=id p.isList
  obtain⟨o2,g2,c2,d2⟩:=id B
  have D:∀ {c:Addr} {L:Obj},s.heap.get? c=some L→L.cls = .type "list" → c≠I0+4∧c≠I0+3∧c≠I0∧c≠I0+1:=fun {c L} d f=>by
   refine⟨fun q=>?_,fun q=>?_,fun q=>?_,fun q=>?_⟩
   ·rw[q,r] at d;cases d;exact absurd (Zba f) (by decide)
   ·rw[q,z] at d;cases d;exact absurd (Zba f) (by decide)
   ·rw[q,g1] at d;cases d;exact absurd f c1
   ·rw[q,g2] at d;cases d;rw[c2] at f;exact absurd (Zba f) (by decide)
  obtain⟨e1,e2,e3,e4⟩:=D al ae
  have Z:ZpA (I0+4) (I0+2) (I0+3) I0 (I0+1) fp [I0+1,b]:=by
   refine⟨n_n (by decide),n_n (by decide),z_n (by decide),n_n (by decide),n_n (by decide),n_z (by decide),n_n (by decide),n_z (by decide),n_n (by decide),z_n (by decide),fun c m=>?_,fun c m=>?_⟩
   ·rcases O c m with rfl | ⟨L,d,f⟩
    ·exact⟨z_n (by decide),z_n (by decide),z_n (by decide)⟩
    ·obtain⟨f1,f2,_,f4⟩:=D d f
     exact⟨f1,f2,f4⟩
   ·simp only[Zr,Zcd,or_false] at m
    rcases m with rfl | rfl
    ·exact⟨n_n (by decide),n_n (by decide),n_z (by decide)⟩
    ·exact⟨e1,e2,e3⟩
  have ac:i<M.toArray.size:=by
   rw[Zh,← rv.length]
   exact (Zj.mp hy).1
  refine zp_next dr (Draws.list (A:=X.A.in1) hh (I0+1) b e4 M.toArray) Z r ht z sp ⟨B,p.isList⟩ hi ac fun U J h' tk px py ad am ag af hT hk=>?_
  obtain⟨x,ak,aj⟩:=hv U px
  have ey:J=uy:=by
   have j:M[i]?=some J:=by simpa using py
   rw[hu] at j
   exact (Zm j).symm
  subst ey
  refine⟨_,rfl,wpAny_letOwnedTupleGo_zip ad fun aa ab sb=>?_⟩
  have ah:H s.heap.objs.size=none:=I.hok.fresh (Zd _)
  have I1:Inv X l σ (upd H s.heap.objs.size (.tup [x,y])) { s with heap:=s.heap.push { cls:=.type "tuple", data:=.seq #[U,J] } } :=
   I.laid (t':=s.toks) (fun b o q=>Zc _ q) (Zd _) ⟨by show 2≤sizeLine;decide,[U,J],.cons ak (.cons ru .nil),⟨_,Zn _ rfl,rfl,_,rfl⟩⟩
  have lt:∀ b∈[I0+4,I0+2,I0+3,I0,I0+1],b≠s.heap.objs.size:=mem5 (Z5 (Zo r)) (Z5 (Zo ht)) (Z5 (Zo z)) (Z5 (Zo g1)) (Z5 (Zo g2))
  have f1:∀ b∈[I0+4,I0+2,I0+3,I0,I0+1],Ic X l (upd H s.heap.objs.size (.tup [x,y])) b:=fun b g=>by
   obtain⟨a0,a⟩:=hf b g
   exact⟨by rw[Ai (lt b g)];exact a0,a⟩
  have I2:Inv X l σ (upd H s.heap.objs.size (.tup [x,y])) { s with heap:=aa,toks:=tk }:=Dq (s:={ s with heap:=s.heap.push { cls:=.type "tuple", data:=.seq #[U,J] } }) I1 (fun b o g q=>by
   have n4:b≠I0+4:=fun q=>g (by simp[q])
   have n3:b≠I0+3:=fun q=>g (by simp[q])
   have n0:b≠I0:=fun q=>g (by simp[q])
   have n1:b≠I0+1:=fun q=>g (by simp[q])
   refine (sb.2 b n4).trans ?_
   rcases Heap.get?_push_cases q with ⟨b1,ai⟩ | z2
   ·rw[b1,ai]
    exact hT
   ·exact hk b o n4 n3 n0 n1 z2) f1
  have up:∀ b o,b≠I0+4→h'.get? b=some o→aa.get? b=some o:=fun b o n e=>(sb.2 b n).trans e
  refine⟨.ref s.heap.objs.size,_,I2,rfl,⟨_,x,y,rfl,ah,aj,fun zs hs=>by rw[I.list_inj hs hq];exact hy,rfl⟩,⟨ab,?_,⟨_,_,up _ _ (n_n (by decide)) am⟩,?_,?_⟩,fun b g=>(f1 b g).1⟩
  ·exact up _ _ (n_n (by decide)) (hk _ _ (n_n (by decide)) (n_n (by decide)) (n_z (by decide)) (n_n (by decide)) ht)
  ·exact F.kp _ _ _ (hS _ ag) fun o e=>up _ o (z_n (by decide)) e
  ·exact af.1.at fun o e=>up _ o (n_n (by decide)) e
 done:=by
  intro X T N R hc i l s σ H E I hf t C
  obtain⟨r,ht,⟨u,v,z⟩,j,B⟩:=t
  have hh:X.A.handled=none:=I.ok.hd hc
  obtain⟨fp,n,Pp,Sp,dr,sp,O,_,_,hE⟩:=F.dr X l s σ H i T N R hh I j (.inr C)
  obtain⟨o1,g1,c1,d1⟩:=F.ob i _ j
  have e1:=hE C
  subst T N R e1
  obtain⟨o2,g2,c2,d2⟩:=id B
  have Z:ZpA (I0+4) (I0+2) (I0+3) I0 (I0+1) fp []:=by
   refine⟨n_n (by decide),n_n (by decide),z_n (by decide),n_n (by decide),n_n (by decide),n_z (by decide),n_n (by decide),n_z (by decide),n_n (by decide),z_n (by decide),fun c m=>?_,fun c m=>nomatch m⟩
   rcases O c m with rfl | ⟨L,d,f⟩
   ·exact⟨z_n (by decide),z_n (by decide),z_n (by decide)⟩
   ·refine⟨fun q=>?_,fun q=>?_,fun q=>?_⟩
    ·rw[q,r] at d;cases d;exact absurd (Zba f) (by decide)
    ·rw[q,z] at d;cases d;exact absurd (Zba f) (by decide)
    ·rw[q,g2] at d;cases d;rw[c2] at f;exact absurd (Zba f) (by decide)
  refine zp_stop dr Z r ht sp fun h' hk=>⟨rfl,?_⟩
  exact Dq (t':=s.toks) I (fun b o g q=>hk b o (fun e=>g (by simp[e])) (fun e=>g (by simp[e])) (fun e=>g (by simp[e])) (fun e=>g (by simp[e])) q) hf
 self:=fun _ i s Q E t h=>wpAny_pyIter_zip t.1 h
def Itd (lo:Int)(n:Nat):It:=⟨fun i _=>i<n,fun i H x H'=>H'=H∧x = .int (lo - i),fun i _=>n≤i⟩
theorem turn_down {P:Program}{w:World}{K:PySem.W.Frag}{tg:Expr}(it:Addr)(lo:Int)(n:Nat):Turn P w K tg (Itd lo n) [it] it (fun i h=>IsRangeIter h it (lo+(i:Nat) * (-1)) ((n:Int) - (i:Nat)) (-1)) where
 mem:=Zg.mpr rfl
 obj:=fun i h a b c=>by
  rw[Zg.mp c]
  exact⟨_,a,fun v z=>by
   have L : Data.fields _=Data.cell v:=z
   cases L⟩
 keep:=fun i h g a k=>k it (Zg.mpr rfl) _ a
 item:=by
  intro X y r B m i d s σ H E I f a q
  subst y r B
  obtain⟨p,l,G,x,u,A⟩:=f it (Zg.mpr rfl)
  have W:=Walks.range (prog:=X.prog) (w:=X.w) (I.ok.hd m) it lo (-1) n
  refine W.item i s _ _ q a fun v g C D j J=>?_
  obtain⟨t,rfl⟩:=D
  have F:Inv X d σ H { s with heap:=g,toks:=C }:=I.turned (fun b o c e=>J b o (fun z=>c (Zg.mp z)) e) p l x u A
  refine⟨_,rfl,go_of (s:={ s with heap:=g,toks:=C }) (n := "range_iterator") j rfl rfl (by decide) ⟨.int (lo - i),H,F,⟨t,?_⟩,⟨rfl,rfl⟩,j,fun b c=>(f b c).1⟩⟩
  congr 1
  lia
 done:=by
  intro X y r B m i d s σ H E I f a q
  subst y r B
  obtain⟨p,l,G,x,u,A⟩:=f it (Zg.mpr rfl)
  exact wpAny_pyNext_range_end (I.ok.hd m) a (by have:n≤i:=q;lia) fun g M=>⟨rfl,I.turned (t':=s.toks) (fun b o c e=>M b o c e) p l x u A⟩
 self:=fun _ _ _ _ _ a h=>wpAny_pyIter_rangeiter a h
theorem size_down (a b:Int):Builtin.Range.rangeSize a b (-1)=((a - b).toNat:Int):=by
 unfold Builtin.Range.rangeSize
 rw[Zs (by decide)]
 by_cases h:a > b
 ·rw[Zw h,show (-(-1):Int)=1 from rfl,Int.ediv_one]
  lia
 ·rw[Zs h]
  lia
theorem small_down {a b:Int}(ha : -(2 ^ 62)≤a)(ha' : a<2 ^ 62)(hb : -(2 ^ 62)≤b)(hb' : b<2 ^ 62):Builtin.Range.small a b (-1)=true:=by
 unfold Builtin.Range.small
 rw[size_down]
 simp only[Builtin.Range.rangeFitsLong,Zay,Bool.or_eq_true,decide_eq_true_eq,Zc1]
 have c:((2:Int) ^ 62)=4611686018427387904:=by decide
 have d:((2:Int) ^ 63)=9223372036854775808:=by decide
 simp only[show ¬ ((-1:Int) > 0) by decide,Zc3]
 refine⟨by lia,.inr ?_⟩
 rw[Zay,decide_eq_true_eq,decide_eq_true_eq]
 lia
section
variable {X:Cx} {tg:Expr}
theorem down_it {H:Hp}{s:Shared}{R:It→Hp→Prop}{E:Value→Shared→Prop}{lo hi:Int}{t u v:Tok}{tk:Nat}(I:Inv X pins σ H s)(h1 : -(2 ^ 62)≤lo)(h2:lo<2 ^ 62)(h3 : -(2 ^ 62)≤hi)(h4:hi<2 ^ 62)(q:R (Itd lo (lo - hi).toNat) H):wpAny (model X.prog X.w) X.A (pyIter (.ref s.heap.objs.size)) (PIE X pins σ tg R) E { s with heap:=s.heap.push { cls:=.type "range", data:=.fields #[.int lo t,.int hi u,.int (-1) v] },toks:=tk }:=by
 refine wpAny_pyIter_range (IsRange.new ..) (small_down h1 h2 h3 h4) ?_
 have a:Inv X pins σ H { s with heap:=s.heap.push { cls:=.type "range", data:=.fields #[.int lo t,.int hi u,.int (-1) v] },toks:=tk }:=I.kept fun b o e=>Zc _ e
 refine⟨_,[_],_,_,H,rfl,a.kept (t':=tk) fun b o e=>Zc _ e,turn_down _ lo (lo - hi).toNat,?_,fun b c=>?_,q⟩
 ·have d:lo+((0:Nat):Int) * (-1)=lo:=by simp
  have f:(((lo - hi).toNat:Nat):Int) - ((0:Nat):Int)=Builtin.Range.rangeSize lo hi (-1):=by rw[size_down];simp
  show IsRangeIter _ _ (lo+((0:Nat):Int) * (-1)) ((((lo - hi).toNat:Nat):Int) - ((0:Nat):Int)) (-1)
  rw[d,f]
  exact Zn _ rfl
 ·rw[Zg.mp c]
  exact a.fpOk (Zd _) (a.hok.fresh (Zd _))
inductive iDown_ (R:It→Hp→Prop) (vs:List V) (H1:Hp):Prop
 | mk (i j:Int) (_:vs=[.int i,.int j,.int (-1)]) (_:(-(2 ^ 60)≤i∧i<2 ^ 60∧-(2 ^ 60)≤j∧j<2 ^ 60)) (_:R (Itd i (i - j).toNat) H1)
def iDown (ta:TA):TI:=fun σ H R=>ta σ H fun vs H1=>iDown_ R vs H1
theorem pi_down (hg:Gl X "range")(hm:X.mg "range" = none)(ha:PA X [a,b,c] ta)(hs:starEach [a,b,c] X.env=(false,eval a X.env)::starEach [b,c] X.env:=by rfl)(hs2:(backTo pos (starEach [b,c] X.env)).any (·.1)=false:=by rfl) :
  PI X tg (.Call (.Name "range" p) [a,b,c] [] pos) (iDown ta):=by
 refine⟨?_⟩
 intro e s σ H R I h
 refine Call_ (Dj I hg hm boot_range (Zaw (thn (ha pos e s σ H _ I h) fun o B ⟨y,v,l,m,f⟩=>?_) hs hs2))
 obtain⟨i,j,rfl,⟨f,x,u,w⟩,q⟩:=f
 cases m with
 | cons r d =>
  cases d with
  | cons k d =>
   cases d with
   | cons g d =>
    cases d
    obtain⟨t,rfl⟩:=r
    obtain⟨C,rfl⟩:=k
    obtain⟨n,rfl⟩:=g
    have A:((2:Int) ^ 62)=4611686018427387904:=by decide
    have z:((2:Int) ^ 60)=1152921504606846976:=by decide
    exact call_range_3 (by decide) (down_it l (by lia) (by lia) (by lia) (by lia) q) (.inl (PyProof.noPylong_small (by lia)))
end
theorem for_down {lo:Int}{n:Nat}{g:TG}{tb:TS}{D:Ends}{σ:L2.St}{H:Hp}(Pv:Nat→L2.St→Hp→Prop)(h0:Pv 0 σ H)(hs:∀ i σ H,i<n→Pv i σ H→g (.int (lo - i)) σ H fun σ2 H2=>tb { D with nx:=Pv (i+1),ct:=Pv (i+1),bk:=D.nx } σ2 H2)(hd:∀ σ H,Pv n σ H→D.nx σ H) :
  ∃ W:Nat→Nat→L2.St→Hp→Prop,(∃ m,W 0 m σ H)∧∀ i m σ H,W i m σ H →
   ((Itd lo n).stop i H∧D.nx σ H)∨((Itd lo n).go i H∧∃ N:L2.St→Hp→Prop,(∀ σ' H',N σ' H'→∃ m',m'<m∧W (i+1) m' σ' H')∧∀ y H',(Itd lo n).yld i H y H'→g y σ H' fun σ2 H2=>tb { D with nx:=N,ct:=N,bk:=D.nx } σ2 H2):=by
 refine⟨fun i m σ H=>m=n - i∧i≤n∧Pv i σ H,⟨_,rfl,Zt _,h0⟩,?_⟩
 rintro i m σ H ⟨rfl,f,p⟩
 by_cases a:i<n
 ·refine .inr ⟨a,Pv (i+1),fun σ' H' b=>⟨n - (i+1),by lia,rfl,a,b⟩,fun y H' z=>?_⟩
  obtain⟨c,d⟩:=z
  rw[c,d]
  exact hs i σ H a p
 ·have e:i=n:=by lia
  subst e
  exact .inl ⟨Zd _,hd σ H p⟩
section
variable {X:Cx}
theorem kit_ll (K:PySem.W.Frag):PySem.W.kitOne K (.type "list") (.type "list")=some true:=rfl
theorem call_isLst:Dd X (.builtin "isinstance") (fun xs H Q=>∃ a ys,xs=[.ref a,.ty "list"]∧SqL X.K H a ys∧Q (.bl true) H):=by
 intro c s σ H xs m Q I r h
 obtain⟨a,ys,rfl,k,q⟩:=h
 obtain⟨u,j,rfl,e,f⟩:=vals2 r
 cases (show j=Value.type "list" from f)
 cases (show u=Value.ref a from e)
 obtain⟨l,n,i,p⟩:=I.list k
 obtain⟨o,b,d,_⟩:=i.isList
 exact Za5 PySem.W.kitx_list I.kIn ⟨o,b,d⟩ (kit_ll _) (fun z=>nomatch z) fun g=>⟨.bl true,H,I.tok g,rfl,q⟩
end
open PySem.SeqAt PySem.MeetsSeq PySem.MeetsSeq2 PySem.MeetsSeq3
open PySem.AutoSeq1 (wpAny_loadPart')
theorem gt_loop (l b:Addr)(its its2:Array Value)(n n2:Nat)(ns ms:List Int)(hi:IntsAre its.toList ns)(hj:IntsAre its2.toList ms)(k:Nat) :
  ∀ i:Nat,its.size - i=k→Meets (Builtin.«list.__eq__.loop» ⟨[.ref l,.ref b,rawInt i,rawInt 4],[]⟩)
   (fun _ R s=>s.heap.get? l=some { cls:=.type "list", data:=.seq its n }∧s.heap.get? b=some { cls:=.type "list", data:=.seq its2 n2 }∧∀ c,R (.ok (.ret (.bool c))) s):=by
 induction k with
 | zero =>
  intro i F f w A R s h
  obtain⟨y,g,d,x,v⟩:=s;obtain⟨o,m,h⟩:=h
  wp_walk using wpAny_loadPart' o,wpAny_loadPart' m
  have j:its[((i:Nat):Int).toNat]?=none:=by simp;lia
  rw[j]
  wp_walk using wpAny_loadPart' o,wpAny_loadPart' m
  exact h _
 | succ k I =>
  intro i F f w A R s h
  obtain⟨y,g,d,x,v⟩:=s;obtain⟨o,m,h⟩:=h
  wp_walk using wpAny_loadPart' o,wpAny_loadPart' m
  have B:i<its.size:=by lia
  have j:its[((i:Nat):Int).toNat]?=some its[i]:=by simp[B]
  obtain⟨a,t,C⟩:∃ a t,its[i] = .int a t:=by
   obtain⟨a,t,e,_⟩:=hi.at i its[i] (by simp[B])
   exact⟨a,t,e⟩
  by_cases r:i<its2.size
  ·have p:its2[((i:Nat):Int).toNat]?=some its2[i]:=by simp[r]
   obtain⟨c,u,z⟩:∃ a t,its2[i] = .int a t:=by
    obtain⟨a,t,e,_⟩:=hj.at i its2[i] (by simp[r])
    exact⟨a,t,e⟩
   have G:((i:Int)+1)=((i+1:Nat):Int):=by push_cast;rfl
   rw[j,p,C,z]
   obtain⟨e,H,J⟩:=HT.eqAt_int A.in1 ⟨y,g,d,x,v⟩ a t c u
   refine Zb (H f w _ _ ?_)
   cases e with
   | true =>
    wp_walk
    rw[G]
    exact⟨Zcf plain_eq_loop _,Zb9 entry_eq_loop (by
     rw[Zbe plain_eq_loop _]
     exact I (i+1) (by lia) f w A R _ ⟨o,m,h⟩)⟩
   | false =>
    have D:∀ (E:Value→Shared→Prop) (Q:Value→Shared→Prop),Q (.bool (decide (c<a))) ⟨y,g,d,x,v⟩→wpAny (model f w) A.in1 (richCompare .Gt (.int a t) (.int c u)) Q E ⟨y,g,d,x,v⟩:=fun E Q q=>(PyProof.Rows.gt_int q:wpAny (model f w) A.in1 (compareOp .Gt (.int a t) (.int c u)) Q E _)
    wp_walk using wpAny_loadPart' o,wpAny_loadPart' m
    rw[j,p,C,z]
    wp_walk using D
    exact h _
  ·have p:its2[((i:Nat):Int).toNat]?=none:=by simp;lia
   rw[j,p]
   wp_walk using wpAny_loadPart' o,wpAny_loadPart' m
   exact h _
theorem list_gt (l b:Addr)(its its2:Array Value)(n n2:Nat)(ns ms:List Int)(hi:IntsAre its.toList ns)(hj:IntsAre its2.toList ms) :
  Meets (Builtin.«list.__gt__» ⟨[.ref l,.ref b],[]⟩)
   (fun _ R s=>s.heap.get? l=some { cls:=.type "list", data:=.seq its n }∧s.heap.get? b=some { cls:=.type "list", data:=.seq its2 n2 }∧∀ c,R (.ok (.ret (.bool c))) s):=by
 intro a w A R s h
 obtain⟨j,g,d,i,m⟩:=s;obtain⟨f,e,h⟩:=h
 have k:=AutoSeq1.sub_list_list
 wp_walk using wpAny_loadPart' f,wpAny_loadPart' e
 exact⟨Zcf plain_eq_loop _,Zb9 entry_eq_loop (by
  rw[Zbe plain_eq_loop _]
  exact gt_loop l b its its2 n n2 ns ms hi hj _ 0 rfl a w A R _ ⟨f,e,h⟩)⟩
theorem ints_of:∀ {ns:List Int} {its:List Value},Bi (ns.map V.int) its→IntsAre its ns
 | [],_,r=>by cases r;exact .nil
 | n::ns,_,r=>by
  cases r with
  | cons h t =>
   obtain⟨tk,rfl⟩:=(show ∃ t,_=Value.int n t from h)
   exact .cons n tk (ints_of t)
section
variable {X:Cx}
inductive rGtL (x y:V) (H:Hp) (Q:VK):Prop
 | mk (l b:Addr) (ns ms:List Int) (_:x = .ref l) (_:y = .ref b) (_:H l=some (.lst (ns.map V.int))) (_:H b=some (.lst (ms.map V.int))) (_:∀ c,Q (.bl c) H)
theorem op_gtL (hu:X.A.units<cLine):OpR X (compareOp .Gt) rGtL:=by
 intro g s σ H x y v u Q I k m h
 obtain⟨l,b,o,w,rfl,rfl,t,p,q⟩:=h
 cases k
 cases m
 obtain⟨z,d,n,r,_,e⟩:=I.lstM t
 obtain⟨B,a,i,j,_,f⟩:=I.lstM p
 exact richCompare_meets_room (op:=.Gt) ⟨_,e,rfl⟩ ⟨_,f,rfl⟩ PySem.F.slot_list_gt PySem.F.entry_list_gt (PySem.F.args_list_gt_2 _ _) (list_gt l b d.toArray a.toArray n i o w (ints_of r) (ints_of j))
  ⟨e,f,fun c=>⟨(fun x=>nomatch x),.bl c,H,I,rfl,q c⟩⟩ hu
theorem call_minL (hc:X.calm=true):Dd X (.builtin "min") (fun xs H Q=>∃ (l:Addr) (ns:List Int),xs=[.ref l]∧SqL X.K H l (ns.map V.int)∧0<ns.length∧∀ m∈ns,Q (.int m) H):=by
 intro n s σ H xs S Q I r h
 obtain⟨l,ns,rfl,M,y,q⟩:=h
 obtain⟨u,rfl,R⟩:=Cs r
 cases R
 obtain⟨a,d,p,Y⟩:=I.list M
 have N:X.A.handled=none:=I.ok.hd hc
 have C:ns.length=a.length:=by rw[← d.length,Zl]
 obtain⟨ol,x,_⟩:=id p.isList
 have g:l<s.heap.objs.size:=Zo x
 have J:l≠s.heap.objs.size:=Z5 g
 refine call_min_walk (Zbx p.isList ?_)
 refine⟨s.heap.objs.size,_,_,_,_,_,fun i j=>decide (ns.getD i 0<ns.getD j 0),rfl,Walks.list (A:=X.A.in1) N s.heap.objs.size l J a.toArray,⟨⟨_,Zn _ rfl,rfl,rfl⟩,p.isList.at fun o e=>Zc _ e⟩,fun b c=>?_,by rw[Zh,← C];exact y,?_,fun v P z w D=>?_⟩
 ·show b<(s.heap.push _).objs.size
  rw[Za1]
  rcases Zr.mp c with rfl | c
  ·exact Zbk _
  ·rw[Zg.mp c];exact Zb6 g
 ·intro i j vi W T Q' E' O E F
  obtain⟨U,rfl⟩:=C8 d O
  obtain⟨Z,rfl⟩:=C8 d E
  exact lt_int F
 ·have G : Inv X n σ H { s with heap:=P,toks:=z }:=I.kept (t':=z) fun b o e=>D b o (by simpa using Z5 (Zo e)) (Zc _ e)
  generalize c:argBest (fun i j=>decide (ns.getD i 0<ns.getD j 0)) (a.toArray.size - 1)=k at w
  have B:k≤a.toArray.size - 1:=by rw[← c];exact Jd _ _
  have f:k<ns.length:=by rw[Zh] at B;lia
  obtain⟨t,L⟩:=C8 d w
  refine⟨.int (ns.getD k 0),H,G,⟨t,L⟩,q _ ?_⟩
  rw[Z4,Zi f]
  exact Zc0 f
inductive rIn1 (K:PySem.W.Frag) (n:Nat) (x y:V) (H:Hp) (Q:VK):Prop
 | mk (p m d e:_) (_:y = .ref p) (_:SqL K H p [m]) (_:DvR K H d x) (_:DvR K H e m) (_:e.dp≤n) (_:Q (.bl (dq e d)) H)
theorem op_in1 {n:Nat}(hu:X.A.units+2 * n+4<cLine):OpR X (compareOp .In) (rIn1 X.K n):=by
 intro b s σ H x y v u Q I g k h
 obtain⟨p,m,d,e,rfl,o,f,c,l,q⟩:=h
 cases k
 obtain⟨B,r,t,D⟩:=I.list o
 obtain⟨z,rfl,i⟩:=Cs r
 refine SeqAt.in_listAt (fun _=>dq e d) t.isList (fun w j=>?_) ⟨.bl _,H,I,rfl,?_⟩
 ·have a : w=z:=by simpa using j
  subst a
  exact eq_dv I n X.A.in1 e d m x w v l (by have C:X.A.in1.units=X.A.units+1:=rfl;lia) c f i g
 ·simpa using q
end
def lt1:Key→Key→Bool
 | .inl i,.inl j=>decide (i<j)
 | .inr x,.inr y=>decide (x.cps.toList<y.cps.toList)
 | _,_=>false
def kindK:Key→Key→Prop
 | .inl _,.inl _=>True
 | .inr _,.inr _=>True
 | _,_=>False
def lexK:List Key→List Key→Bool
 | [],[]=>false
 | [],_::_=>true
 | _::_,[]=>false
 | x::xs,y::ys=>if x=y then lexK xs ys else lt1 x y
def cmpK:List Key→List Key→Prop
 | x::xs,y::ys=>(x=y→cmpK xs ys)∧(¬ x=y→kindK x y)
 | _,_=>True
theorem eqAt_key (rx:Bl (kV x) u)(ry:Bl (kV y) v):∃ e,SeqAt.EqAt A s u v e∧(e=true↔x=y):=by
 cases x with
 | inl i =>
  obtain⟨t,rfl⟩:=(show ∃ t,u=Value.int i t from rx)
  cases y with
  | inl j =>
   obtain⟨a,rfl⟩:=(show ∃ t,v=Value.int j t from ry)
   exact⟨(i == j),SeqAt.EqAt.int_int i t j a,by simp⟩
  | inr z =>
   obtain⟨a,rfl⟩:=(show ∃ t,v=Value.str z t from ry)
   exact⟨false,SeqAt.EqAt.int_str i t z a,by simp⟩
 | inr q =>
  obtain⟨t,rfl⟩:=(show ∃ t,u=Value.str q t from rx)
  cases y with
  | inl j =>
   obtain⟨a,rfl⟩:=(show ∃ t,v=Value.int j t from ry)
   exact⟨false,SeqAt.EqAt.str_int q t j a,by simp⟩
  | inr z =>
   obtain⟨a,rfl⟩:=(show ∃ t,v=Value.str z t from ry)
   exact⟨(q == z),Zc4 q t z a,by simp⟩
theorem rcLt_key (rx:Bl (kV x) u)(ry:Bl (kV y) v)(hk:kindK x y)(prog:Program)(w:World)(E:Value→Shared→Prop)(Q:Value→Shared→Prop)(h:Q (.bool (lt1 x y)) s) :
  wpAny (model prog w) A (richCompare .Lt u v) Q E s:=by
 cases x with
 | inl i =>
  obtain⟨t,rfl⟩:=(show ∃ t,u=Value.int i t from rx)
  cases y with
  | inl j =>
   obtain⟨a,rfl⟩:=(show ∃ t,v=Value.int j t from ry)
   exact (PyProof.Rows.lt_int h:wpAny (model prog w) A (compareOp .Lt _ _) Q E s)
  | inr z=>exact hk.elim
 | inr q =>
  obtain⟨t,rfl⟩:=(show ∃ t,u=Value.str q t from rx)
  cases y with
  | inl j=>exact hk.elim
  | inr z =>
   obtain⟨a,rfl⟩:=(show ∃ t,v=Value.str z t from ry)
   exact (PyProof.Rows.lt_str h:wpAny (model prog w) A (compareOp .Lt _ _) Q E s)
def RcLt (A:Around)(s:Shared)(x y:Value)(b:Bool):Prop:=∀ (prog:Program) (w:World) (E:Value→Shared→Prop) (Q:Value→Shared→Prop),Q (.bool b) s→wpAny (model prog w) A (richCompare .Lt x y) Q E s
inductive LexAt (A:Around) (s:Shared) (fin:Bool):List (Value×Value)→Bool→Prop
 | nil:LexAt A s fin [] fin
 | eq {x y:Value} {r:List (Value×Value)} {b:Bool}:SeqAt.EqAt A s x y true→LexAt A s fin r b→LexAt A s fin ((x,y)::r) b
 | lt {x y:Value} {r:List (Value×Value)} {b:Bool}:SeqAt.EqAt A s x y false→RcLt A s x y b→LexAt A s fin ((x,y)::r) b
section
open PySem.SeqAt
open PySem.AutoSeq1 (wpAny_loadPart')
open PySem.MeetsSeq PySem.MeetsSeq2 PySem.MeetsSeq3
theorem Ft (l b:Addr)(items items2:Array Value)(n n2:Nat)(dd dd2:Option Addr)(sl sl2:Array (Option Value))(c:Bool) :
  Meets (Builtin.«tuple.__lt__» ⟨[.ref l,.ref b],[]⟩)
   (fun A R s=>s.heap.get? l=some { cls:=.type "tuple", dict:=dd,data:=.seq items n,slots:=sl }∧s.heap.get? b=some { cls:=.type "tuple", dict:=dd2,data:=.seq items2 n2,slots:=sl2 } ∧
    LexAt A.in1 s (decide (items.size<items2.size)) (items.toList.zip items2.toList) c∧R (.ok (.ret (.bool c))) s) :=
 .of_wp fun a w A R s h=>by
  obtain⟨k,g,d,j,i⟩:=s;obtain⟨z,u,v,h⟩:=h
  have D:=AutoSeq1.sub_tuple_tuple
  wp_walk using wpAny_loadPart' z,wpAny_loadPart' u,Zdg _ (fun e b m=>b.1=none∧m=⟨k,g,d,j,i⟩∧LexAt A.in1 ⟨k,g,d,j,i⟩ (decide (items.size<items2.size)) e c) _
  case turn =>
   rintro⟨y,x⟩ e b m ⟨f,rfl,o⟩
   cases o with
   | eq p t =>
    refine Zb (p a w _ _ ?_)
    wp_walk
    exact⟨rfl,rfl,t⟩
   | lt p q =>
    have r:∀ (E:Value→Shared→Prop) (Q:Value→Shared→Prop),Q (.bool c) ⟨k,g,d,j,i⟩→wpAny (model a w) A.in1 (richCompare .Lt y x) Q E ⟨k,g,d,j,i⟩:=q a w
    refine Zb (p a w _ _ ?_)
    wp_walk using r
    exact⟨_,rfl,by simpa using h⟩
  case fin =>
   rintro⟨C,B⟩ m ⟨f,rfl,o⟩
   simp only at f
   subst f
   cases o
   wp_walk
   exact⟨_,rfl,by simpa [Builtin.Tuple.tupleCompareSizes] using h⟩
  case h=>exact⟨rfl,rfl,v⟩
end
theorem Iq {fin:Bool}:∀ {ns ms:List Key} {its its2:List Value},Bi (ns.map kV) its→Bi (ms.map kV) its2→cmpK ns ms→fin=decide (ns.length<ms.length)→LexAt A s fin (its.zip its2) (lexK ns ms)
 | [],[],_,_,.nil,.nil,_,hf=>by
  have e:fin=false:=hf
  subst e
  exact .nil
 | [],_::_,_,_,.nil,.cons _ _,_,hf=>by
  have e:fin=true:=hf.trans (Z2 (Nat.succ_pos _))
  subst e
  exact .nil
 | _::_,[],_,_,.cons _ _,.nil,_,hf=>by
  have e:fin=false:=hf
  subst e
  exact .nil
 | x::ns,y::ms,_,_,.cons rx hi,.cons ry hj,hc,hf=>by
  obtain⟨e,he,hiff⟩:=eqAt_key (A:=A) (s:=s) rx ry
  rw[lexK]
  by_cases q:x=y
  ·rw[Zw q]
   rw[hiff.mpr q] at he
   exact .eq he (Iq hi hj (hc.1 q) (hf.trans (decide_eq_decide.mpr Nat.succ_lt_succ_iff)))
  ·rw[Zs q]
   cases e with
   | true=>exact absurd (hiff.mp rfl) q
   | false=>exact .lt he fun prog w E Q h=>rcLt_key rx ry (hc.2 q) prog w E Q h
section
variable {X:Cx}
inductive rLtK (K:PySem.W.Frag) (x y:V) (H:Hp) (Q:VK):Prop
 | mk (l b:Addr) (ns ms:List Key) (_:x = .ref l) (_:y = .ref b) (_:SqT K H l (ns.map kV)) (_:SqT K H b (ms.map kV)) (_:cmpK ns ms) (_:Q (.bl (lexK ns ms)) H)
theorem op_ltK (hu:X.A.units<cLine):OpR X (compareOp .Lt) (rLtK X.K):=by
 intro z s σ H x y v u Q I C L h
 obtain⟨l,b,M,R,rfl,rfl,P,N,w,q⟩:=h
 cases C
 cases L
 obtain⟨o,r,p,_⟩:=I.tuple P
 obtain⟨f,g,G,_⟩:=I.tuple N
 obtain⟨⟨S,D,E,J⟩,j,c,n,k⟩:=id p
 obtain⟨⟨O,m,t,i⟩,d,a,B,e⟩:=id G
 simp only at c k a e
 subst c k a e
 exact richCompare_meets_room (op:=.Lt) ⟨_,j,rfl⟩ ⟨_,d,rfl⟩ PySem.F.slot_tuple_lt PySem.F.entry_tuple_lt (PySem.F.args_tuple_lt_2 _ _) (Ft l b o.toArray f.toArray n B D m J i (lexK M R))
  ⟨j,d,Iq r g w (by rw[Zh,Zh,← r.length,← g.length,Zl,Zl]),(fun x=>nomatch x),.bl _,H,I,rfl,q⟩ hu
inductive rInsert (x:V) (vs:List V) (H:Hp) (Q:VK):Prop
 | mk (l:Addr) (xs:List V) (i:Nat) (y:V) (_:x = .ref l) (_:vs=[.int i,y]) (_:H l=some (.lst xs)) (_:i≤xs.length) (_:xs.length<sizeLine) (_:Q .non (upd H l (.lst (xs.take i++y::xs.drop i))))
theorem mt_insert:MtM X "list.insert" rInsert:=by
 intro w s σ H x L v K Q I D C h
 obtain⟨l,E,i,y,rfl,rfl,k,O,o,q⟩:=h
 cases D
 obtain⟨u,d,rfl,J,m⟩:=vals2 C
 obtain⟨t,rfl⟩:=(show ∃ t,u=Value.int (i:Nat) t from J)
 obtain⟨z,a,n,r,G,e⟩:=I.lstM k
 have c:a.toArray.size≤sizeLine:=by rw[Zh,← G];exact z
 have g:sizeLine=16777216:=sizeLine_eq
 have b:¬ (!Builtin.List.listFitsIndex ((i:Nat):Int))=true:=by
  have p:((2:Int) ^ 63)=9223372036854775808:=by decide
  have N:E.length<16777216:=by rw[← g];exact o
  clear g o z c
  have f:Builtin.List.listFitsIndex ((i:Nat):Int)=true:=fitsIndex_both (by rw[p];lia) (by rw[p];lia)
  rw[f]
  decide
 generalize j:((i:Nat):Int)=B at b ⊢
 have M:=PySem.AutoListH.list_insert_list_int_val_1 l a.toArray n B t d b c
 refine Zdk PySem.F.slot_list_insert ⟨_,e,rfl⟩ PySem.F.entry_list_insert (PySem.F.args_list_insert_3 _ _ _) M ⟨e,?_⟩
 subst j
 have A:(if ((i:Nat):Int)<0 then (((i:Nat):Int)+(a.toArray.size:Nat)).toNat else min ((i:Nat):Int).toNat a.toArray.size)=i:=by
  rw[Zs (by lia),Zh]
  lia
 refine⟨.non,_,I.lset (its':=a.take i++d::a.drop i) k e ?_ ?_ ?_,rfl,q⟩
 ·show ((a.toArray.extract 0 _).push d++a.toArray.extract _)=_
  rw[A,← Array.toList_inj]
  simp only[Zae,Zbq,Zbf,Zh]
  rw[Zau,Zau,List.drop_zero,Nat.sub_zero,Zcc (l:=a.drop i) (by rw[Zbl];exact Zd _),Zb5]
  rfl
 ·exact (r.take i).append (.cons m (r.drop i))
 ·rw[Zv,Zab,Z6,Zbl]
  lia
end
end
end My
namespace My
noncomputable section
open PySem
def sL (x y:Str):Bool:=decide (x.cps.toList<y.cps.toList)
theorem str_ext {x y:Str}(h:x.cps.toList=y.cps.toList):x=y:=by
 cases x with | mk a=>cases y with | mk b=>exact congrArg Str.mk (Array.toList_inj.mp h)
theorem Db (x:Str):sL x x=false:=Z9 (List.lt_irrefl _)
theorem Jb {x y z:Str}(h:sL x y=true)(g:sL y z=true):sL x z=true:=Z2 (List.lt_trans (Zaf h) (Zaf g))
theorem sL_total {x y:Str}(h:¬ x=y):sL x y=true∨sL y x=true:=by
 by_cases b:x.cps.toList<y.cps.toList
 ·exact .inl (Z2 b)
 ·right
  refine Z2 ?_
  have c:y.cps.toList≤x.cps.toList:=List.not_lt.mp b
  rcases List.le_iff_lt_or_eq.mp c with a | a
  ·exact a
  ·exact absurd (str_ext a.symm) h
def Jn.wc:Jn→Nat
 | .and=>0
 | .if_=>1
 | .or=>5
def Sg.wc:Sg→Nat
 | .lt _=>2
 | .no=>3
 | .not _=>4
 | .shown _=>6
 | .bin j _ _=>j.wc
def Sg.ord:Sg→Sg→Bool
 | .lt x,.lt y=>sL x y
 | .not a,.not b=>a.ord b
 | .shown a,.shown b=>a.ord b
 | .bin j a b,.bin k c d=>if j=k then (if a=c then b.ord d else a.ord c) else decide (j.wc<k.wc)
 | s,t=>decide (s.wc<t.wc)
theorem jc_inj {j k:Jn}(e:j.wc=k.wc):j=k:=by
 cases j <;> cases k <;> first | rfl | cases e
theorem Dp {s t:Sg}(h:¬ s.wc=t.wc):s.ord t=decide (s.wc<t.wc):=by
 cases s <;> cases t <;> first
  | rfl
  | exact absurd rfl h
  | skip
 rename_i j a b k c d
 rw[Sg.ord,Zs (fun e=>h (by rw[e];rfl))]
 rfl
inductive Sw:Sg→Sg→Prop
 | no:Sw .no .no
 | lt (x y:Str):Sw (.lt x) (.lt y)
 | not (a b:Sg):Sw (.not a) (.not b)
 | shown (a b:Sg):Sw (.shown a) (.shown b)
 | bin (j:Jn) (a b c d:Sg):Sw (.bin j a b) (.bin j c d)
theorem sw_of {s t:Sg}(h:s.wc=t.wc):Sw s t:=by
 cases s with
 | no=>cases t with
  | no=>exact .no
  | bin j a b=>cases j <;> cases h
  | _=>cases h
 | lt x=>cases t with
  | lt y=>exact .lt x y
  | bin j a b=>cases j <;> cases h
  | _=>cases h
 | not a=>cases t with
  | not b=>exact .not a b
  | bin j a b=>cases j <;> cases h
  | _=>cases h
 | shown a=>cases t with
  | shown b=>exact .shown a b
  | bin j a b=>cases j <;> cases h
  | _=>cases h
 | bin j a b=>cases t with
  | bin k c d=>rw[jc_inj (show j.wc=k.wc from h)];exact .bin k a b c d
  | _=>cases j <;> cases h
theorem same_wc {s t:Sg}(h:s.wc=t.wc):(s = .no∧t = .no)∨(∃ x y,s = .lt x∧t = .lt y)∨(∃ a b,s = .not a∧t = .not b)∨(∃ a b,s = .shown a∧t = .shown b)∨∃ j a b c d,s = .bin j a b∧t = .bin j c d:=by
 cases sw_of h with
 | no=>exact .inl ⟨rfl,rfl⟩
 | lt x y=>exact .inr (.inl ⟨_,_,rfl,rfl⟩)
 | not a b=>exact .inr (.inr (.inl ⟨_,_,rfl,rfl⟩))
 | shown a b=>exact .inr (.inr (.inr (.inl ⟨_,_,rfl,rfl⟩)))
 | bin j a b c d=>exact .inr (.inr (.inr (.inr ⟨_,_,_,_,_,rfl,rfl⟩)))
theorem Eu {s t:Sg}(h:¬ s.wc=t.wc):s.ord t=true∨t.ord s=true:=by
 rw[Dp h,Dp (fun e=>h e.symm)]
 rcases Nat.lt_or_gt_of_ne h with h | h
 ·exact .inl (Z2 h)
 ·exact .inr (Z2 h)
theorem A9:∀ s:Sg,s.ord s=false
 | .no=>rfl
 | .lt x=>Db x
 | .not a=>A9 a
 | .shown a=>A9 a
 | .bin j a b=>by rw[Sg.ord,Zw rfl,Zw rfl];exact A9 b
theorem ord_total:∀ s t:Sg,¬ s=t→s.ord t=true∨t.ord s=true:=by
 intro s
 induction s with
 | no=>exact fun t h=>if f:Sg.wc .no=t.wc then (by cases sw_of f;exact absurd rfl h) else Eu f
 | lt x=>exact fun t h=>if f:Sg.wc (.lt x)=t.wc then (by cases sw_of f;exact sL_total fun e=>h (by rw[e])) else Eu f
 | not a i=>exact fun t h=>if f:Sg.wc (.not a)=t.wc then (by cases sw_of f;exact i _ fun e=>h (by rw[e])) else Eu f
 | shown a i=>exact fun t h=>if f:Sg.wc (.shown a)=t.wc then (by cases sw_of f;exact i _ fun e=>h (by rw[e])) else Eu f
 | bin j a b k l =>
  intro t h
  by_cases f:Sg.wc (.bin j a b)=t.wc
  ·cases sw_of f with
   | bin _ _ _ c d =>
    rw[Sg.ord,Sg.ord,Zw rfl,Zw rfl]
    by_cases g:a=c
    ·subst g
     rw[Zw rfl,Zw rfl]
     exact l d fun e=>h (by rw[e])
    ·rw[Zs g,Zs (fun e=>g e.symm)]
     exact k c g
  ·exact Eu f
theorem ord_near {s t u:Sg}(hw:s.wc=t.wc)(hu:¬ t.wc=u.wc)(g:t.ord u=true):s.ord u=true:=by
 rw[Dp hu] at g
 rw[Dp (by rw[hw];exact hu),hw]
 exact g
theorem ord_far {s t u:Sg}(hw:¬ s.wc=t.wc)(h:s.ord t=true)(g:t.ord u=true):s.ord u=true:=by
 rw[Dp hw] at h
 have c:=Zaf h
 by_cases a:t.wc=u.wc
 ·rw[Dp (by rw[← a];exact hw),← a]
  exact h
 ·rw[Dp a] at g
  have b:=Zaf g
  rw[Dp (by lia)]
  exact Z2 (by lia)
theorem ord_by {s t u:Sg}(h:s.ord t=true)(g:t.ord u=true)(k:Sw s t→Sw t u→s.ord u=true):s.ord u=true :=
 if hw:s.wc=t.wc then (if hu:t.wc=u.wc then k (sw_of hw) (sw_of hu) else ord_near hw hu g) else ord_far hw h g
theorem E7:∀ s t u:Sg,s.ord t=true→t.ord u=true→s.ord u=true:=by
 intro s
 induction s with
 | no=>exact fun t u h g=>ord_by h g fun p r=>by cases p;rw[A9] at h;cases h
 | lt x=>exact fun t u h g=>ord_by h g fun p r=>by cases p;cases r;exact Jb h g
 | not a l=>exact fun t u h g=>ord_by h g fun p r=>by cases p;cases r;exact l _ _ h g
 | shown a l=>exact fun t u h g=>ord_by h g fun p r=>by cases p;cases r;exact l _ _ h g
 | bin j a b m n =>
  refine fun t u h g=>ord_by h g fun p r=>?_
  cases p with
  | bin _ _ _ c d =>
   cases r with
   | bin _ _ _ i q =>
    rw[Sg.ord,Zw rfl] at h g ⊢
    by_cases k:a=c
    ·subst k
     rw[Zw rfl] at h
     by_cases e:a=i
     ·subst e
      rw[Zw rfl] at g ⊢
      exact n d q h g
     ·rw[Zs e] at g ⊢
      exact g
    ·rw[Zs k] at h
     by_cases e:c=i
     ·subst e
      rw[Zs k]
      exact h
     ·rw[Zs e] at g
      have f:=m c i h g
      by_cases o:a=i
      ·subst o
       rw[A9] at f
       cases f
      ·rw[Zs o]
       exact f
end
end My
namespace My
noncomputable section
open PySem PySem.Spec PyProof.Rows L2
def wds:List Str:=["and","if","letter","no","not","or","shown"]
theorem wds_at (s:Sg):wds[s.wc]?=some s.word:=by
 cases s with
 | bin j a b=>cases j <;> rfl
 | _=>rfl
theorem wds_lt:∀ i<7,∀ j<7,sL (wds.getD i Str.empty) (wds.getD j Str.empty)=decide (i<j):=by decide +kernel
theorem wc_lt (s:Sg):s.wc<7:=by
 cases s with
 | bin j a b=>cases j <;> exact Za rfl
 | _=>exact Za rfl
theorem Hi (s t:Sg):sL s.word t.word=decide (s.wc<t.wc):=by
 have h:=wds_lt s.wc (wc_lt s) t.wc (wc_lt t)
 rw[Z4,Z4,wds_at,wds_at] at h
 exact h
theorem Jp {s t:Sg}(h:s.word=t.word):s.wc=t.wc:=by
 have a:=Hi s t
 have b:=Hi t s
 rw[h,Db] at a b
 have a:=Zcg a.symm
 have b:=Zcg b.symm
 lia
theorem Hn {s t:Sg}(h:s.wc=t.wc):s.word=t.word:=by
 have a:=wds_at s
 rw[h,wds_at t] at a
 exact (Zm a).symm
def Mono (rk:Sg→Int)(S:List Sg):Prop:=∀ a∈S,∀ b∈S,a.ord b=true→rk a<rk b
theorem Mono.le {rk:Sg→Int}(h:Mono rk S){a b:Sg}(ha:a∈S)(hb:b∈S)(e:a.ord b=false):rk b≤rk a:=by
 by_cases q:a=b
 ·rw[q];exact Int.le_refl _
 ·rcases ord_total a b q with c | c
  ·rw[e] at c;cases c
  ·exact Int.le_of_lt (h b hb a ha c)
theorem Mono.inj {rk:Sg→Int}(h:Mono rk S)(ha:a∈S)(hb:b∈S)(e:rk a=rk b):a=b:=by
 by_cases q:a=b
 ·exact q
 ·rcases ord_total a b q with c | c
  ·have:=h a ha b hb c;lia
  ·have:=h b hb a ha c;lia
theorem Mono.lt {rk:Sg→Int}(h:Mono rk S){a b:Sg}(ha:a∈S)(hb:b∈S):decide (rk a<rk b)=a.ord b:=by
 cases e:a.ord b with
 | true=>exact Z2 (h a ha b hb e)
 | false=>exact Z9 (by have:=h.le ha hb e;lia)
def keyT (rk:Sg→Int):Sg→List Key
 | .no=>[]
 | .lt x=>[Sum.inr x]
 | .not a=>[Sum.inl (rk a)]
 | .shown a=>[Sum.inl (rk a)]
 | .bin _ a b=>[Sum.inl (rk a),Sum.inl (rk b)]
def keyR (rk:Sg→Int)(s:Sg):List Key:=Sum.inr s.word::keyT rk s
theorem lex1 {rk:Sg→Int}(h:Mono rk S){a b:Sg}(ha:a∈S)(hb:b∈S)(xs ys:List Key):lexK (Sum.inl (rk a)::xs) (Sum.inl (rk b)::ys)=if a=b then lexK xs ys else a.ord b:=by
 rw[lexK]
 by_cases q:a=b
 ·rw[Zw q,Zw (by rw[q])]
 ·rw[Zs q,Zs (fun e=>q (h.inj ha hb (Sum.inl.inj e)))]
  exact h.lt ha hb
theorem lex_key {rk:Sg→Int}(h:Mono rk S){s t:Sg}(hs:∀ a∈s.inner,a∈S)(ht:∀ a∈t.inner,a∈S):lexK (keyR rk s) (keyR rk t)=s.ord t:=by
 unfold keyR
 rw[lexK]
 by_cases f:s.wc=t.wc
 ·rw[Zw (congrArg Sum.inr (Hn f))]
  rcases same_wc f with ⟨rfl,rfl⟩ | ⟨x,y,rfl,rfl⟩ | ⟨a,b,rfl,rfl⟩ | ⟨a,b,rfl,rfl⟩ | ⟨j,a,b,c,d,rfl,rfl⟩
  ·rfl
  ·show lexK [Sum.inr x] [Sum.inr y]=sL x y
   rw[lexK]
   by_cases q:x=y
   ·rw[Zw (by rw[q]),q,Db];rfl
   ·rw[Zs (fun e=>q (Sum.inr.inj e))];rfl
  ·show lexK [Sum.inl (rk a)] [Sum.inl (rk b)]=a.ord b
   rw[lex1 h (hs a (by simp[Sg.inner])) (ht b (by simp[Sg.inner]))]
   by_cases q:a=b
   ·rw[Zw q,q,A9];rfl
   ·rw[Zs q]
  ·show lexK [Sum.inl (rk a)] [Sum.inl (rk b)]=a.ord b
   rw[lex1 h (hs a (by simp[Sg.inner])) (ht b (by simp[Sg.inner]))]
   by_cases q:a=b
   ·rw[Zw q,q,A9];rfl
   ·rw[Zs q]
  ·show lexK [Sum.inl (rk a),Sum.inl (rk b)] [Sum.inl (rk c),Sum.inl (rk d)]=_
   rw[lex1 h (hs a (by simp[Sg.inner])) (ht c (by simp[Sg.inner])),lex1 h (hs b (by simp[Sg.inner])) (ht d (by simp[Sg.inner])),Sg.ord,Zw rfl]
   by_cases q:a=c
   ·rw[Zw q,Zw q]
    by_cases g:b=d
    ·rw[Zw g,g,A9];rfl
    ·rw[Zs g]
   ·rw[Zs q,Zs q]
 ·rw[Zs (fun e=>f (Jp (Sum.inr.inj e))),Dp f]
  exact Hi s t
theorem cmp_key {rk:Sg→Int}:cmpK (keyR rk s) (keyR rk t):=by
 refine⟨fun e=>?_,fun _=>trivial⟩
 have f:=Jp (Sum.inr.inj e)
 rcases same_wc f with ⟨rfl,rfl⟩ | ⟨x,y,rfl,rfl⟩ | ⟨a,b,rfl,rfl⟩ | ⟨a,b,rfl,rfl⟩ | ⟨j,a,b,c,d,rfl,rfl⟩
 ·trivial
 ·exact⟨fun _=>trivial,fun _=>trivial⟩
 ·exact⟨fun _=>trivial,fun _=>trivial⟩
 ·exact⟨fun _=>trivial,fun _=>trivial⟩
 ·exact⟨fun _=>⟨fun _=>trivial,fun _=>trivial⟩,fun _=>trivial⟩
abbrev Srt (os:List Sg):Prop:=os.Pairwise fun a b=>a.ord b=true
theorem Gg {a b:Sg}(h:a.ord b=true):b.ord a=false:=by
 cases e:b.ord a with
 | false=>rfl
 | true=>have:=E7 a b a h e;rw[A9] at this;cases this
theorem Hu:∀ {xs ys:List Sg},Srt xs→Srt ys→(∀ t,t∈xs↔t∈ys)→xs=ys
 | [],[],_,_,_=>rfl
 | [],y::_,_,_,h=>by have:=(h y).mpr (Z0 ..);cases this
 | x::_,[],_,_,h=>by have:=(h x).mp (Z0 ..);cases this
 | x::xs,y::ys,hx,hy,h=>by
  obtain⟨hx1,hx2⟩:=Zbh.mp hx
  obtain⟨hy1,hy2⟩:=Zbh.mp hy
  have e:x=y:=by
   rcases Zr.mp ((h x).mp (Z0 ..)) with e | e
   ·exact e
   ·rcases Zr.mp ((h y).mpr (Z0 ..)) with e' | e'
    ·exact e'.symm
    ·have h1:=hx1 y e'
     rw[Gg (hy1 x e)] at h1
     cases h1
  subst e
  have ne:∀ {l:List Sg},(∀ t∈l,x.ord t=true)→∀ t∈l,t≠x:=fun hl t ht q=>by
   have:=hl t ht
   rw[q,A9] at this
   cases this
  rw[Hu hx2 hy2 fun t=>⟨fun ht=>(Zr.mp ((h t).mp (Zz _ ht))).resolve_left (ne hx1 t ht),fun ht=>(Zr.mp ((h t).mpr (Zz _ ht))).resolve_left (ne hy1 t ht)⟩]
theorem Fy {os:List Sg}(h:Srt os){i j:Nat}{a b:Sg}(hi:os[i]?=some a)(hj:os[j]?=some b)(hl:i<j):a.ord b=true:=by
 obtain⟨c,rfl⟩:=Zj.mp hi
 obtain⟨d,rfl⟩:=Zj.mp hj
 exact Zck.mp h i j c d hl
def Bel (os:List Sg)(s:Sg)(k:Nat):Prop:=∀ i t,i<k→os[i]?=some t→t.ord s=true
def Abv (os:List Sg)(s:Sg)(k:Nat):Prop:=∀ i t,k≤i→os[i]?=some t→t.ord s=false
theorem bel_step {os:List Sg}{s t:Sg}{m:Nat}(h:Srt os)(hm:os[m]?=some t)(e:t.ord s=true):Bel os s (m+1):=fun i u b a=>by
 by_cases q:i=m
 ·subst q;rw[hm] at a;cases a;exact e
 ·exact E7 u t s (Fy h a hm (by lia)) e
theorem abv_step {os:List Sg}{s t:Sg}{m:Nat}(h:Srt os)(hm:os[m]?=some t)(e:t.ord s=false):Abv os s m:=fun i u c a=>by
 by_cases q:i=m
 ·subst q;rw[hm] at a;cases a;exact e
 ·cases b:u.ord s with
  | false=>rfl
  | true =>
   have:=E7 t u s (Fy h hm a (by lia)) b
   rw[e] at this;cases this
def insA (os:List Sg)(k:Nat)(s:Sg):List Sg:=os.take k++s::os.drop k
theorem Gw {os:List Sg}{k:Nat}{s t:Sg}:t∈insA os k s↔t∈os∨t=s:=by
 have e:t∈os↔t∈os.take k∨t∈os.drop k:=by rw[← Zaa,Zav]
 unfold insA
 rw[Zaa,Zr,e]
 constructor
 ·rintro (h | h | h)
  ·exact .inl (.inl h)
  ·exact .inr h
  ·exact .inl (.inr h)
 ·rintro ((h | h) | h)
  ·exact .inl h
  ·exact .inr (.inr h)
  ·exact .inr (.inl h)
theorem ins_len {os:List Sg}{k:Nat}:(insA os k s).length=os.length+1:=by
 unfold insA
 rw[Zv,Zab,Z6,Zbl]
 lia
theorem take_bel {os:List Sg}{k:Nat}(hb:Bel os s k):∀ t∈os.take k,t.ord s=true:=fun t ht=>by
 obtain⟨i,a⟩:=Zak.mp ht
 rw[Zc6] at a
 split at a
 ·rename_i q;exact hb i t q a
 ·cases a
theorem drop_abv {os:List Sg}{s:Sg}{k:Nat}(hn:s∉os)(ha:Abv os s k):∀ t∈os.drop k,s.ord t=true:=fun t ht=>by
 obtain⟨i,a⟩:=Zak.mp ht
 rw[List.getElem?_drop] at a
 have b:=ha (k+i) t (by lia) a
 rcases ord_total t s (fun q=>hn (by rw[← q];exact Ze a)) with h | h
 ·rw[b] at h;cases h
 ·exact h
theorem srt_ins {os:List Sg}{s:Sg}{k:Nat}(h:Srt os)(hn:s∉os)(hb:Bel os s k)(ha:Abv os s k):Srt (insA os k s):=by
 have f:=take_bel hb
 have e:=drop_abv hn ha
 rw[← Zav k os] at h
 obtain⟨i,j,g⟩:=Za4.mp h
 refine Za4.mpr ⟨i,Zbh.mpr ⟨e,j⟩,fun a d b c=>?_⟩
 rcases Zr.mp c with rfl | c
 ·exact f a d
 ·exact g a d b c
def rkA (rk:Sg→Int)(s:Sg)(r:Int):Sg→Int:=fun t=>if t=s then r else rk t
theorem rkA_mono {rk:Sg→Int}{os:List Sg}{k:Nat}{r:Int}(M:Mono rk os)(h:Srt os)(hn:s∉os)(hk:k≤os.length)(hb:Bel os s k)(ha:Abv os s k)(hlo:∀ t,0<k→os[k - 1]?=some t→rk t<r)(hhi:∀ t,os[k]?=some t→r<rk t):Mono (rkA rk s r) (insA os k s):=by
 have p:∀ b∈os,b.ord s=false→r<rk b:=fun b g e=>by
  obtain⟨i,d⟩:=Zak.mp g
  have n:k≤i:=by
   by_cases q:i<k
   ·have:=hb i b q d;rw[e] at this;cases this
   ·lia
  have u:=(Zj.mp d).1
  have c : os[k]?=some os[k]:=Zi (by lia)
  have l:=hhi _ c
  by_cases q:i=k
  ·subst q;rw[c] at d;cases d;exact l
  ·have:=M _ (Ze c) b g (Fy h c d (by lia))
   lia
 have dn:∀ b∈os,b.ord s=true→rk b<r:=fun b g e=>by
  obtain⟨i,d⟩:=Zak.mp g
  have n:i<k:=by
   by_cases q:i<k
   ·exact q
   ·have:=ha i b (by lia) d;rw[e] at this;cases this
  have c : os[k - 1]?=some os[k - 1]:=Zi (by lia)
  have l:=hlo _ (by lia) c
  by_cases q:i=k - 1
  ·subst q;rw[c] at d;cases d;exact l
  ·have:=M b g _ (Ze c) (Fy h d c (by lia))
   lia
 intro a o b m e
 unfold rkA
 by_cases j:a=s
 ·rw[Zw j]
  by_cases f:b=s
  ·rw[j,f,A9] at e;cases e
  ·rw[Zs f]
   rw[j] at e
   exact p b ((Gw.mp m).resolve_right f) (Gg e)
 ·rw[Zs j]
  by_cases f:b=s
  ·rw[Zw f]
   rw[f] at e
   exact dn a ((Gw.mp o).resolve_right j) e
  ·rw[Zs f]
   exact M a ((Gw.mp o).resolve_right j) b ((Gw.mp m).resolve_right f) e
theorem spread_mono {os:List Sg}(h:Srt os)(G:Int)(hG:0<G):Mono (fun t=>(idx os t:Nat) * G) os:=by
 intro a d b c e
 have f:=Cd d
 have g:=Cd c
 have i:idx os a<idx os b:=by
  rcases Nat.lt_trichotomy (idx os a) (idx os b) with q | q | q
  ·exact q
  ·rw[idx_inj d c q,A9] at e;cases e
  ·have:=Fy h g f q
   rw[Gg e] at this;cases this
 exact Int.mul_lt_mul_of_pos_right (by lia) hG
section
open PySem.SeqAt
open PySem.AutoSeq1 (wpAny_loadPart')
open PySem.MeetsSeq PySem.MeetsSeq2 PySem.MeetsSeq3
end
section
variable {X:Cx}
theorem vals_strs:∀ {its:List Value} {zs:List Str},StrsAre its zs→Bi (zs.map V.str) its
 | _,_,.nil=>.nil
 | _,_,.cons y t r=>.cons ⟨t,rfl⟩ (vals_strs r)
theorem call_sortedS:Dd X (.builtin "sorted") (fun xs H Q=>∃ (a:Addr) (ys:List Str),xs=[.ref a]∧SqL X.K H a (ys.map V.str)∧ys.length<64∧∀ l zs,H l=none→zs.Perm ys→sortedS zs=true→Q (.ref l) (upd H l (.lst (zs.map V.str)))):=by
 intro k s σ H xs z Q I r h
 obtain⟨a,ys,rfl,m,y,q⟩:=h
 obtain⟨u,rfl,w⟩:=Cs r
 cases w
 obtain⟨c,g,v,A⟩:=I.list m
 have p:c.length=ys.length:=by rw[← g.length,Zl]
 refine sorted_strs (ss:=ys) v.isList (Ij g) (by lia) fun out zs j f t=>?_
 have i:((s.heap.push (seqObj "list" #[] 0)).update s.heap.objs.size (Obj.mapSeq fun x=>x++c.toArray)).objs.size=s.heap.objs.size+1:=by
  rw[Heap.size_update,Za1]
 have d:∃ e,(sortedAll s.heap c out).get? (s.heap.objs.size+1)=some (seqObj "list" out e):=sortedHeap_at (n:=0) (by
  have:=Zn ((s.heap.push (seqObj "list" #[] 0)).update s.heap.objs.size (Obj.mapSeq fun x=>x++c.toArray)) (o:=seqObj "list" c.toArray 0) rfl
  rw[i] at this
  exact this)
 obtain⟨e,d⟩:=d
 refine⟨.ref (s.heap.objs.size+1),_,I.laid (a:=s.heap.objs.size+1) (o:=.lst (zs.map V.str)) (h':=sortedAll s.heap c out) (t':=s.toks) (fun b o e=>sortedAll_old e) (Zbp _) ?_,rfl,q _ zs (I.hok.fresh (Zbp _)) f t⟩
 refine⟨?_,out.toList,e,vals_strs j,?_⟩
 ·rw[Zl,f.length_eq]
  have:(64:Nat)≤sizeLine:=by decide
  lia
 ·rw[d]
end
abbrev zl1 (h:Heap) (k:Addr):Heap:=h.push { cls:=.type "list_iterator", data:=.fields #[.ref k,.int 0 0] }
abbrev zl2 (h:Heap) (k l:Addr):Heap:=(zl1 h k).push { cls:=.type "list_iterator", data:=.fields #[.ref l,.int 0 0] }
abbrev zl3 (h:Heap) (k l:Addr):Heap:=(zl2 h k l).push { cls:=.type "tuple", data:=.seq #[.ref h.objs.size,.ref (zl1 h k).objs.size] }
abbrev zl4 (h:Heap) (k l:Addr):Heap:=(zl3 h k l).push { cls:=.type "tuple", data:=.seq #[.none,.none] }
abbrev zl5 (h:Heap) (k l:Addr):Heap:=(zl4 h k l).push { cls:=.type "zip", data:=.fields #[.none,.bool false,.bool false,.ref (zl2 h k l).objs.size,.ref (zl3 h k l).objs.size] }
theorem zl_new (k l:Addr)(xs ys:Array Value):Meets (Builtin.«zip.__new__» ⟨[.type "zip", .ref k,.ref l],[]⟩) (fun _ R s=>s.heap.IsList k xs∧s.heap.IsList l ys∧R (.ok (.ret (.ref (zl4 s.heap k l).objs.size))) { s with heap:=zl5 s.heap k l }) :=
 .of_wp fun n w A R s h=>by
  obtain⟨b,g,d,a,c⟩:=s
  obtain⟨e,f,h⟩:=h
  have j:=sub_zip
  have m:Heap.IsList (Shared.heap ⟨b,g,d,a,c⟩) k xs:=e
  have i:Heap.IsList (Shared.heap ⟨zl1 b k,g,d,a,c⟩) l ys:=Heap.IsList.push f _
  wp_walk using Zbx m,Zbx i
  exact⟨_,rfl,h⟩
section
variable {prog:Program} {w:World} {A:Around} {E:Value→Shared→Prop} {s:Shared}
theorem call_zipL {Q:Value→Shared→Prop}(hk:s.heap.IsList k xs)(hl:s.heap.IsList l ys)(h:∀ h',IsZip h' (s.heap.objs.size+4) (s.heap.objs.size+2) (s.heap.objs.size+3) .none→IsPair h' (s.heap.objs.size+2) (.ref s.heap.objs.size) (.ref (s.heap.objs.size+1))→IsPair h' (s.heap.objs.size+3) .none .none →
   h'.IsListIter s.heap.objs.size k 0→h'.IsListIter (s.heap.objs.size+1) l 0→(∀ c o,s.heap.get? c=some o→h'.get? c=some o)→Q (.ref (s.heap.objs.size+4)) { s with heap:=h' }) :
  wpAny (model prog w) A (call (.type "zip") [.ref k,.ref l]) Q E s:=by
 refine callType_new F.called_zip (by decide) (F.typeCall_zip_2 _ _) (F.newCall_zip_2 _ _) (fun i=>F.args_object_init_3 i _ _) F.entry_zip_new (zl_new k l xs ys) ⟨hk,hl,?_⟩
 have a:(zl1 s.heap k).objs.size=s.heap.objs.size+1:=Za1 ..
 have d:(zl2 s.heap k l).objs.size=s.heap.objs.size+2:=by rw[Za1,a]
 have f:(zl3 s.heap k l).objs.size=s.heap.objs.size+3:=by rw[Za1,d]
 have n:(zl4 s.heap k l).objs.size=s.heap.objs.size+4:=by rw[Za1,f]
 have b:(zl5 s.heap k l).get? (zl4 s.heap k l).objs.size=some _:=Zn _ rfl
 have g:(zl5 s.heap k l).get? (zl3 s.heap k l).objs.size=some _:=Zc _ (Zn _ rfl)
 have j:(zl5 s.heap k l).get? (zl2 s.heap k l).objs.size=some _:=Zc _ (Zc _ (Zn _ rfl))
 have m:(zl5 s.heap k l).get? (zl1 s.heap k).objs.size=some _:=Zc _ (Zc _ (Zc _ (Zn _ rfl)))
 have p:(zl5 s.heap k l).get? s.heap.objs.size=some _:=Zc _ (Zc _ (Zc _ (Zc _ (Zn _ rfl))))
 show _∧_
 rw[d,f,n] at b
 rw[a,d] at j
 rw[f] at g
 rw[a] at m
 rw[n]
 exact⟨⟨_,b,rfl⟩,h _ b j g ⟨_,p,rfl,rfl⟩ ⟨_,m,rfl,rfl⟩ fun c o e=>Zc _ (Zc _ (Zc _ (Zc _ (Zc _ e))))⟩
end
def Itzl (K:PySem.W.Frag)(a b:Addr):It:=Itg (fun i H=>∃ xs x,SqL K H a xs∧xs[i]?=some x) (fun i H x=>∀ xs,SqL K H a xs→xs[i]?=some x) (fun i H=>∃ xs,SqL K H a xs∧i=xs.length) K b
theorem zf_lst {P:Program}{w:World}{K:PySem.W.Frag}(I0 a:Addr):Zf P w K I0 (fun i h=>h.IsListIter I0 a i) (fun i H=>∃ xs x,SqL K H a xs∧xs[i]?=some x) (fun i H x=>∀ xs,SqL K H a xs→xs[i]?=some x) (fun i H=>∃ xs,SqL K H a xs∧i=xs.length) where
 ob:=fun i h ⟨o,e,c,d⟩=>⟨o,e,fun z=>by rw[c] at z;exact absurd (Zba z) (by decide),fun v z=>by rw[d] at z;cases z⟩
 kp:=fun i h Z n k=>n.at k
 dr:=fun X F s σ H i R N T Q I n B=>by
  subst R N T
  obtain⟨xs,b⟩:∃ xs,SqL X.K H a xs:=by
   rcases B with ⟨xs,_,b,_⟩ | ⟨xs,b,_⟩ <;> exact⟨xs,b⟩
  obtain⟨l,C,p,_⟩:=I.list b
  obtain⟨O,g,j,_⟩:=id p.isList
  obtain⟨U,M,L,_⟩:=id n
  have ne:a≠I0:=fun q=>by rw[q,M] at g;cases g;rw[L] at j;exact absurd (Zba j) (by decide)
  have len:l.toArray.size=xs.length:=by rw[Zh,← C.length]
  refine⟨_,_,_,_,Draws.list (A:=X.A.in1) Q I0 a ne l.toArray,⟨n,p.isList⟩,fun c m=>?_,fun _ h=>h.1,fun ⟨E,x,f,r⟩=>?_,fun ⟨E,f,S⟩=>?_⟩
  ·simp only[Zr,Zcd,or_false] at m
   exact m.imp id fun e=>by rw[e];exact⟨O,g,j⟩
  ·rw[I.list_inj f b] at r
   obtain⟨V,D,y⟩:=C.get r
   refine⟨by rw[len];exact (Zj.mp r).1,fun u J=>⟨x,?_,fun Y G=>by rw[I.list_inj G b];exact r⟩⟩
   have t:l[i]?=some u:=by simpa using J
   rw[D] at t
   rw[← Zm t]
   exact y
  ·rw[len,S,I.list_inj f b]
section
variable {X:Cx} {elts:List Expr} {k1:Nat} {tpos:Pos}
inductive iZipL_ (K:PySem.W.Frag) (R:It→Hp→Prop) (vs:List V) (H1:Hp):Prop
 | mk (a b xs ys:_) (_:vs=[.ref a,.ref b]) (_:SqL K H1 a xs) (_:SqL K H1 b ys) (_:R (Itzl K a b) H1)
def iZipL (K:PySem.W.Frag)(ta:TA):TI:=fun σ H R=>ta σ H fun vs H1=>iZipL_ K R vs H1
theorem pi_zipL {a b:Expr}{ta:TA}{p pos:Pos}(hg:Gl X "zip")(hm:X.mg "zip" = none)(ha:PA X [a,b] ta)(hs:starEach [a,b] X.env=[(false,eval a X.env),(false,eval b X.env)]:=by rfl)(hs2:starEach [b] X.env=[(false,eval b X.env)]:=by rfl) :
  PI X (.Tuple elts k1 tpos) (.Call (.Name "zip" p) [a,b] [] pos) (iZipL X.K ta):=by
 refine⟨?_⟩
 intro d s σ H R I h
 refine Call_ (Dj I hg hm boot_zip (Zaw (thn (ha pos d s σ H _ I h) fun L c ⟨M,g,e,D,x⟩=>?_) (by rw[hs,hs2]) (by rw[hs2];rfl)))
 obtain⟨k,l,O,N,rfl,B,F,q⟩:=x
 obtain⟨u,v,rfl,C,f⟩:=vals2 D
 cases C
 cases f
 obtain⟨z,J,j,_⟩:=e.list B
 obtain⟨G,f,E,_⟩:=e.list F
 refine call_zipL j.isList E.isList fun n i ht y r w t=>wpAny_pyIter_zip (s:={ c with heap:=n }) i ?_
 have o:Inv X d σ g { c with heap:=n }:=e.kept (t':=c.toks) t
 refine⟨_,_,_,Itzl X.K k l,g,rfl,o,turn_zip c.heap.objs.size l (zf_lst _ k),⟨i,ht,⟨_,_,y⟩,r,w⟩,fun b A=>?_,q⟩
 have m:c.heap.objs.size≤b:=mem5 (p:=fun b=>c.heap.objs.size≤b) (Nat.le_add_right _ _) (Nat.le_add_right _ _) (Nat.le_add_right _ _) (Zd _) (Nat.le_add_right _ _) b A
 exact e.fpOk m (e.hok.fresh m)
end
theorem comp_zipL {K:PySem.W.Frag}{a b:Addr}{xs ys:List V}{tt:TT}{te:TE}{τ:L2.St}{H1:Hp}{D:Addr}{Qd:Hp→Prop}(Pv:Nat→Hp→Prop)(hle:xs.length=ys.length)(h0:Pv 0 (upd H1 D (.lst [])))(hl:∀ i H,Pv i H→SqL K H a xs∧SqL K H b ys)(hs:∀ i x y t H,xs[i]?=some x→ys[i]?=some y→H t=none→Pv i H→CpB D tt te (some x::some y::τ) (upd H t (.tup [x,y])) (Pv (i+1)))(hd:∀ H,Pv xs.length H→Qd H) :
  CpW (Itzl K a b) D H1 Qd fun x H3 N=>∃ p u1 u2,x = .ref p∧SqT K H3 p [u1,u2]∧CpB D tt te (some u1::some u2::τ) H3 N:=by
 refine⟨fun i m H=>m=xs.length - i∧i≤xs.length∧Pv i H,⟨_,rfl,Zt _,h0⟩,?_⟩
 rintro i m H ⟨rfl,o,p⟩
 obtain⟨d,f⟩:=hl i H p
 by_cases c:i<xs.length
 ·have l:xs[i]?=some xs[i]:=Zi c
  have h:ys[i]?=some (ys[i]'(by lia)):=Zi (by lia)
  refine .inr ⟨⟨⟨xs,_,d,l⟩,ys,_,f,h⟩,Pv (i+1),fun k j=>⟨xs.length - (i+1),by lia,rfl,c,j⟩,fun v k z=>?_⟩
  obtain⟨t,x,y,rfl,ht,n,g,rfl⟩:=z
  exact⟨t,x,y,rfl,SqT.of upd_same,hs i x y t H (n xs d) (g ys f) ht p⟩
 ·have e:i=xs.length:=by lia
  subst e
  exact .inl ⟨⟨xs,d,rfl⟩,hd H p⟩
end
end My
namespace Ex
open PySem PySem.W PySem.Calls PyProof.Rows Builtin Builtin.ObjectAttr
end Ex
namespace Ex
open PySem PySem.W PySem.Calls PyProof.Rows
end Ex
namespace Fl
open PySem
end Fl
namespace My
noncomputable section
open PySem PySem.Spec PyProof.Rows L2
def top (i:Nat):Stmt:=PySem.Challenge.pw_selfsay_k08_great_sayings.main.body.getD i (.Pass ⟨0,0,0,0⟩)
abbrev sIn:Stmt:=top 5
abbrev sWd:Stmt:=top 6
abbrev sOs:Stmt:=top 7
abbrev sLo:Stmt:=top 9
abbrev sSn:Stmt:=top 11
abbrev sPl:Stmt:=top 12
abbrev sRd:Stmt:=top 13
abbrev sSp:Stmt:=top 14
abbrev sGp:Stmt:=top 15
abbrev sRa:Stmt:=top 16
abbrev sSd:Stmt:=top 17
abbrev sNd:Stmt:=top 10
abbrev sLaw:Stmt:=top 48
abbrev sSz:Stmt:=top 19
abbrev sDp:Stmt:=top 20
abbrev sDf:Stmt:=top 21
abbrev sPo:Stmt:=top 22
abbrev sSw:Stmt:=top 23
abbrev sLt:Stmt:=top 24
abbrev sLf:Stmt:=top 25
abbrev sWr:Stmt:=top 34
abbrev sPc:Stmt:=top 35
abbrev sRe:Stmt:=top 36
abbrev sBg:Stmt:=top 37
abbrev sGo:Stmt:=top 38
abbrev sDn:Stmt:=top 39
abbrev sCa:Stmt:=top 41
abbrev sMx:Stmt:=top 42
abbrev sWh:Stmt:=top 43
abbrev sStp:Stmt:=top 44
abbrev sNm:Stmt:=top 45
abbrev sSpd:Stmt:=top 46
abbrev sPar:Stmt:=top 47
abbrev sInit:Stmt:=C7 (top 8) 0
abbrev sNum:Stmt:=C7 (top 8) 1
abbrev sNw:Stmt:=C7 (top 8) 2
abbrev sBa:Stmt:=C7 (top 8) 3
abbrev sNo:Stmt:=C7 (top 8) 4
abbrev sNk:Stmt:=C7 (top 8) 5
abbrev sPk:Stmt:=C7 (top 8) 6
abbrev sTo:Stmt:=C7 (top 8) 7
abbrev sMb:Stmt:=C7 (top 8) 8
abbrev sNf:Stmt:=C7 (top 8) 10
def TK (K:PySem.W.Frag)(a:Addr)(xs:List V):Prop:=∃ (o:Obj) (its:Array Value) (n:Nat),K.lookup a=some o∧o.cls = .type "tuple" ∧ o.data = .seq its n∧its.size≤sizeLine∧Bi xs its.toList
theorem TK.sq {K:PySem.W.Frag}{a:Addr}{xs:List V}(h:TK K a xs)(H:Hp):SqT K H a xs:=.inr h
structure Txt (K:PySem.W.Frag) (pr:Params) (mg:Str→Option Value):Prop where
 isi:mg "isinstance" = none
 list:mg "list" = none
 len:mg "len" = none
 range:mg "range" = none
 tup:mg "tuple" = none
 sum:mg "sum" = none
 max:mg "max" = none
 min:mg "min" = none
 enum:mg "enumerate" = none
 zip:mg "zip" = none
 sorted:mg "sorted" = none
 all:mg "all" = none
 set:mg "set" = none
 str:mg "str" = none
 int:mg "int" = none
 ve:mg "ValueError" = none
 any:mg "any" = none
 bool:mg "bool" = none
 lv:∃ a,mg "LEAVES_numbering" = some (.ref a)∧TK K a [.str "no", .str "letter"]
 tz:∃ t,mg "TINY_SIZE" = some (.int 8 t)
 lh:∃ t,mg "LOW_HEIGHT" = some (.int 400 t)
 ap:∃ a,mg "APART" = some (.ref a)∧TK K a [.int 1000000000,.int 60000000,.int 20000000,.int 5000000,.int 500000,.int 100000,.int 20000]
def E5 (ss:List Sg):Sg→List Key
 | .no=>[Sum.inr "no"]
 | .lt x=>[Sum.inr "letter", Sum.inr x]
 | .not a=>[Sum.inr "not", Sum.inl (idx ss a:Nat)]
 | .shown a=>[Sum.inr "shown", Sum.inl (idx ss a:Nat)]
 | .bin j a b=>[Sum.inr j.word,Sum.inl (idx ss a:Nat),Sum.inl (idx ss b:Nat)]
theorem Gn (h:Pre ss tt){s:Sg}(hi:∀ a∈s.inner,a∈ss):E5 tt s=E5 ss s:=by
 cases s with
 | no=>rfl
 | lt x=>rfl
 | not a=>show[_,Sum.inl ((idx tt a:Nat):Int)]=_;rw[h.idx (hi a (by simp[Sg.inner]))];rfl
 | shown a=>show[_,Sum.inl ((idx tt a:Nat):Int)]=_;rw[h.idx (hi a (by simp[Sg.inner]))];rfl
 | bin j a b=>show[_,Sum.inl ((idx tt a:Nat):Int),Sum.inl ((idx tt b:Nat):Int)]=_;rw[h.idx (hi a (by simp[Sg.inner])),h.idx (hi b (by simp[Sg.inner]))];rfl
theorem word_inj {j k:Jn}(e:j.word=k.word):j=k:=by
 cases j <;> cases k <;> first | rfl | exact absurd e (by decide +kernel)
theorem J0 (e:(Sum.inl ((idx ss a:Nat):Int):Key)=Sum.inl ((idx ss b:Nat):Int))(ha:a∈ss)(hb:b∈ss):a=b:=idx_inj ha hb (by have:=Sum.inl.inj e;lia)
theorem keyL_inj {s t:Sg}(hs:∀ a∈s.inner,a∈ss)(ht:∀ a∈t.inner,a∈ss)(e:E5 ss s=E5 ss t):s=t:=by
 have c:∀ {a b:Str},(Sum.inr a:Key)=Sum.inr b→a=b:=fun e=>Sum.inr.inj e
 cases s <;> cases t <;> simp only[E5,List.cons.injEq,and_true,true_and,reduceCtorEq,and_false,false_and] at e
 all_goals first
  | rfl
  | (obtain⟨d,f⟩:=e;exact absurd (c d) (by decide +kernel))
  | skip
 ·rw[c e]
 ·rw[J0 e (hs _ (by simp[Sg.inner])) (ht _ (by simp[Sg.inner]))]
 ·rw[J0 e (hs _ (by simp[Sg.inner])) (ht _ (by simp[Sg.inner]))]
 ·obtain⟨d,f,g⟩:=e
  rw[word_inj (c d),J0 f (hs _ (by simp[Sg.inner])) (ht _ (by simp[Sg.inner])),J0 g (hs _ (by simp[Sg.inner])) (ht _ (by simp[Sg.inner]))]
theorem key_inner {s:Sg}(h:s.inner≠[]):(E5 ss s).map kV = .str s.word::(Cz ss s).map fun (n:Nat)=>V.int (n:Int):=by
 cases s with
 | no=>exact absurd rfl h
 | lt x=>exact absurd rfl h
 | not a=>rfl
 | shown a=>rfl
 | bin j a b=>rfl
theorem key_leaf {H:Hp}{s:Sg}(h:SyO H v s)(hi:s.inner=[]):∃ a,v = .ref a∧H a=some (.tup ((E5 ss s).map kV)):=by
 cases h with
 | no h=>exact⟨_,rfl,h⟩
 | lt h=>exact⟨_,rfl,h⟩
 | not h b=>cases hi
 | shown h b=>cases hi
 | bin h b c=>cases hi
def kvs (ss:List Sg):List (List Key×V):=ss.map fun s=>(E5 ss s,V.int (idx ss s:Nat))
theorem kvs_snoc {ss:List Sg}{s:Sg}(h:Tab ss)(hn:s∉ss)(hi:∀ a∈s.inner,a∈ss):kvs (ss++[s])=kvs ss++[(E5 ss s,V.int (ss.length:Nat))]:=by
 have b:Pre ss (ss++[s]):=⟨[s],rfl⟩
 unfold kvs
 rw[Zac]
 have c:ss.map (fun t=>(E5 (ss++[s]) t,V.int (idx (ss++[s]) t:Nat)))=ss.map fun t=>(E5 ss t,V.int (idx ss t:Nat)):=Zcz fun t ht=>by
  rw[Gn b (h.inner t ht),b.idx ht]
 rw[c]
 show _++[(E5 (ss++[s]) s,V.int (idx (ss++[s]) s:Nat))]=_
 rw[Gn b hi,Gq hn]
theorem valV_of {f:Sg→List Key}{g:Sg→V}:∀ l:List Sg,valV (l.map fun s=>(f s,g s)) k=(l.find? fun s=>decide (f s=k)).map g
 | []=>rfl
 | s::l=>by
  rw[Za8,Zco]
  by_cases e:f s=k
  ·rw[B7 e,Z2 e]
   rfl
  ·rw[B0 e,Z9 e,valV_of l]
theorem valV_kvs {s:Sg}(h:Tab ss)(hi:∀ a∈s.inner,a∈ss):valV (kvs ss) (E5 ss s)=if s∈ss then some (V.int (idx ss s:Nat)) else none:=by
 unfold kvs
 rw[valV_of]
 cases e:ss.find? fun t=>decide (E5 ss t=E5 ss s) with
 | none =>
  have b:s∉ss:=fun c=>by
   have:=List.find?_eq_none.mp e s c
   exact this (Z2 rfl)
  rw[Zs b]
  rfl
 | some t =>
  have g:decide (E5 ss t=E5 ss s)=true:=List.find?_some (p:=fun t=>decide (E5 ss t=E5 ss s)) e
  have f:=Zaf g
  have ht:=List.mem_of_find?_eq_some e
  have d:=keyL_inj (h.inner t ht) hi f
  subst d
  rw[Zw ht]
  rfl
theorem Am {H:Hp}(h:∀ U:TS,U=u→∀ D' : Ends,(∀ σ' H',U D σ' H'→D'.nx σ' H')→t D' σ H):Fk t u D σ H:=h _ rfl _ fun _ _ h=>h
theorem Co {H:Hp}(h:∀ U:TS,U=u→Fk t U D σ H):Fk t u D σ H:=h _ rfl
theorem blk_gen {H:Hp}(h:∀ T:TS,T=t→T D σ H):t D σ H:=h _ rfl
theorem if_cut {H:Hp}(h:∀ A B:TS,A=ta→B=tb→∀ K:Bool→Hp→Prop,(∀ H1,A D σ H1→K true H1)→(∀ H1,B D σ H1→K false H1)→tc σ H K):tIfS tc ta tb D σ H :=
 h _ _ rfl rfl _ (fun _ h=>Eg h) (fun _ h=>Cv h)
theorem Hj {D:Ends}{H:Hp}(W:Nat→L2.St→Hp→Prop)(h0:∃ m,W m σ H)(h:∀ B:TS,B=tb→∀ m σ H,W m σ H→∀ K:Bool→Hp→Prop,(∀ H1,B { D with nx:=fun σ' H'=>∃ m',m'<m∧W m' σ' H',ct:=fun σ' H'=>∃ m',m'<m∧W m' σ' H',bk:=D.nx } σ H1→K true H1)→(∀ H1,D.nx σ H1→K false H1)→tc σ H K):tWhile tc tb D σ H :=
 ⟨W,h0,fun m σ H a=>h _ rfl m σ H a _ (fun _ h=>Eg ⟨_,fun _ _ h=>h,h⟩) (fun _ h=>Cv h)⟩
theorem Hq {t:TS}{D:Ends}{σ:L2.St}{H:Hp}(h:∀ D' : Ends,(∀ σ' H',D.nx σ' H'→D'.nx σ' H')→t D' σ H):t D σ H:=h _ fun _ _ h=>h
theorem Je {H:Hp}{Q:List V→Hp→Prop}(h:∀ R:V→Hp→Prop,(∀ x H1,tr σ H1 (fun xs H2=>Q (x::xs) H2)→R x H1)→ta σ H R):tCons ta tr σ H Q:=h _ fun _ _ h=>h
theorem gen_row5 {H:Hp}(h:∀ W',W'=W→Fk r1 (Fk r2 (Fk r3 (Fk r4 (Fk r5 (Fk W' u))))) D σ H):Fk r1 (Fk r2 (Fk r3 (Fk r4 (Fk r5 (Fk W u))))) D σ H:=h _ rfl
theorem gen_row2 {r1 r2 W V u:TS}{D:Ends}{σ:L2.St}{H:Hp}(h:∀ W' V',W'=W→V'=V→Fk r1 (Fk r2 (Fk W' (Fk V' u))) D σ H):Fk r1 (Fk r2 (Fk W (Fk V u))) D σ H:=h _ _ rfl rfl
theorem Jo {K:Bool→Hp→Prop}{c:Prop}[Decidable c]{H:Hp}(hc:c)(h:K true H):K (decide c) H:=by rw[Z2 hc];exact h
theorem J8 {K:Bool→Hp→Prop}{c:Prop}[Decidable c]{H:Hp}(hc:¬ c)(h:K false H):K (decide c) H:=by rw[Z9 hc];exact h
theorem kd_two {K:Bool→Hp→Prop}{c:Prop}[Decidable c]{H:Hp}(h1:c→K true H)(h2:¬ c→K false H):K (decide c) H:=by
 by_cases a:c
 ·exact Jo a (h1 a)
 ·exact J8 a (h2 a)
def Ga (wd:Str):Bool:=inV (.str wd) [.str "no", .str "letter"]
theorem lf_no:Ga "no" = true:=by decide +kernel
theorem lf_lt:Ga "letter" = true:=by decide +kernel
theorem lf_nt:Ga "not" = false:=by decide +kernel
theorem lf_sh:Ga "shown" = false:=by decide +kernel
theorem lf_jn (j:Jn):Ga j.word=false:=by cases j <;> decide +kernel
theorem J9 (s:Sg):Ga s.word=s.inner.isEmpty:=by
 cases s with
 | no=>exact lf_no
 | lt x=>exact lf_lt
 | not a=>exact lf_nt
 | shown a=>exact lf_sh
 | bin j a b=>exact lf_jn j
def lfK:Sg→List Key
 | .no=>[Sum.inr "no"]
 | .lt x=>[Sum.inr "letter", Sum.inr x]
 | _=>[]
def wy (f:Bool)(s:Sg):WKey:=(⟨[Sum.inl (s.stp f:Nat)],rfl⟩,lfK (s.lfe f))
theorem WyAt.stay {H H' : Hp}(e:TuO H H')(h:WyAt H k c):WyAt H' k c:=by
 obtain⟨d,a,b⟩:=h
 exact⟨d,e _ _ a,e _ _ b⟩
theorem LkAt.stay {H H' : Hp}(e:TuO H H')(h:LkAt H k c):LkAt H' k c:=by
 obtain⟨d,a,b⟩:=h
 exact⟨d,e _ _ a,b.stay e⟩
theorem SyO.down {H:Hp}{s:Sg}(f:Bool)(h:SyO H v s)(hs:s.inner≠[]):∃ a xs u t,v = .ref a∧H a=some (.tup xs)∧atI xs (if f then 1 else -1)=some u∧SyO H u t∧s.stp f=t.stp f+1∧s.lfe f=t.lfe f∧t.size<s.size:=by
 cases h with
 | no h=>exact absurd rfl hs
 | lt h=>exact absurd rfl hs
 | not h b=>exact⟨_,_,_,_,rfl,h,by cases f <;> rfl,b,rfl,rfl,by simp only[Sg.size];lia⟩
 | shown h b=>exact⟨_,_,_,_,rfl,h,by cases f <;> rfl,b,rfl,rfl,by simp only[Sg.size];lia⟩
 | bin h b c =>
  cases f with
  | true=>exact⟨_,_,_,_,rfl,h,rfl,b,rfl,rfl,by simp only[Sg.size];lia⟩
  | false=>exact⟨_,_,_,_,rfl,h,rfl,c,rfl,rfl,by simp only[Sg.size];lia⟩
theorem SyO.leaf {H:Hp}{s:Sg}(f:Bool)(h:SyO H v s)(hs:s.inner=[]):∃ a,v = .ref a∧H a=some (.tup ((lfK (s.lfe f)).map kV))∧s.stp f=0:=by
 cases h with
 | no h=>exact⟨_,rfl,h,rfl⟩
 | lt h=>exact⟨_,rfl,h,rfl⟩
 | not h b=>cases hs
 | shown h b=>cases hs
 | bin h b c=>cases hs
theorem six1 (n:Nat):HT.sIx (n+1) 0 (some 1)=1:=(HT.sIx_nat (n+1) 0 1).trans (by lia)
inductive spIn (K:PySem.W.Frag) (vs:List V) (H:Hp) (Q:VK) (_:XK):Prop
 | mk (a:Addr) (wd:Str) (r:List V) (_:vs=[.ref a]) (_:SqT K H a (.str wd::r)) (_:r.length≤1000) (_:∀ (l:Addr) (H' : Hp),Bq H H'→H l=none→H' l=some (.lst (if Ga wd then [] else r))→Q (.ref l) H')
theorem cut1 (x:V)(r:List V):cutV (x::r) (some 1) none=r:=by
 unfold cutV
 have a:HT.sIx (x::r).length 0 (some 1)=1:=six1 r.length
 rw[a,HT.sIx_none]
 show List.take ((r.length+1) - 1) r=r
 rw[Nat.add_sub_cancel,Zaz]
section
variable {P:Program} {w:World} {K:PySem.W.Frag} {mg:Str→Option Value} {base:Heap}
theorem ok_in (F:Fun K "inner_of" "inner_of" sIn f fd)(T:Txt K w.params mg):FnOk P w K mg base CX0 1 f fd ["saying"] (spIn K):=by
 obtain⟨j,t,s⟩:=T.lv
 refine Bs F ["saying"] fun y x A n D H B Q E C h=>?_
 obtain⟨a,b,r,rfl,k,z,q⟩:=h
 refine⟨_,Ah (Ap (Cp (Ao op_in_seq (Ar Az (pv 0) Ad (fun _ _=>rfl)) (Ch (by rfl) t (v:=.ref j) rfl) rfl) (Bp Ac)
  (Dr call_list_of (by rfl) T.list PyProof.Rows.boot_list (Aa (Jv sl_tup (pv 0) (po_some Ad) po_none) Ac)))),?_⟩
 dsimp only [Di,Cx.nox,Cx.wish]
 refine⟨_,rfl,a,_,_,_,rfl,rfl,k,at0,j,_,rfl,.inr (s.sq _),rfl,rfl,_,rfl,?_⟩
 by_cases i:Ga b=true
 ·have d : (if false=true then !inV (.str b) [.str "no", .str "letter"] else inV (.str b) [.str "no", .str "letter"])=true:=i
  rw[d]
  refine Eg ⟨small (Za rfl),fun l c=>?_⟩
  exact q l _ (Aj c) c (by rw[i,Zw rfl];exact upd_same)
 ·have g:Ga b=false:=by
   cases e:Ga b with
   | true=>exact absurd e i
   | false=>rfl
  have d : (if false=true then !inV (.str b) [.str "no", .str "letter"] else inV (.str b) [.str "no", .str "letter"])=false:=g
  rw[d]
  refine Cv ?_
  refine⟨_,rfl,1,rfl,a,_,rfl,k,?_,fun p u=>?_⟩
  ·rintro⟨e,_⟩
   have:HT.sIx (V.str b::r).length 0 (some 1)=1:=six1 r.length
   lia
  ·rw[cut1]
   refine⟨p,_,rfl,.inr (SqT.of upd_same),fun l c=>?_⟩
   have m:=Aj (o:=.tup r) u
   exact q l _ (m.trans (Aj c)) (m.free c) (by rw[g];exact upd_same)
inductive spWd (vs:List V) (H:Hp) (Q:VK) (_:XK):Prop
 | mk (v:V) (s:Sg) (f:Bool) (_:vs=[v,.int (if f then 1 else -1)]) (_:SyO H v s) (_:∀ (c:Addr) (H' : Hp),Bq H H'→WyAt H' (wy f s) c→Q (.ref c) H')
theorem ok_wd {f:Addr}{fd:FuncData}(F:Fun K "way_down" "way_down" sWd f fd)(T:Txt K w.params mg):FnOk P w K mg base CX0 1 f fd ["saying","place"] spWd:=by
 obtain⟨p,mL,U⟩:=T.lv
 refine Bs F ["saying","place","steps"] fun l aa A G s0 H vs Q E hr h=>?_
 obtain⟨v,s,f,rfl,L,q⟩:=h
 refine⟨_,Ab (An (i:=2) l.nd rfl (Or.inl rfl) Ad)
  (Ab (Dc Za0 (Ao op_notIn_seq (Ar Az (pv 0) Ad (fun _ _=>rfl)) (Ch (by rfl) mL (v:=.ref p) rfl) rfl)
   (Ab (An (i:=0) l.nd rfl (Or.inl rfl) (Ar Az (pv 0) (pv 1) (fun _ _=>rfl))) (Ah (ps_aug (i:=2) l.nd rfl (Or.inl rfl) Ad ip_add))))
  (Ah (Ap (Bg (Aa (pv 2) (Aa (pv 0) Ac)))))),?_⟩
 dsimp only [Di,Cx.nox,Cx.wish]
 refine Am fun U0 S N y=>y _ _ ?_
 clear y N
 rw[S]
 refine Am fun U1 p1 D1 I=>?_
 refine Hj (fun m σ n=>∃ k t,σ=[some k,some (.int (if f then 1 else -1)),some (.int ((s.stp f:Nat) - (t.stp f:Nat)))]∧Bq H n∧SyO H k t∧t.lfe f=s.lfe f∧m=t.size)
  ⟨s.size,v,s,by rw[Int.sub_self];rfl,Bq.refl H,L,rfl,rfl⟩ ?_
 intro B Y m σ n hI Kw kT X
 obtain⟨k,t,rfl,e,g,D,rfl⟩:=hI
 obtain⟨a,r,rfl,O,_⟩:=SyO.ref g
 refine⟨_,rfl,a,_,_,_,rfl,rfl,SqT.of (e _ _ O),at0,p,_,rfl,.inr (U.sq _),rfl,rfl,_,rfl,?_⟩
 have eb:(if true=true then !inV (.str t.word) [.str "no", .str "letter"] else inV (.str t.word) [.str "no", .str "letter"]) = !(t.inner.isEmpty):=by
  show (!Ga t.word)=_
  rw[J9]
 rw[eb]
 by_cases d:t.inner=[]
 ·rw[d]
  obtain⟨a',ea,j,h0⟩:=SyO.leaf f g d
  cases ea
  refine X _ (I _ _ ?_)
  rw[p1]
  refine⟨_,rfl,_,rfl,small (Za rfl),fun c x=>?_⟩
  refine q c _ (e.trans (Aj x)) ⟨a,?_,?_⟩
  ·rw[upd_same,h0]
   show _=some (HO.tup [V.int (s.stp f:Nat),.ref a])
   rw[show ((s.stp f:Nat):Int) - ((0:Nat):Int)=(s.stp f:Nat) by lia]
  ·rw[Ai (Ae (e _ _ j) x)]
   show n a=some (.tup ((lfK (s.lfe f)).map kV))
   rw[← D]
   exact e _ _ j
 ·obtain⟨b,xs,u,o,C,hb,z,R,W,e2,e3⟩:=SyO.down f g d
  cases C
  have:(!t.inner.isEmpty)=true:=by
   cases h:t.inner with
   | nil=>exact absurd h d
   | cons _ _=>rfl
  rw[this]
  refine kT _ (Hq fun E1 M=>?_)
  rw[Y]
  refine Am fun U3 J D3 Z=>⟨_,rfl,_,rfl,a,_,_,u,rfl,rfl,SqT.of (e _ _ hb),z,Z _ _ ?_⟩
  rw[J]
  refine⟨_,rfl,_,_,rfl,rfl,M _ _ ?_⟩
  refine⟨o.size,e3,u,o,?_,e,R,by rw[← D,e2],rfl⟩
  rw[show ((s.stp f:Nat):Int) - ((o.stp f:Nat):Int)=((s.stp f:Nat):Int) - ((t.stp f:Nat):Int)+1 by rw[W];lia]
  rfl
inductive spOs (vs:List V) (H:Hp) (Q:VK) (_:XK):Prop
 | mk (c e:Addr) (n:Nat) (k:List Key) (_:vs=[.ref c]) (_:H c=some (.tup [.int n,.ref e])) (_:H e=some (.tup (k.map kV))) (_:∀ (c' : Addr) (H' : Hp),Bq H H'→WyAt H' (⟨[Sum.inl ((n+1:Nat):Int)],rfl⟩,k) c'→Q (.ref c') H')
theorem ok_os (F:Fun K "one_step_more" "one_step_more" sOs f fd):FnOk P w K mg base CX0 1 f fd ["way"] spOs:=by
 refine Bs F ["way"] fun l j A g p H m Q E o h=>?_
 obtain⟨c,e,n,k,rfl,b,d,q⟩:=h
 refine⟨_,Ah (Ap (Bg (Aa (Au Ca (Ar Az (pv 0) Ad (fun _ _=>rfl)) Ad) (Aa (Ar Az (pv 0) Ad (fun _ _=>rfl)) Ac)))),?_⟩
 dsimp only [Di,Cx.nox,Cx.wish]
 refine⟨_,rfl,c,_,_,_,rfl,rfl,SqT.of b,at0,_,_,rfl,rfl,_,rfl,c,_,_,_,rfl,rfl,SqT.of b,at1,small (Za rfl),fun i a=>?_⟩
 exact q i _ (Aj a) ⟨e,upd_same,by rw[Ai (Ae d a)];exact d⟩
def lkOf (s:Sg)(t u:Sg)(k:WKey):LKey:=(⟨[Sum.inr s.word,Sum.inr t.word,Sum.inr u.word],rfl⟩,k)
inductive spLo (vs:List V) (H:Hp) (Q:VK) (_:XK):Prop
 | mk (v:V) (s:Sg) (c:Addr) (k:WKey) (_:vs=[v,.ref c]) (_:SyO H v s) (_:s.inner≠[]) (_:WyAt H k c) (_:∀ (b:Addr) (t u:Sg) (H' : Hp),Bq H H'→LkAt H' (lkOf s t u k) b→Q (.ref b) H')
theorem SyO.w0 {H:Hp}{s:Sg}(h:SyO H v s):∃ a r,v = .ref a∧H a=some (.tup (.str s.word::r)):=by
 obtain⟨a,r,b,c,_⟩:=SyO.ref h
 exact⟨a,r,b,c⟩
theorem ok_lo (F:Fun K "look_of" "look_of" sLo f fd):FnOk P w K mg base CX0 1 f fd ["part","way"] spLo:=by
 refine Bs F ["part","way"] fun S J A l V H T Q E U h=>?_
 obtain⟨v,s,c,k,rfl,g,d,n,q⟩:=h
 refine⟨_,Ah (Ap (Bg (Aa (Ar Az (pv 0) Ad (fun _ _=>rfl)) (Aa (Ar Az (Ar Az (pv 0) Ad (fun _ _=>rfl)) Ad (fun _ _=>rfl))
  (Aa (Ar Az (Ar Az (pv 0) (Dl Cm Ad) (fun _ _=>rfl)) Ad (fun _ _=>rfl)) (Aa (pv 1) Ac)))))),?_⟩
 dsimp only [Di,Cx.nox,Cx.wish]
 refine blk_gen fun M qT=>?_
 obtain⟨a,r,rfl,x⟩:=g.w0
 obtain⟨W,Z,u,t,e,m,o,G,_⟩:=SyO.down true g d
 cases e
 obtain⟨X,L,O,C,e,p,I,D,_⟩:=SyO.down false g d
 cases e
 obtain⟨B,Y,rfl,i⟩:=G.w0
 obtain⟨y,N,rfl,j⟩:=D.w0
 rw[qT]
 dsimp only [tRet,tTup]
 refine Je fun R r=>⟨_,rfl,a,_,_,_,rfl,rfl,SqT.of x,at0,r _ _ ?_⟩
 refine Je fun R r=>⟨_,rfl,a,_,_,_,rfl,rfl,SqT.of m,o,B,_,_,_,rfl,rfl,SqT.of i,at0,r _ _ ?_⟩
 refine Je fun R r=>⟨_,rfl,_,rfl,a,_,_,_,rfl,rfl,SqT.of p,I,y,_,_,_,rfl,rfl,SqT.of j,at0,r _ _ ?_⟩
 refine⟨_,rfl,small (Za rfl),fun z b=>?_⟩
 exact q z t C _ (Aj b) ⟨c,upd_same,n.stay (TuO.new b)⟩
end
def Raw (H:Hp)(cs:List (Addr×HO)):Prop:=(cs.map (·.1)).Nodup∧∀ c∈cs,H c.1=some c.2
section
variable {H H' : Hp} {cs:List (Addr×HO)} {a l:Addr} {o o' : HO}
theorem Raw.at (r:Raw H cs)(i:Nat)(e:cs[i]?=some (a,o)):H a=some o:=r.2 _ (Ze e)
theorem Raw.set (r:Raw H cs)(i:Nat)(e:cs[i]?=some (a,o)):Raw (upd H a o') (cs.set i (a,o')):=by
 have f:(cs.set i (a,o')).map (·.1)=cs.map (·.1):=by
  rw[List.map_set]
  refine Zcr fun j=>?_
  rw[List.getElem?_set,Zl,Zp]
  by_cases h:i=j
  ·subst h
   rw[Zw rfl,e]
   have:=(Zj.mp e).1
   rw[Zw this]
   rfl
  ·rw[Zs h]
 refine⟨by rw[f];exact r.1,fun c g=>?_⟩
 obtain⟨j,b⟩:=List.getElem?_of_mem g
 rw[List.getElem?_set] at b
 by_cases h:i=j
 ·subst h
  rw[Zw rfl,Zw (Zj.mp e).1] at b
  rw[← Zm b]
  exact upd_same
 ·rw[Zs h] at b
  have n:c.1≠a:=fun z=>h (by
   have d:(cs.map (·.1))[j]?=some a:=by rw[Zp,b,← z];rfl
   have k:(cs.map (·.1))[i]?=some a:=by rw[Zp,e];rfl
   exact ((List.getElem?_inj (Zj.mp d).1 r.1).mp (d.trans k.symm)).symm)
  rw[Ai n]
  exact r.2 c (Ze b)
theorem Raw.keep (r:Raw H cs)(k:∀ c∈cs,H c.1=some c.2→H' c.1=some c.2):Raw H' cs:=⟨r.1,fun c a=>k c a (r.2 c a)⟩
theorem Raw.same (r:Raw H cs)(s:Bq H H'):Raw H' cs:=r.keep fun _ _ e=>s _ _ e
theorem Raw.new (r:Raw H cs)(hl:H l=none):Raw (upd H l o) cs:=r.keep fun c _ e=>by rw[Ai (Ae e hl)];exact e
theorem Raw.cons (r:Raw H cs)(hl:H l=none):Raw (upd H l o) ((l,o)::cs):=by
 refine⟨?_,fun c a=>?_⟩
 ·rw[Za8,Zbs]
  refine⟨fun h=>?_,r.1⟩
  obtain⟨c,a,e⟩:=Zar.mp h
  have:=r.2 c a
  rw[e,hl] at this
  cases this
 ·rcases Zr.mp a with rfl | a
  ·exact upd_same
  ·exact (r.new hl).2 c a
theorem Raw.perm (r:Raw H cs)(p:List.Perm cs cs'):Raw H cs':=⟨((p.map (·.1)).nodup_iff).mp r.1,fun c a=>r.2 c (p.mem_iff.mpr a)⟩
end
theorem Raw.swap {H:Hp}(r:Raw H (x::y::cs)):Raw H (y::x::cs):=r.perm (List.Perm.swap ..)
structure NA where
 p:Addr
 dx:Addr
 ls:Addr
 lf:Addr
 dn:Addr
 lz:Addr
 lh:Addr
 l1:Addr
 l2:Addr
 l3:Addr
 l4:Addr
 dc:Addr
structure NZ where
 ss:List Sg
 vs:List V
 fs:List V
 fi:List V
 la:List V
 hi:List Int
 st:List Int
 met:List (Key×V)
 ca:List (Key×V)
 lk:List (LKey×Addr×Addr)
 home:Int
 work:Int
 dm:Addr
 dl:Addr
 cnt:Nat
def Ec (d:NA)(dm dl:Addr)(home work:Int):List (Str×V):=[("sayings", .ref d.ls),("forms", .ref d.lf),("numbers", .ref d.dn),("sizes", .ref d.lz),("heights", .ref d.lh),("firsts", .ref d.l1),("lasts", .ref d.l2),("highest", .ref d.l3),("strays", .ref d.l4),
 ("met", .ref dm),("looks", .ref dl),("came_again", .ref d.dc),("home", .int home),("work", .int work)]
abbrev iL (ns:List Nat):List V:=ns.map fun (n:Nat)=>V.int (n:Int)
def cells (P:Program)(w:World)(C:Addr)(d:NA)(z:NZ):List (Addr×HO):=[(d.p,.ins C d.dx (Ec d z.dm z.dl z.home z.work)),(d.ls,.lst z.vs),(d.lf,.lst z.fs),(d.dn,.dT (kvs z.ss)),(d.lz,.lst (z.ss.map fun s=>V.int (s.size:Nat))),(d.lh,.lst (z.ss.map fun s=>V.int (s.high:Nat))),
 (d.l1,.lst z.fi),(d.l2,.lst z.la),(d.l3,.lst (z.hi.map V.int)),(d.l4,.lst (z.st.map V.int)),(z.dm,.dK z.met),(z.dl,LkO P w z.dl z.lk),(d.dc,.dK z.ca)]
inductive FoR (ss:List Sg) (H:Hp) (v:V) (s:Sg):Prop
 | mk (a:_) (_:v = .ref a) (_:H a=some (.tup ((E5 ss s).map kV)))
inductive WyR (f:Bool) (H:Hp) (v:V) (s:Sg):Prop
 | mk (c:_) (_:v = .ref c) (_:WyAt H (wy f s) c)
def LsAt (H:Hp)(z:NZ)(l:Addr):Prop:=∃ ns:List Nat,H l=some (.lst (iL ns))∧ns.length≤z.cnt∧∀ n∈ns,(valV z.met (Sum.inl (n:Int))).isSome=true
structure NumAt (P:Program) (w:World) (C:Addr) (H:Hp) (d:NA) (O:Addr→Prop) (z:NZ):Prop where
 raw:Raw H (cells P w C d z)
 own:∀ c∈cells P w C d z,O c.1
 sa:Fh H z.vs z.ss
 fo:Paired (FoR z.ss H) z.fs z.ss
 fi:Paired (WyR true H) z.fi z.ss
 la:Paired (WyR false H) z.la z.ss
 hl:z.hi.length=z.ss.length
 sl:z.st.length=z.ss.length
 me:∀ x∈z.met,∃ (n:Nat) (s:Sg),x.1=Sum.inl (n:Int)∧z.ss[n]?=some s∧s.inner≠[]∧SyO H x.2 s
 lk:∀ x∈z.lk,LkAt H x.1 x.2.1∧O x.2.2∧(∀ c∈cells P w C d z,c.1≠x.2.2)∧LsAt H z x.2.2
 tab:Tab z.ss
 cap:∀ s∈z.ss,s.high≤300
 c1:z.met.length≤z.cnt
 c2:z.ca.length≤z.cnt
 c3:z.lk.length≤z.cnt
 c4:z.ss.length≤z.cnt
 lv:∀ b,O b→∃ o,H b=some o
structure Stp (O O' : Addr→Prop) (H H' : Hp):Prop where
 tu:TuO H H'
 but:∀ b o,¬ O b→H b=some o→H' b=some o
 gr:∀ b,O b→O' b
 nw:∀ b,O' b→O b∨H b=none
 al:∀ b o,H b=some o→∃ o',H' b=some o'
section
variable {O O1 O2:Addr→Prop} {H H1 H2:Hp}
theorem Stp.refl:Stp O O H H:=⟨TuO.refl H,fun _ _ _ e=>e,fun _ h=>h,fun _ h=>.inl h,fun _ o e=>⟨o,e⟩⟩
theorem Stp.same (s:Bq H H1):Stp O O H H1:=⟨Al s,fun b o _ e=>s b o e,fun _ h=>h,fun _ h=>.inl h,fun b o e=>⟨o,s b o e⟩⟩
theorem Stp.trans (a:Stp O O1 H H1)(b:Stp O1 O2 H1 H2):Stp O O2 H H2:=by
 refine⟨a.tu.trans b.tu,fun c o n e=>b.but c o (fun z=>?_) (a.but c o n e),fun c h=>b.gr c (a.gr c h),fun c h=>?_,fun c o e=>let ⟨o1,e1⟩:=a.al c o e;b.al c o1 e1⟩
 ·rcases a.nw c z with h | h
  ·exact n h
  ·rw[h] at e;cases e
 ·rcases b.nw c h with h | h
  ·exact a.nw c h
  ·by_cases d:O c
   ·exact .inl d
   ·right
    cases e:H c with
    | none=>rfl
    | some o=>rw[a.but c o d e] at h;cases h
theorem Stp.at (a:Stp O O1 H H1)(hb:O b)(hu:H1 b=some u)(hn:∀ xs,HO.tup xs≠u):Stp O O1 H (upd H1 b o) :=
 ⟨a.tu.trans (TuO.other hu hn),fun c v n e=>by rw[Ai (fun z:c=b=>n (z ▸ hb))];exact a.but c v n e,a.gr,a.nw,fun c v e=>by
  by_cases h:c=b
  ·exact⟨o,by rw[h,upd_same]⟩
  ·obtain⟨d,f⟩:=a.al c v e
   exact⟨d,by rw[Ai h];exact f⟩⟩
theorem Stp.lst (a:Stp O O1 H H1)(hb:O b)(hu:H1 b=some (.lst xs)):Stp O O1 H (upd H1 b o):=a.at hb hu fun _ z=>by cases z
theorem Stp.new (a:Stp O O1 H H1)(hb:H1 b=none):Stp O O1 H (upd H1 b o):=a.trans (Stp.same (Aj hb))
end
theorem WyR.stay {f:Bool}{H H' : Hp}(e:TuO H H')(h:WyR f H v s):WyR f H' v s:=by
 obtain⟨c,rfl,h⟩:=h
 exact⟨c,rfl,h.stay e⟩
section
variable {P:Program} {w:World} {C:Addr} {H H' : Hp} {d:NA} {O:Addr→Prop} {z:NZ}
theorem NumAt.stay (N:NumAt P w C H d O z)(k:∀ b o,O b→H b=some o→H' b=some o)(t:TuO H H'):NumAt P w C H' d O z :=
 {raw:=N.raw.keep fun c j e=>k _ _ (N.own c j) e
  own:=N.own
  sa:=Fh.stay t N.sa
  fo:=Paired.imp' (fun v s ⟨a,g,f⟩=>⟨a,g,t a _ f⟩) N.fo
  fi:=Paired.imp' (fun v s h=>h.stay t) N.fi
  la:=Paired.imp' (fun v s h=>h.stay t) N.la
  hl:=N.hl
  sl:=N.sl
  me:=fun x i=>let ⟨n,s,g,f,h0,h3⟩:=N.me x i;⟨n,s,g,f,h0,h3.stay t⟩
  lk:=fun x i=>let ⟨g,f,h3,ns,h4,h5⟩:=N.lk x i;⟨g.stay t,f,h3,ns,k _ _ f h4,h5⟩
  tab:=N.tab
  cap:=N.cap
  c1:=N.c1
  c2:=N.c2
  c3:=N.c3
  c4:=N.c4
  lv:=fun b h=>let ⟨o,e⟩:=N.lv b h;⟨o,k b o h e⟩ }
theorem NumAt.same (N:NumAt P w C H d O z)(s:Bq H H'):NumAt P w C H' d O z:=N.stay (fun b o _ e=>s b o e) (Al s)
end
structure TxC (K:PySem.W.Frag) (mg:Str→Option Value) (C:Addr):Prop where
 cl:Cls K C
 n1:Ce K C "sayings"
 n2:Ce K C "forms"
 n3:Ce K C "numbers"
 n4:Ce K C "sizes"
 n5:Ce K C "heights"
 n6:Ce K C "firsts"
 n7:Ce K C "lasts"
 n8:Ce K C "highest"
 n9:Ce K C "strays"
 n10:Ce K C "met"
 n11:Ce K C "looks"
 n12:Ce K C "came_again"
 n13:Ce K C "home"
 n14:Ce K C "work"
 mgC:mg "Numbering" = some (.ref C)
inductive spInit (P:Program) (w:World) (C:Addr) (vs:List V) (H:Hp) (Q:VK) (_:XK):Prop
 | mk (p dx:Addr) (_:vs=[.ref p]) (_:H p=some (.ins C dx [])) (_:∀ (d:NA) (z:NZ) (H' : Hp),d.p=p→z.ss=[]→z.cnt=0→NumAt P w C H' d (fun b=>b∈(cells P w C d z).map (·.1)) z→(∀ c∈cells P w C d z,c.1=p∨H c.1=none)→(∀ b o,H b=some o→b≠p→H' b=some o)→Q .non H')
theorem Cf {H0 H:Hp}(r:Raw H ((p,u)::cs))(k:∀ b v,H0 b=some v→b≠p→H b=some v)(hl:H l=none) :
  upd H l o p=some u∧Raw (upd (upd H l o) p u') ((p,u')::(l,o)::cs)∧(∀ b v,H0 b=some v→b≠p→upd (upd H l o) p u' b=some v)∧(l=p∨H0 l=none):=by
 have d:H p=some u:=r.2 (p,u) Z0
 have n:l≠p:=(Ae d hl).symm
 have c:Raw (upd H l o) ((p,u)::(l,o)::cs):=(Raw.cons (o:=o) r hl).swap
 refine⟨c.2 (p,u) Z0,c.set 0 rfl,fun b v e a=>?_,?_⟩
 ·have:=k b v e a
  rw[Ai a,Ai (Ae this hl)]
  exact this
 ·by_cases h:l=p
  ·exact .inl h
  ·right
   cases e:H0 l with
   | none=>rfl
   | some v=>rw[k l v e h] at hl;cases hl
theorem fld_int {H0 H:Hp}(r:Raw H ((p,u)::cs))(k:∀ b v,H0 b=some v→b≠p→H b=some v) :
  Raw (upd H p u') ((p,u')::cs)∧∀ b v,H0 b=some v→b≠p→upd H p u' b=some v:=⟨r.set 0 rfl,fun b v e a=>by rw[Ai a];exact k b v e a⟩
section
variable {P:Program} {w:World} {K:PySem.W.Frag} {mg:Str→Option Value} {base:Heap}
theorem ok_init (F:Fun K "__init__" "Numbering.__init__" sInit f fd)(T:TxC K mg C):FnOk P w K mg base CX0 1 f fd ["self"] (spInit P w C):=by
 refine Bs F ["self"] fun sc ak A ai s0 H vs Q E hr h=>?_
 obtain⟨p,a,rfl,hp,k⟩:=h
 refine⟨_,Ab (Ct (pv 0) (Bp Ac) rfl) (Ab (Ct (pv 0) (Bp Ac) rfl) (Ab (Ct (pv 0) pe_dnewT rfl) (Ab (Ct (pv 0) (Bp Ac) rfl) (Ab (Ct (pv 0) (Bp Ac) rfl)
  (Ab (Ct (pv 0) (Bp Ac) rfl) (Ab (Ct (pv 0) (Bp Ac) rfl) (Ab (Ct (pv 0) (Bp Ac) rfl) (Ab (Ct (pv 0) (Bp Ac) rfl) (Ab (Ct (pv 0) Gk rfl) (Ab (Ct (pv 0) (show PE _ _ (tLkNew P w) from pe_lkNew) rfl) (Ab (Ct (pv 0) Gk rfl)
  (Ab (Ct (pv 0) Ad rfl) (Ah (Ct (pv 0) Ad rfl)))))))))))))),?_⟩
 dsimp only [Di,Cx.nox,Cx.wish]
 have z:([]:List V).length≤sizeLine:=Zt _
 have r0:Raw H [(p,.ins C a [])]:=⟨by simp,fun c t=>by rw[Zg.mp t];exact hp⟩
 have k0:∀ b v,H b=some v→b≠p→H b=some v:=fun b v e _=>e
 refine⟨z,fun d h1=>?_⟩
 obtain⟨a1,r1,k1,f1⟩:=Cf (o:=.lst []) (u':=.ins C a (Bb "sayings" (.ref d) [])) r0 k0 h1
 refine⟨_,rfl,p,C,a,_,rfl,a1,T.cl,T.n1,Za rfl,?_⟩
 refine⟨z,fun g h2=>?_⟩
 obtain⟨a2,r2,k2,f2⟩:=Cf (o:=.lst []) (u':=.ins C a (Bb "forms" (.ref g) (Bb "sayings" (.ref d) []))) r1 k1 h2
 refine⟨_,rfl,p,C,a,_,rfl,a2,T.cl,T.n2,Za rfl,?_⟩
 generalize upd (upd (upd (upd H d _) p _) g _) p _=H2 at r2 k2 ⊢
 intro i h3
 obtain⟨a3,r3,k3,f3⟩:=Cf (o:=.dT []) (u':=.ins C a (Bb "numbers" (.ref i) (Bb "forms" (.ref g) (Bb "sayings" (.ref d) [])))) r2 k2 h3
 refine⟨_,rfl,p,C,a,_,rfl,a3,T.cl,T.n3,Za rfl,?_⟩
 refine⟨z,fun j h4=>?_⟩
 obtain⟨a4,r4,k4,f4⟩:=Cf (o:=.lst []) (u':=.ins C a (Bb "sizes" (.ref j) (Bb "numbers" (.ref i) (Bb "forms" (.ref g) (Bb "sayings" (.ref d) []))))) r3 k3 h4
 refine⟨_,rfl,p,C,a,_,rfl,a4,T.cl,T.n4,Za rfl,?_⟩
 generalize upd (upd (upd (upd H2 i _) p _) j _) p _=H4 at r4 k4 ⊢
 refine⟨z,fun l h5=>?_⟩
 obtain⟨a5,r5,k5,f5⟩:=Cf (o:=.lst []) (u':=.ins C a (Bb "heights" (.ref l) (Bb "sizes" (.ref j) (Bb "numbers" (.ref i) (Bb "forms" (.ref g) (Bb "sayings" (.ref d) [])))))) r4 k4 h5
 refine⟨_,rfl,p,C,a,_,rfl,a5,T.cl,T.n5,Za rfl,?_⟩
 refine⟨z,fun m h6=>?_⟩
 obtain⟨a6,r6,W,f6⟩:=Cf (o:=.lst []) (u':=.ins C a (Bb "firsts" (.ref m) (Bb "heights" (.ref l) (Bb "sizes" (.ref j) (Bb "numbers" (.ref i) (Bb "forms" (.ref g) (Bb "sayings" (.ref d) []))))))) r5 k5 h6
 refine⟨_,rfl,p,C,a,_,rfl,a6,T.cl,T.n6,Za rfl,?_⟩
 generalize upd (upd (upd (upd H4 l _) p _) m _) p _=H6 at r6 W ⊢
 refine⟨z,fun r h7=>?_⟩
 obtain⟨a7,r7,k7,f7⟩:=Cf (o:=.lst []) (u':=.ins C a (Bb "lasts" (.ref r) (Bb "firsts" (.ref m) (Bb "heights" (.ref l) (Bb "sizes" (.ref j) (Bb "numbers" (.ref i) (Bb "forms" (.ref g) (Bb "sayings" (.ref d) [])))))))) r6 W h7
 refine⟨_,rfl,p,C,a,_,rfl,a7,T.cl,T.n7,Za rfl,?_⟩
 refine⟨z,fun s h8=>?_⟩
 obtain⟨a8,N,k8,f8⟩:=Cf (o:=.lst []) (u':=.ins C a (Bb "highest" (.ref s) (Bb "lasts" (.ref r) (Bb "firsts" (.ref m) (Bb "heights" (.ref l) (Bb "sizes" (.ref j) (Bb "numbers" (.ref i) (Bb "forms" (.ref g) (Bb "sayings" (.ref d) []))))))))) r7 k7 h8
 refine⟨_,rfl,p,C,a,_,rfl,a8,T.cl,T.n8,Za rfl,?_⟩
 generalize upd (upd (upd (upd H6 r _) p _) s _) p _=H8 at N k8 ⊢
 refine⟨z,fun y h9=>?_⟩
 obtain⟨a9,r9,k9,f9⟩:=Cf (o:=.lst []) (u':=.ins C a (Bb "strays" (.ref y) (Bb "highest" (.ref s) (Bb "lasts" (.ref r) (Bb "firsts" (.ref m) (Bb "heights" (.ref l) (Bb "sizes" (.ref j) (Bb "numbers" (.ref i) (Bb "forms" (.ref g) (Bb "sayings" (.ref d) [])))))))))) N k8 h9
 refine⟨_,rfl,p,C,a,_,rfl,a9,T.cl,T.n9,Za rfl,?_⟩
 intro q R
 obtain⟨Z,I,G,ae⟩:=Cf (o:=.dK []) (u':=.ins C a (Bb "met" (.ref q) (Bb "strays" (.ref y) (Bb "highest" (.ref s) (Bb "lasts" (.ref r) (Bb "firsts" (.ref m) (Bb "heights" (.ref l) (Bb "sizes" (.ref j) (Bb "numbers" (.ref i) (Bb "forms" (.ref g) (Bb "sayings" (.ref d) []))))))))))) r9 k9 R
 refine⟨_,rfl,p,C,a,_,rfl,Z,T.cl,T.n10,Za rfl,?_⟩
 generalize upd (upd (upd (upd H8 y _) p _) q _) p _=Y at I G ⊢
 intro n ab
 obtain⟨S,ac,af,O⟩:=Cf (o:=LkO P w n []) (u':=.ins C a (Bb "looks" (.ref n) (Bb "met" (.ref q) (Bb "strays" (.ref y) (Bb "highest" (.ref s) (Bb "lasts" (.ref r) (Bb "firsts" (.ref m) (Bb "heights" (.ref l) (Bb "sizes" (.ref j) (Bb "numbers" (.ref i) (Bb "forms" (.ref g) (Bb "sayings" (.ref d) [])))))))))))) I G ab
 refine⟨_,rfl,p,C,a,_,rfl,S,T.cl,T.n11,Za rfl,?_⟩
 intro u ag
 obtain⟨U,D,L,ah⟩:=Cf (o:=.dK []) (u':=.ins C a (Bb "came_again" (.ref u) (Bb "looks" (.ref n) (Bb "met" (.ref q) (Bb "strays" (.ref y) (Bb "highest" (.ref s) (Bb "lasts" (.ref r) (Bb "firsts" (.ref m) (Bb "heights" (.ref l) (Bb "sizes" (.ref j) (Bb "numbers" (.ref i) (Bb "forms" (.ref g) (Bb "sayings" (.ref d) []))))))))))))) ac af ag
 refine⟨_,rfl,p,C,a,_,rfl,U,T.cl,T.n12,Za rfl,?_⟩
 generalize upd (upd (upd (upd Y n _) p _) u _) p _=aj at D L ⊢
 obtain⟨M,aa⟩:=fld_int (u':=.ins C a (Bb "home" (.int 0) (Bb "came_again" (.ref u) (Bb "looks" (.ref n) (Bb "met" (.ref q) (Bb "strays" (.ref y) (Bb "highest" (.ref s) (Bb "lasts" (.ref r) (Bb "firsts" (.ref m) (Bb "heights" (.ref l) (Bb "sizes" (.ref j) (Bb "numbers" (.ref i) (Bb "forms" (.ref g) (Bb "sayings" (.ref d) [])))))))))))))) D L
 refine⟨_,rfl,p,C,a,_,rfl,D.at 0 rfl,T.cl,T.n13,Za rfl,?_⟩
 obtain⟨J,X⟩:=fld_int (u':=.ins C a (Bb "work" (.int 0) (Bb "home" (.int 0) (Bb "came_again" (.ref u) (Bb "looks" (.ref n) (Bb "met" (.ref q) (Bb "strays" (.ref y) (Bb "highest" (.ref s) (Bb "lasts" (.ref r) (Bb "firsts" (.ref m) (Bb "heights" (.ref l) (Bb "sizes" (.ref j) (Bb "numbers" (.ref i) (Bb "forms" (.ref g) (Bb "sayings" (.ref d) []))))))))))))))) M aa
 refine⟨_,rfl,p,C,a,_,rfl,M.at 0 rfl,T.cl,T.n14,Za rfl,?_⟩
 refine k ⟨p,a,d,g,i,j,l,m,r,s,y,u⟩ ⟨[],[],[],[],[],[],[],[],[],[],0,0,q,n,0⟩ _ rfl rfl rfl ?_ ?_ X
 ·refine⟨Raw.perm J ((Zcs _).symm.cons _),fun c t=>Za2 (f:=(·.1)) t,.nil,.nil,.nil,.nil,rfl,rfl,(fun x B=>nomatch B),(fun x B=>nomatch B),.nil,(fun x B=>nomatch B),Zd _,Zd _,Zd _,Zd _,fun b hb=>?_⟩
  obtain⟨c,t,e⟩:=Zar.mp hb
  have ad:=Raw.perm J ((Zcs _).symm.cons _)
  exact⟨c.2,e ▸ ad.2 c t⟩
 intro c t
 simp only[cells,Zr,Zcd,or_false] at t
 rcases t with rfl | rfl | rfl | rfl | rfl | rfl | rfl | rfl | rfl | rfl | rfl | rfl | rfl
 ·exact .inl rfl
 ·exact f1
 ·exact f2
 ·exact f3
 ·exact f4
 ·exact f5
 ·exact f6
 ·exact f7
 ·exact f8
 ·exact f9
 ·exact ae
 ·exact O
 ·exact ah
end
def mxE (ns:List Nat)(d:Int):Int:=match ns with | []=>d | _::_=>(maxN ns:Nat)
section
variable {X:Cx} {e d:Expr} {te td:TE} {p pos kpos:Pos}
inductive tMaxE_ (K:PySem.W.Frag) (Q:VK) (vs:List V) (zs:List V) (H2:Hp):Prop
 | mk (l:Addr) (ns:List Nat) (d0:Int) (_:vs=[.ref l]) (_:zs=[.int d0]) (_:SqL K H2 l (ns.map fun (n:Nat)=>V.int (n:Int))) (_:Q (.int (mxE ns d0)) H2)
def tMaxE (K:PySem.W.Frag)(te td:TE):TE:=fun σ H Q=>tCons te tNil σ H fun vs H1=>tCons td tNil σ H1 fun zs H2=>tMaxE_ K Q vs zs H2
theorem pe_maxe (hc:X.calm=true)(hg:Gl X "max")(hm:X.mg "max" = none)(he:PE X e te)(hd:PE X d td)(hs:starEach [e] X.env=[(false,eval e X.env)]:=by rfl)(hks:(backToKw pos (keywordEach [⟨some "default", d,kpos⟩] X.env)).filterMap (·.1)=[("default" : Str)]:=by rfl)(h1:backTo pos (starEach [e] X.env)=(false,eval e X.env)::backTo pos (starEach [] X.env):=by rfl)(h2:(backTo pos (starEach [e] X.env)).any (·.1)=false:=by rfl)(h3:(backToKw pos (keywordEach [⟨some "default", d,kpos⟩] X.env)).all (·.1.isSome)=true:=by rfl)(h4:(backToKw pos (keywordEach [⟨some "default", d,kpos⟩] X.env)).any (·.1.isNone)=false:=by rfl) :
  PE X (.Call (.Name "max" p) [e] [⟨some "default", d,kpos⟩] pos) (tMaxE X.K te td):=by
 refine⟨?_⟩
 intro g s σ H Q I h
 refine Zbg (Dj I hg hm PyProof.Rows.boot_max ?_ (by decide) (by decide))
 refine PyProof.Rows.callWith_kw (thn ((Aa he Ac hs) pos g s σ H _ I h) fun us s1 ⟨vs,H1,I1,r1,q1⟩=>?_) h1 h2 h3 h4
 refine thn ((pk_cons (nm:=some "default") (kpos:=kpos) hd pk_nil) pos g s1 σ H1 _ I1 q1) fun ws f ⟨zs,H2,J,rz,l,c,S,M,e2,hl,q⟩=>?_
 rw[hks]
 subst M e2
 obtain⟨u,rfl,ru⟩:=Cs r1
 obtain⟨z,rfl,T⟩:=Cs rz
 cases ru
 obtain⟨tz,rfl⟩:=T
 obtain⟨y,W,G,hz⟩:=J.list hl
 have hh:X.A.handled=none:=J.ok.hd hc
 have P:Bi ((c.map fun (n:Nat)=>(n:Int)).map V.int) y:=by rw[Zda];exact W
 have D:c.length=y.length:=by rw[← W.length,Zl]
 have nl:l≠f.heap.objs.size:=fun e=>by
  obtain⟨o,R,_⟩:=G.isList
  exact Za3 _ (e ▸ Zo R)
 have aa:l<f.heap.objs.size:=by
  obtain⟨o,R,_⟩:=G.isList
  exact Zo R
 have m:∀ i,i<c.length→(c.map fun (n:Nat)=>(n:Int)).getD i 0=(c.getD i 0:Nat):=fun i L=>by
  rw[Z4,Z4,Zp,Zi L]
  rfl
 have E:∀ (v:Value) (w : Heap) (r:Nat),(∀ b o,b∉[f.heap.objs.size]→(f.heap.push { cls:=.type "list_iterator", data:=.fields #[.ref l,.int 0 0] }).get? b=some o→w.get? b=some o)→(∃ t,v = .int (mxE c S) t)→EP X g σ Q v { f with heap:=w,toks:=r }:=fun v w r F ⟨t,N⟩ =>
  ⟨.int (mxE c S),H2,J.kept (t':=r) fun b o e=>F b o (by simpa using Z5 (Zo e)) (Zc _ e),⟨t,N⟩,q⟩
 refine Fq (Zbx G.isList ?_)
 refine⟨f.heap.objs.size,_,_,_,_,_,fun i j=>decide ((c.map fun (n:Nat)=>(n:Int)).getD j 0<(c.map fun (n:Nat)=>(n:Int)).getD i 0),rfl,Walks.list (A:=X.A.in1) hh f.heap.objs.size l nl y.toArray,⟨⟨_,Zn _ rfl,rfl,rfl⟩,G.isList.at fun o e=>Zc _ e⟩,fun b C=>?_,?_,fun w r O F=>?_,fun v w r O hv F=>?_⟩
 ·show b<(f.heap.push _).objs.size
  rw[Za1]
  rcases Zr.mp C with rfl | C
  ·exact Zbk _
  ·rw[Zg.mp C];exact Zb6 aa
 ·intro i j vi vj s' Q' E' L B hq
  obtain⟨ti,rfl⟩:=C8 P L
  obtain⟨tj,rfl⟩:=C8 P B
  exact gt_int hq
 ·have e0:c=[]:=Zai (by rw[D];simpa using O)
  subst e0
  exact E _ w r F ⟨tz,rfl⟩
 ·refine E v w r F ?_
  obtain⟨t,N⟩:=C8 P hv
  refine⟨t,N.trans ?_⟩
  have Y : 0<c.length:=by rw[D];simpa using O
  have Z:mxE c S=(maxN c:Nat):=by cases c with | nil=>exact absurd Y (by decide) | cons _ _=>rfl
  rw[Z]
  have U:y.toArray.size - 1=c.length - 1:=by rw[Zh,D]
  rw[U]
  generalize C:argBest (fun i j=>decide ((c.map fun (n:Nat)=>(n:Int)).getD j 0<(c.map fun (n:Nat)=>(n:Int)).getD i 0)) (c.length - 1)=k
  have ab:k≤c.length - 1:=by rw[← C];exact Jd _ _
  have x:k<c.length:=by lia
  have top:=fun j B=>best_le (fun i=>(c.map fun (n:Nat)=>(n:Int)).getD i 0) (c.length - 1) j B
  rw[C] at top
  congr 1
  rw[m k x]
  congr 1
  refine Nat.le_antisymm (maxN_ge ?_) (maxN_le fun a ha=>?_)
  ·rw[Z4,Zi x]
   exact Zc0 x
  ·obtain⟨j,B,rfl⟩:=Zb8 ha
   have:=top j (by lia)
   rw[m j B,m k x] at this
   have M:c.getD j 0=c[j]:=by rw[Z4,Zi B];rfl
   rw[M] at this
   lia
end
theorem Raw.repl {H:Hp}{cs:List (Addr×HO)}(r:Raw H cs)(i:Nat)(hi:i<cs.length)(hl:H l=none):Raw (upd H l o) (cs.set i (l,o)):=by
 have b:=r.cons (o:=o) hl
 have p:List.Perm (cs.set i (l,o)) ((l,o)::cs.eraseIdx i):=by
  rw[List.set_eq_take_append_cons_drop,Zw hi,List.eraseIdx_eq_take_drop_succ]
  exact List.perm_middle
 refine Raw.perm (cs:=(l,o)::cs.eraseIdx i) ⟨?_,fun c a=>?_⟩ p.symm
 ·exact List.Nodup.sublist (List.Sublist.map _ ((List.eraseIdx_sublist cs i).cons_cons _)) b.1
 ·rcases Zr.mp a with rfl | a
  ·exact upd_same
  ·exact b.2 c (Zz _ ((List.eraseIdx_sublist cs i).mem a))
section
variable {P:Program} {w:World} {C:Addr} {H H' : Hp} {d:NA} {O:Addr→Prop} {z:NZ}
theorem Stp.free {O O1:Addr→Prop}{H H1:Hp}(a:Stp O O1 H H1)(h:H1 m=none):O m∨H m=none:=by
 by_cases b:O m
 ·exact .inl b
 ·right
  cases e:H m with
  | none=>rfl
  | some v=>rw[a.but m v b e] at h;cases h
theorem Bx {α β:Type}{F:α→β→Prop}:∀ {xs:List α} {ys:List β} {i:Nat} {y:β},Paired F xs ys→ys[i]?=some y→∃ x,xs[i]?=some x∧F x y
 | _,_,_,_,.nil,e=>by simp at e
 | _,_,0,_,.cons h _,e=>⟨_,rfl,by rw[← Zm e];exact h⟩
 | _,_,i+1,_,.cons _ t,e=>Bx (i:=i) t e
theorem NumAt.ob (N:NumAt P w C H d O z):H d.p=some (.ins C d.dx (Ec d z.dm z.dl z.home z.work)):=N.raw.at 0 rfl
end
inductive spBa (P:Program) (w:World) (C:Addr) (vs:List V) (H:Hp) (Q:VK) (_:XK):Prop
 | mk (d:NA) (O:Addr→Prop) (z:NZ) (_:vs=[.ref d.p]) (_:NumAt P w C H d O z) (_:∀ (O' : Addr→Prop) (z' : NZ) (H' : Hp),Stp O O' H H'→NumAt P w C H' d O' z'→z'.ss=z.ss→z'.work=z.work→z'.cnt=z.cnt→Q .non H')
section
variable {P:Program} {w:World} {K:PySem.W.Frag} {mg:Str→Option Value} {base:Heap}
theorem ok_ba (F:Fun K "begin_apart" "Numbering.begin_apart" sBa f fd)(TC:TxC K mg C):FnOk P w K mg base CX0 1 f fd ["self"] (spBa P w C):=by
 refine Bs F ["self"] fun sc aa A T s0 H vs Q E hr h=>?_
 obtain⟨d,O,z,rfl,N,q⟩:=h
 refine⟨_,Ab (Es (pv 0) Ad in_add) (Ab (Ct (pv 0) Gk rfl) (Ah (Ct (pv 0) (show PE _ _ (tLkNew P w) from pe_lkNew) rfl))),?_⟩
 dsimp only [Di,Cx.nox,Cx.wish]
 refine⟨_,rfl,d.p,C,d.dx,_,_,rfl,N.ob,TC.cl,TC.n13,rfl,_,_,rfl,rfl,d.dx,_,N.ob,Za rfl,?_⟩
 have X:Bb "home" (.int (z.home+1)) (Ec d z.dm z.dl z.home z.work)=Ec d z.dm z.dl (z.home+1) z.work:=rfl
 rw[X]
 have S:Raw (upd H d.p (.ins C d.dx (Ec d z.dm z.dl (z.home+1) z.work))) _:=N.raw.set (o':=.ins C d.dx (Ec d z.dm z.dl (z.home+1) z.work)) 0 rfl
 have k:O d.p:=N.own _ (Z0 ..)
 have n:Stp O O H (upd H d.p (.ins C d.dx (Ec d z.dm z.dl (z.home+1) z.work))):=Stp.refl.at k N.ob fun _ z=>by cases z
 generalize upd H d.p (.ins C d.dx (Ec d z.dm z.dl (z.home+1) z.work))=Y at S n ⊢
 intro m D
 have y:=S.repl (o:=.dK []) 10 (by show 10<13;decide) D
 have M:=n.new (o:=.dK []) D
 refine⟨_,rfl,d.p,C,d.dx,_,rfl,y.at 0 rfl,TC.cl,TC.n10,Za rfl,?_⟩
 have e2:Bb "met" (.ref m) (Ec d z.dm z.dl (z.home+1) z.work)=Ec d m z.dl (z.home+1) z.work:=rfl
 rw[e2]
 have t:=M.at (o:=.ins C d.dx (Ec d m z.dl (z.home+1) z.work)) k (y.at 0 rfl) fun _ z=>by cases z
 have R:=y.set (o':=.ins C d.dx (Ec d m z.dl (z.home+1) z.work)) 0 rfl
 generalize upd (upd Y m (.dK [])) d.p (.ins C d.dx (Ec d m z.dl (z.home+1) z.work))=W at R t ⊢
 intro l I
 have B:=R.repl (o:=LkO P w l []) 11 (by show 11<13;decide) I
 have L:=t.new (o:=LkO P w l []) I
 refine⟨_,rfl,d.p,C,d.dx,_,rfl,B.at 0 rfl,TC.cl,TC.n11,Za rfl,?_⟩
 have Z:Bb "looks" (.ref l) (Ec d m z.dl (z.home+1) z.work)=Ec d m l (z.home+1) z.work:=rfl
 rw[Z]
 have j:=L.at (o:=.ins C d.dx (Ec d m l (z.home+1) z.work)) k (B.at 0 rfl) fun _ z=>by cases z
 have u:=B.set (o':=.ins C d.dx (Ec d m l (z.home+1) z.work)) 0 rfl
 generalize upd (upd W l (LkO P w l [])) d.p (.ins C d.dx (Ec d m l (z.home+1) z.work))=H5 at u j ⊢
 have r:=j.tu
 refine q (fun b=>O b∨b=m∨b=l) ⟨z.ss,z.vs,z.fs,z.fi,z.la,z.hi,z.st,[],z.ca,[],z.home+1,z.work,m,l,z.cnt⟩ H5 ⟨r,j.but,fun b h=>.inl h,fun b h=>?_,j.al⟩ ⟨u,?_,Fh.stay r N.sa,Paired.imp' (fun v s ⟨a,U,V⟩=>⟨a,U,r a _ V⟩) N.fo,Paired.imp' (fun v s h=>h.stay r) N.fi,
  Paired.imp' (fun v s h=>h.stay r) N.la,N.hl,N.sl,(fun x G=>nomatch G),(fun x G=>nomatch G),N.tab,N.cap,Zt _,N.c2,Zt _,N.c4,fun b h=>?_⟩ rfl rfl rfl
 ·rcases h with h | rfl | rfl
  ·exact .inl h
  ·exact n.free D
  ·exact t.free I
 ·intro c J
  simp only[cells,Zr,Zcd,or_false] at J
  have g:=N.own
  rcases J with rfl | rfl | rfl | rfl | rfl | rfl | rfl | rfl | rfl | rfl | rfl | rfl | rfl
  ·exact .inl k
  ·exact .inl (g _ (Ze (i:=1) rfl))
  ·exact .inl (g _ (Ze (i:=2) rfl))
  ·exact .inl (g _ (Ze (i:=3) rfl))
  ·exact .inl (g _ (Ze (i:=4) rfl))
  ·exact .inl (g _ (Ze (i:=5) rfl))
  ·exact .inl (g _ (Ze (i:=6) rfl))
  ·exact .inl (g _ (Ze (i:=7) rfl))
  ·exact .inl (g _ (Ze (i:=8) rfl))
  ·exact .inl (g _ (Ze (i:=9) rfl))
  ·exact .inr (.inl rfl)
  ·exact .inr (.inr rfl)
  ·exact .inl (g _ (Ze (i:=12) rfl))
 ·rcases h with h | rfl | rfl
  ·obtain⟨o,e⟩:=N.lv b h
   exact j.al b o e
  ·exact⟨_,u.at 10 rfl⟩
  ·exact⟨_,u.at 11 rfl⟩
inductive spMb (P:Program) (w:World) (C:Addr) (vs:List V) (H:Hp) (Q:VK) (_:XK):Prop
 | mk (d:NA) (O:Addr→Prop) (z:NZ) (v u:V) (n:Nat) (s:Sg) (_:vs=[.ref d.p,v,.int n,u]) (_:NumAt P w C H d O z) (_:z.ss[n]?=some s) (_:Q (.bl true) H)
theorem ok_mb (F:Fun K "may_be" "Numbering.may_be" sMb f fd)(T:Txt K w.params mg)(TC:TxC K mg C):FnOk P w K mg base CX0 1 f fd ["self","saying","number","way"] (spMb P w C):=by
 obtain⟨g,e⟩:=T.lh
 refine Bs F ["self","saying","number","way","height"] fun c j A b o H l Q E m h=>?_
 obtain⟨d,O,z,v,u,n,s,rfl,N,a,q⟩:=h
 refine⟨_,Ab (An (i:=4) c.nd rfl (Or.inl rfl) (Ar Ax (Bh (pv 0) rfl) (pv 2) (fun _ _=>rfl)))
  (Ab (Bo (Ao op_le (pv 4) (Ch (by rfl) e (v:=.int 400) ⟨g,rfl⟩) (Aq _)) (Ah (Ap J2)) Av) pss_never),?_⟩
 dsimp only [Di,Cx.nox,Cx.wish]
 refine⟨_,rfl,d.p,C,d.dx,_,_,rfl,N.ob,TC.cl,TC.n5,rfl,_,rfl,d.lh,_,_,V.int (s.high:Nat),rfl,rfl,SqL.of (N.raw.at 5 rfl),Be (by rw[Zp,a];rfl),?_⟩
 have k:=N.cap s (Ze a)
 refine⟨_,rfl,_,_,rfl,rfl,_,rfl,?_⟩
 exact ifT (by lia) q
inductive spTo (P:Program) (w:World) (C:Addr) (vs:List V) (H:Hp) (Q:VK) (_:XK):Prop
 | mk (d:NA) (O:Addr→Prop) (z:NZ) (n:Nat) (s:Sg) (_:vs=[.ref d.p,.int n]) (_:NumAt P w C H d O z) (_:z.ss[n]?=some s) (_:s.inner≠[]) (_:∀ (t c1 c2:Addr) (k1 k2:WKey) (H' : Hp),Bq H H'→H' t=some (.tup [.ref c1,.ref c2])→WyAt H' k1 c1→WyAt H' k2 c2→Q (.ref t) H')
theorem form_ends {s:Sg}(h:s.inner≠[])(hi:∀ a∈s.inner,a∈ss):∃ a b,a∈ss∧b∈ss∧atI ((E5 ss s).map kV) 1=some (V.int (idx ss a:Nat))∧atI ((E5 ss s).map kV) (-1)=some (V.int (idx ss b:Nat)):=by
 cases s with
 | no=>exact absurd rfl h
 | lt x=>exact absurd rfl h
 | not a=>exact⟨a,a,hi a (by simp[Sg.inner]),hi a (by simp[Sg.inner]),rfl,rfl⟩
 | shown a=>exact⟨a,a,hi a (by simp[Sg.inner]),hi a (by simp[Sg.inner]),rfl,rfl⟩
 | bin j a b=>exact⟨a,b,hi a (by simp[Sg.inner]),hi b (by simp[Sg.inner]),rfl,rfl⟩
theorem wy_at {f:Bool}{H:Hp}(p:Paired (WyR f H) vs ss)(h:a∈ss):∃ c,atI vs (idx ss a:Nat)=some (.ref c)∧WyAt H (wy f a) c:=by
 have d:=Cd h
 obtain⟨v,e,c,rfl,b⟩:=Bx p d
 exact⟨c,Be e,b⟩
theorem ok_to (F:Fun K "turns_of" "Numbering.turns_of" sTo f fd)(TC:TxC K mg C):FnOk P w K mg base CX0 1 f fd ["self","number"] (spTo P w C):=by
 refine Bs F ["self","number","form"] fun x L A k S H M Q E R h=>?_
 obtain⟨d,O,z,n,s,rfl,N,g,j,q⟩:=h
 refine⟨_,Ab (An (i:=2) x.nd rfl (Or.inl rfl) (Ar Ax (Bh (pv 0) rfl) (pv 1) (fun _ _=>rfl)))
  (Ah (Ap (Bg (Aa (Ar Ax (Bh (pv 0) rfl) (Ar Az (pv 2) (Dl Cm Ad) (fun _ _=>rfl)) (fun _ _=>rfl)) (Aa (Ar Ax (Bh (pv 0) rfl) (Ar Az (pv 2) Ad (fun _ _=>rfl)) (fun _ _=>rfl)) Ac))))),?_⟩
 dsimp only [Di,Cx.nox,Cx.wish]
 obtain⟨v,m,e,rfl,c⟩:=Bx N.fo g
 obtain⟨a,b,u,I,y,J⟩:=form_ends (ss:=z.ss) j (N.tab.inner s (Ze g))
 obtain⟨B,l,o⟩:=wy_at N.fi I
 obtain⟨D,G,r⟩:=wy_at N.la u
 refine⟨_,rfl,d.p,C,d.dx,_,_,rfl,N.ob,TC.cl,TC.n2,rfl,_,rfl,d.lf,_,_,V.ref e,rfl,rfl,SqL.of (N.raw.at 2 rfl),Be m,?_⟩
 refine⟨_,rfl,d.p,C,d.dx,_,_,rfl,N.ob,TC.cl,TC.n6,rfl,_,rfl,_,rfl,e,_,_,_,rfl,rfl,SqT.of c,J,d.l1,_,_,_,rfl,rfl,SqL.of (N.raw.at 6 rfl),l,?_⟩
 refine⟨_,rfl,d.p,C,d.dx,_,_,rfl,N.ob,TC.cl,TC.n7,rfl,_,rfl,e,_,_,_,rfl,rfl,SqT.of c,y,d.l2,_,_,_,rfl,rfl,SqL.of (N.raw.at 7 rfl),G,small (Za rfl),fun t ht=>?_⟩
 exact q t B D _ _ _ (Aj ht) upd_same (o.stay (TuO.new ht)) (r.stay (TuO.new ht))
end
theorem B6 {K:PySem.W.Frag}{a:Addr}{xs:List V}{tt:TT}{te:TE}{τ:L2.St}{H1:Hp}{D:Addr}{Qd:Hp→Prop}(Pv:Nat→Hp→Prop)(h0:Pv 0 (upd H1 D (.lst [])))(hl:∀ i H,i≤xs.length→Pv i H→SqL K H a xs)(hs:∀ i x H,xs[i]?=some x→Pv i H→CpB D tt te (some x::τ) H (Pv (i+1)))(hd:∀ H,Pv xs.length H→Qd H) :
  CpW (Itl K a) D H1 Qd fun x H3 N=>CpB D tt te (some x::τ) H3 N :=
 comp_list (Q:=fun _ H=>Qd H) Pv h0 hl hs hd
theorem Jk {H:Hp}{s:Sg}(h:H a=some (.tup ((E5 ss s).map kV))):∃ r,H a=some (.tup (.str s.word::r))∧r.length≤1000∧(if Ga s.word then [] else r)=iL (Cz ss s):=by
 rw[J9]
 cases s with
 | no=>exact⟨_,h,by simp,rfl⟩
 | lt x=>exact⟨_,h,by simp,rfl⟩
 | not a=>exact⟨_,h,by simp,rfl⟩
 | shown a=>exact⟨_,h,by simp,rfl⟩
 | bin j a b=>exact⟨_,h,by simp,rfl⟩
theorem Fd (s:Sg):s.inner.length≤2:=by cases s <;> simp[Sg.inner]
theorem size_sum (s:Sg):(1:Int)+(s.inner.map fun a=>((a.size:Nat):Int)).sum=(s.size:Nat):=by
 cases s <;> simp[Sg.inner,Sg.size] <;> lia
theorem high_max (s:Sg):mxE (s.inner.map fun a=>a.high) (-1)+1=(s.high:Nat):=by
 cases s with
 | no=>rfl
 | lt x=>rfl
 | not a=>simp[Sg.inner,Sg.high,mxE,maxN]
 | shown a=>simp[Sg.inner,Sg.high,mxE,maxN]
 | bin j a b =>
  show ((max a.high (max b.high 0):Nat):Int)+1=((max (a.high+1) (b.high+1):Nat):Int)
  lia
theorem Raw.cons' {H H1:Hp}(r:Raw H cs)(sm:Bq H H1)(hl:H l=none)(e:H1 l=some o):Raw H1 ((l,o)::cs):=by
 have b:=(r.cons (o:=o) hl).1
 refine⟨b,fun c a=>?_⟩
 rcases Zr.mp a with rfl | a
 ·exact e
 ·exact sm _ _ (r.2 c a)
theorem nums_at {s:Sg}(hi:∀ a∈s.inner,a∈ss){i:Nat}(hx:(iL (Cz ss s))[i]?=some x):∃ b,s.inner[i]?=some b∧x=V.int (idx ss b:Nat)∧b∈ss:=by
 have c : ((Cz ss s).map fun (n:Nat)=>V.int (n:Int))[i]?=some x:=hx
 rw[Zp] at c
 unfold Cz at c
 rw[Zp] at c
 cases e:s.inner[i]? with
 | none=>rw[e] at c;cases c
 | some b =>
  rw[e] at c
  exact⟨b,rfl,(Zm c).symm,hi b (Ze e)⟩
theorem use_arg {H:Hp}{K:List V→Hp→Prop}{P:V→Hp→Prop}(h:∀ Q:VK,(∀ x H1,P x H1→Q x H1)→te σ H Q)(k:∀ x H1,P x H1→ta σ H1 fun xs H2=>K (x::xs) H2):tCons te ta σ H K:=h _ k
theorem Ek {H:Hp}{P:V→Hp→Prop}(h:∀ Q:VK,(∀ x H1,P x H1→Q x H1)→te σ H Q)(k:∀ x H1,P x H1→g x σ H1 (u D)):Fk (tAsg te g) u D σ H:=h _ fun x H1 a=>k x H1 a
theorem cut_ints (ns:List Int)(lo hi:Option Int):∃ ms:List Int,cutV (ns.map V.int) lo hi=ms.map V.int:=by
 unfold cutV
 exact⟨_,by rw[← List.map_drop,← List.map_take]⟩
theorem Raw.tail {H:Hp}(r:Raw H (x::cs)):Raw H cs:=⟨(Zbs.mp r.1).2,fun c a=>r.2 c (Zz _ a)⟩
theorem Iu {α β:Type}{F G:α→β→Prop}:∀ {xs:List α} {ys:List β},Paired F xs ys→(∀ x y,y∈ys→F x y→G x y)→Paired G xs ys
 | _,_,.nil,_=>.nil
 | _,_,.cons h t,f=>.cons (f _ _ (Z0 ..) h) (Iu t fun x y hy=>f x y (Zz _ hy))
theorem Dz (ss:List Sg)(s:Sg):(iL (Cz ss s)).length=s.inner.length:=by
 show ((Cz ss s).map _).length=_
 rw[Zl]
 unfold Cz
 rw[Zl]
theorem nums_ends {s:Sg}(h:s.inner≠[])(hi:∀ a∈s.inner,a∈ss)(f:Bool):∃ a,a∈ss∧atI (iL (Cz ss s)) (if f then 0 else -1)=some (V.int (idx ss a:Nat))∧s.stp f=a.stp f+1∧s.lfe f=a.lfe f:=by
 cases s with
 | no=>exact absurd rfl h
 | lt x=>exact absurd rfl h
 | not a=>exact⟨a,hi a (by simp[Sg.inner]),by cases f <;> rfl,rfl,rfl⟩
 | shown a=>exact⟨a,hi a (by simp[Sg.inner]),by cases f <;> rfl,rfl,rfl⟩
 | bin j a b =>
  cases f with
  | true=>exact⟨a,hi a (by simp[Sg.inner]),rfl,rfl,rfl⟩
  | false=>exact⟨b,hi b (by simp[Sg.inner]),rfl,rfl,rfl⟩
theorem key_leafK {s:Sg}(f:Bool)(h:s.inner=[]):E5 ss s=lfK (s.lfe f)∧s.stp f=0:=by
 cases s with
 | no=>exact⟨rfl,rfl⟩
 | lt x=>exact⟨rfl,rfl⟩
 | not a=>cases h
 | shown a=>cases h
 | bin j a b=>cases h
structure Kp (z z' : NZ):Prop where
 met:z'.met=z.met
 ca:z'.ca=z.ca
 lk:z'.lk=z.lk
 home:z'.home=z.home
 work:z'.work=z.work
 dm:z'.dm=z.dm
 dl:z'.dl=z.dl
inductive spNf (P:Program) (w:World) (C:Addr) (vs:List V) (H:Hp) (Q:VK) (_:XK):Prop
 | mk (d:NA) (O:Addr→Prop) (z:NZ) (tf:Addr) (v:V) (s:Sg) (_:vs=[.ref d.p,.ref tf,v]) (_:NumAt P w C H d O z) (_:SyO H v s) (_:H tf=some (.tup ((E5 z.ss s).map kV))) (_:(∀ a∈s.inner,a∈z.ss)) (_:s.high≤300) (_:z.cnt≤90000) (_:∀ (z' : NZ) (H' : Hp),Stp O O H H'→NumAt P w C H' d O z'→z'.ss=add z.ss s→z'.cnt≤z.cnt+1→Kp z z'→Q (.int (idx z'.ss s:Nat)) H')
section
variable {P:Program} {w:World} {K:PySem.W.Frag} {mg:Str→Option Value} {base:Heap}
theorem ok_nf (F:Fun K "number_form" "Numbering.number_form" sNf f fd)(T:Txt K w.params mg)(TC:TxC K mg C)(GI:Df P w K mg base CX0 1 "inner_of" ["saying"] (spIn K))(GO:Df P w K mg base CX0 1 "one_step_more" ["way"] spOs) :
  FnOk P w K mg base CX0 2 f fd ["self","form","saying"] (spNf P w C):=by
 obtain⟨tl,mL⟩:=T.lh
 refine Bs F ["self","form","saying","number","inner","heights","by_chance"] fun sc b9 A cq s0 H vs Q E hr h=>?_
 obtain⟨d,O,z,J,v,s,rfl,N,hy,L,hi,bw,cy,q⟩:=h
 have hu:=hu_of hr
 have b2:A.units+3<cLine:=by have:=hr.un;have e:(A.deeper (envOfC "Numbering.number_form" (Bd sNf) s0.heap.objs.size f b9)).units=A.units+3:=rfl;lia
 refine⟨_,Ab (Bo (pt_cmp (pc_din hu (pv 1) (Bh (pv 0) rfl))) (Ah (Ap (pe_dget hu (Bh (pv 0) rfl) (pv 1) (fun _ _=>rfl)))) Av)
  (Ab (An (i:=3) sc.nd rfl (Or.inl rfl) (A3 A0 (by rfl) T.len Zax (Aa (Bh (pv 0) rfl) Ac)))
  (Ab (An (i:=4) sc.nd rfl (Or.inl rfl) (Ak GI hr A6 (Aa (pv 1) Ac)))
  (Ab (Ia (i:=5) sc.nd rfl (Or.inl rfl) rfl [("self", 0)] (C3 (pv 4)) (fun _ _ _ _=>Ep) (fun C s₀ H₀ ex=>Ar (show IxR _ (rIxL K) from Ax) (show PE _ _ (tFld K (tVar 1) "heights") from Bh (pv 1) rfl) (pv 0) (fun _ _=>rfl)))
  (Ab (Ff hu (Bh (pv 0) rfl) (pv 1) (pv 3) rfl)
  (Ab (Bj (Cy Zq Zx Zy Ba (Bh (pv 0) rfl) (Aa (pv 1) Ac)))
  (Ab (Bj (Cy Zq Zx Zy Ba (Bh (pv 0) rfl) (Aa (pv 2) Ac)))
  (Ab (Bj (Cy Zq Zx Zy Ba (Bh (pv 0) rfl) (Aa (Au Ca Ad (A3 (call_sum rfl) (by rfl) T.sum PyProof.Rows.boot_sum (Aa
    (Ej rfl [("self", 0)] (C3 (pv 4)) (fun _ _ _ _=>Ep) (fun C s₀ H₀ ex=>Ar (show IxR _ (rIxL K) from Ax) (show PE _ _ (tFld K (tVar 1) "sizes") from Bh (pv 1) rfl) (pv 0) (fun _ _=>rfl))) Ac))) Ac)))
  (Ab (Bj (Cy Zq Zx Zy Ba (Bh (pv 0) rfl) (Aa (Au Ca (pe_maxe rfl (by rfl) T.max (pv 5) (Dl Cm Ad)) Ad) Ac)))
  (Ab (Bj (Cy Zq Zx Zy Ba (Bh (pv 0) rfl) (Aa (Cp (Bw (pv 4) (fun _=>rfl)) (Ak GO hr A6 (Aa (Ar Ax (Bh (pv 0) rfl) (Ar Ax (pv 4) Ad (fun _ _=>rfl)) (fun _ _=>rfl)) Ac)) (Bg (Aa Ad (Aa (pv 1) Ac)))) Ac)))
  (Ab (Bj (Cy Zq Zx Zy Ba (Bh (pv 0) rfl) (Aa (Cp (Bw (pv 4) (fun _=>rfl)) (Ak GO hr A6 (Aa (Ar Ax (Bh (pv 0) rfl) (Ar Ax (pv 4) (Dl Cm Ad) (fun _ _=>rfl)) (fun _ _=>rfl)) Ac)) (Bg (Aa Ad (Aa (pv 1) Ac)))) Ac)))
  (Ab (Bj (Cy Zq Zx Zy Ba (Bh (pv 0) rfl) (Aa (Cp (Ao (op_gtL b2) (Jv sl_list (pv 5) (po_some Ad) po_none) (Jv sl_list (pv 5) po_none (po_some Ad)) (Aq _)) Ad Ad) Ac)))
  (Ab (An (i:=6) sc.nd rfl (Or.inl rfl) (pe_and (C1 Cw (A3 A0 (by rfl) T.len Zax (Aa (pv 4) Ac)) Ad (Aq _)) (Ih (C1 Ht (A3 (call_minL rfl) (by rfl) T.min PyProof.Rows.boot_min (Aa (pv 5) Ac)) (Ch (by rfl) mL (v:=.int 400) ⟨tl,rfl⟩) (Aq _)))))
  (Ab (Bj (Cy Zq Zx Zy Ba (Bh (pv 0) rfl) (Aa (Cp (Bw (pv 6) (fun _=>rfl)) (Au Ca Ad (Au B9 (Au op_shr (Au G0 (pv 3) Ad) Ad) Ad)) (Ar Ax (Bh (pv 0) rfl) (pv 3) (fun _ _=>rfl))) Ac)))
  (Ah (Ap (pv 3)))))))))))))))),?_⟩
 dsimp only [Di,Cx.nox,Cx.wish]
 have hv:=valV_kvs (s:=s) N.tab hi
 have lf:=N.fo.length
 refine Co fun U1 q1=>?_
 refine⟨_,rfl,_,rfl,d.p,C,d.dx,_,_,rfl,N.ob,TC.cl,TC.n3,rfl,d.dn,_,rfl,DGet.t (N.raw.at 3 rfl) L,_,rfl,?_⟩
 rw[hv]
 by_cases Y:s∈z.ss
 ·rw[Zw Y]
  refine Eg ?_
  have g:DGet H d.dn (.ref J) (some (V.int (idx z.ss s:Nat))):=by
   have:=DGet.t (N.raw.at 3 rfl) L
   rw[hv,Zw Y] at this
   exact this
  refine⟨_,rfl,d.p,C,d.dx,_,_,rfl,N.ob,TC.cl,TC.n3,rfl,_,rfl,d.dn,_,rfl,g,?_⟩
  exact q z H Stp.refl N (Ie Y).symm (Zbp _) ⟨rfl,rfl,rfl,rfl,rfl,rfl,rfl⟩
 rw[Zs Y]
 refine Cv ?_
 rw[Zs Y] at hv
 have c4:=N.c4
 -- number,inner
 dsimp only [tNext]
 rw[q1]
 refine Am fun U2 q2 D2 n2=>⟨_,rfl,d.p,C,d.dx,_,_,rfl,N.ob,TC.cl,TC.n2,rfl,d.lf,_,rfl,.inl (SqL.of (N.raw.at 2 rfl)),n2 _ _ ?_⟩
 clear n2 D2
 obtain⟨r,b1,b3,b5⟩:=Jk L
 rw[q2]
 refine Am fun U3 q3 D3 n3=>⟨_,rfl,J,s.word,r,rfl,SqT.of b1,b3,fun li H1 a3 ck ad=>n3 _ _ ?_⟩
 clear n3 D3
 rw[b5] at ad
 have r1:Raw H1 ((li,.lst (iL (Cz z.ss s)))::cells P w C d z):=N.raw.cons' a3 ck ad
 have b0:Stp (fun b=>b∈(cells P w C d z).map (·.1)) (fun b=>b∈(cells P w C d z).map (·.1)) H H1:=Stp.same a3
 have il:=Fd s
 -- heights
 rw[q3]
 refine Am fun U4 q4 D4 n4=>?_
 refine⟨_,rfl,li,rfl,⟨_,SqL.of ad⟩,fun D hD=>?_⟩
 refine B6 (xs:=iL (Cz z.ss s)) (fun i j=>j=upd H1 D (.lst ((s.inner.take i).map fun b=>V.int (b.high:Nat)))) rfl (fun i j _ e=>by rw[e];exact SqL.of (by rw[Ai (Ae ad hD)];exact ad)) ?_ ?_
 ·rintro i x j hx rfl
  obtain⟨b,hb,rfl,ai⟩:=nums_at hi hx
  have bo:=r1.new (l:=D) (o:=.lst ((s.inner.take i).map fun b=>V.int (b.high:Nat))) hD
  refine cpY ?_
  refine⟨_,rfl,d.p,C,d.dx,_,_,rfl,bo.at 1 rfl,TC.cl,TC.n5,rfl,_,rfl,d.lh,_,_,V.int (b.high:Nat),rfl,rfl,SqL.of (bo.at 6 rfl),Be (by rw[Zp,Cd ai];rfl),_,upd_same,Bf (by rw[Zl,Z6];lia),?_⟩
  rw[C4,Zao,hb,Zac]
  rfl
 rintro j rfl
 rw[Dz,Zaz]
 refine n4 _ _ ?_
 clear n4 D4
 have r2:=r1.cons (l:=D) (o:=.lst (s.inner.map fun b=>V.int (b.high:Nat))) hD
 have am:=b0.new (o:=.lst (s.inner.map fun b=>V.int (b.high:Nat))) hD
 have bh:=am.tu _ _ L
 generalize upd H1 D (.lst (s.inner.map fun b=>V.int (b.high:Nat)))=H2 at r2 am bh ⊢
 -- numbers[form]=number
 have B:∀ (i:Nat) {a:Addr} {o:HO},(cells P w C d z)[i]?=some (a,o)→a∈(cells P w C d z).map (·.1):=fun i a o e=>Za2 (f:=(·.1)) (Ze e)
 have cx:(kvs z.ss).length=z.ss.length:=by unfold kvs;rw[Zl]
 rw[q4]
 refine Am fun U5 q5 D5 n5=>⟨_,rfl,_,rfl,d.p,C,d.dx,_,_,rfl,r2.at 2 rfl,TC.cl,TC.n3,rfl,_,rfl,d.dn,_,rfl,DPut.t (r2.at 5 rfl) bh (Bf (by lia)),n5 _ _ ?_⟩
 clear n5 D5
 have cn:C9 (kvs z.ss) (E5 z.ss s) (V.int (z.fs.length:Nat))=kvs (z.ss++[s]):=by rw[putK_new _ hv,kvs_snoc N.tab Y hi,lf]
 rw[cn]
 have ba:=am.at (o:=.dT (kvs (z.ss++[s]))) (B 3 rfl) (r2.at 5 rfl) fun _ z=>by cases z
 have r3:=r2.set (o':=.dT (kvs (z.ss++[s]))) 5 rfl
 generalize upd H2 d.dn (.dT (kvs (z.ss++[s])))=H3 at r3 ba ⊢
 -- forms.append(form)
 rw[q5]
 refine Am fun U6 q6 D6 n6=>⟨_,rfl,d.p,C,d.dx,_,_,rfl,r3.at 2 rfl,TC.cl,TC.n2,rfl,.inl ⟨rfl,_,SqL.of (r3.at 4 rfl)⟩,_,rfl,d.lf,_,_,rfl,rfl,r3.at 4 rfl,Bf (by lia),n6 _ _ ?_⟩
 clear n6 D6
 have bm:=ba.lst (o:=.lst (z.fs++[.ref J])) (B 2 rfl) (r3.at 4 rfl)
 have r4:=r3.set (o':=.lst (z.fs++[.ref J])) 4 rfl
 generalize upd H3 d.lf (.lst (z.fs++[.ref J]))=H4 at r4 bm ⊢
 -- sayings.append(saying)
 have lv:=N.sa.length
 rw[q6]
 refine Am fun U7 q7 D7 n7=>⟨_,rfl,d.p,C,d.dx,_,_,rfl,r4.at 2 rfl,TC.cl,TC.n1,rfl,.inl ⟨rfl,_,SqL.of (r4.at 3 rfl)⟩,_,rfl,d.ls,_,_,rfl,rfl,r4.at 3 rfl,Bf (by lia),n7 _ _ ?_⟩
 clear n7 D7
 have bn:=bm.lst (o:=.lst (z.vs++[v])) (B 1 rfl) (r4.at 3 rfl)
 have r5:=r4.set (o':=.lst (z.vs++[v])) 3 rfl
 generalize upd H4 d.ls (.lst (z.vs++[v]))=H5 at r5 bn ⊢
 -- sizes.append(1+sum(..))
 rw[q7]
 refine Am fun U8 q8 D8 n8=>?_
 refine⟨_,rfl,d.p,C,d.dx,_,_,rfl,r5.at 2 rfl,TC.cl,TC.n4,rfl,.inl ⟨rfl,_,SqL.of (r5.at 6 rfl)⟩,_,rfl,li,rfl,⟨_,SqL.of (r5.at 1 rfl)⟩,fun D1 af=>?_⟩
 have aw:=r5.at 1 rfl
 refine B6 (xs:=iL (Cz z.ss s)) (fun i j=>j=upd H5 D1 (.lst ((s.inner.take i).map fun b=>V.int (b.size:Nat)))) rfl (fun i j _ e=>by rw[e];exact SqL.of (by rw[Ai (Ae aw af)];exact aw)) ?_ ?_
 ·rintro i x j hx rfl
  obtain⟨b,hb,rfl,ai⟩:=nums_at hi hx
  have a7:=r5.new (l:=D1) (o:=.lst ((s.inner.take i).map fun b=>V.int (b.size:Nat))) af
  refine cpY ?_
  refine⟨_,rfl,d.p,C,d.dx,_,_,rfl,a7.at 2 rfl,TC.cl,TC.n4,rfl,_,rfl,d.lz,_,_,V.int (b.size:Nat),rfl,rfl,SqL.of (a7.at 6 rfl),Be (by rw[Zp,Cd ai];rfl),_,upd_same,Bf (by rw[Zl,Z6];lia),?_⟩
  rw[C4,Zao,hb,Zac]
  rfl
 rintro j rfl
 rw[Dz,Zaz]
 refine⟨D1,s.inner.map fun b=>((b.size:Nat):Int),rfl,SqL.of (by rw[upd_same,Zda];rfl),_,_,rfl,rfl,?_⟩
 dsimp only
 rw[size_sum]
 have ag:=r5.new (l:=D1) (o:=.lst (s.inner.map fun b=>V.int (b.size:Nat))) af
 have au:=bn.new (o:=.lst (s.inner.map fun b=>V.int (b.size:Nat))) af
 generalize upd H5 D1 (.lst (s.inner.map fun b=>V.int (b.size:Nat)))=bv at ag au ⊢
 refine⟨d.lz,_,_,rfl,rfl,ag.at 6 rfl,Bf (by rw[Zl];lia),n8 _ _ ?_⟩
 clear n8 D8
 have a5:=au.lst (o:=.lst ((z.ss.map fun s=>V.int (s.size:Nat))++[V.int (s.size:Nat)])) (B 4 rfl) (ag.at 6 rfl)
 have r6:=ag.set (o':=.lst ((z.ss.map fun s=>V.int (s.size:Nat))++[V.int (s.size:Nat)])) 6 rfl
 generalize upd bv d.lz (.lst ((z.ss.map fun s=>V.int (s.size:Nat))++[V.int (s.size:Nat)]))=H6 at r6 a5 ⊢
 -- heights.append(max(..)+1)
 rw[q8]
 refine Am fun U9 q9 D9 n9=>?_
 refine⟨_,rfl,d.p,C,d.dx,_,_,rfl,r6.at 2 rfl,TC.cl,TC.n5,rfl,.inl ⟨rfl,_,SqL.of (r6.at 7 rfl)⟩,_,rfl,_,rfl,D,s.inner.map (·.high),-1,rfl,rfl,SqL.of (by rw[Zda];exact r6.at 0 rfl),_,_,rfl,rfl,?_⟩
 dsimp only
 rw[high_max]
 refine⟨d.lh,_,_,rfl,rfl,r6.at 7 rfl,Bf (by rw[Zl];lia),n9 _ _ ?_⟩
 clear n9 D9
 have ab:=a5.lst (o:=.lst ((z.ss.map fun s=>V.int (s.high:Nat))++[V.int (s.high:Nat)])) (B 5 rfl) (r6.at 7 rfl)
 have Z:=r6.set (o':=.lst ((z.ss.map fun s=>V.int (s.high:Nat))++[V.int (s.high:Nat)])) 7 rfl
 generalize upd H6 d.lh (.lst ((z.ss.map fun s=>V.int (s.high:Nat))++[V.int (s.high:Nat)]))=H7 at Z ab ⊢
 have cc:Paired (WyR true H7) z.fi z.ss:=Paired.imp' (fun v s h=>h.stay ab.tu) N.fi
 have cf:Paired (WyR false H7) z.la z.ss:=Paired.imp' (fun v s h=>h.stay ab.tu) N.la
 have cr:=N.fi.length
 have cs:=N.la.length
 have a6:=ab.tu _ _ L
 -- firsts.append(..)
 rw[q9]
 refine Am fun ct b7 bz bi=>?_
 refine⟨_,rfl,d.p,C,d.dx,_,_,rfl,Z.at 2 rfl,TC.cl,TC.n6,rfl,.inl ⟨rfl,_,SqL.of (Z.at 8 rfl)⟩,?_⟩
 refine use_arg (P:=fun x j=>∃ c,x = .ref c∧Bq H7 j∧WyAt j (wy true s) c) (fun Qf R=>?_) ?_
 ·by_cases G:s.inner=[]
  ·have e0:iL (Cz z.ss s)=[]:=by unfold Cz;rw[G];rfl
   have ax:=Z.at 1 rfl
   rw[e0] at ax
   obtain⟨ek,e1⟩:=key_leafK (ss:=z.ss) true G
   refine⟨_,rfl,false,.inl ⟨_,SqL.of ax,rfl⟩,Cv ⟨_,rfl,small (Za rfl),fun c y=>R _ _ ⟨c,rfl,Aj y,J,?_,?_⟩⟩⟩
   ·rw[upd_same];show _=some (HO.tup [V.int (s.stp true:Nat),.ref J]);rw[e1];rfl
   ·rw[Ai (Ae a6 y),a6,ek];rfl
  ·obtain⟨a,ha,ay,e1,e2⟩:=nums_ends (ss:=z.ss) G hi true
   obtain⟨S,f1,e,w1,w2⟩:=wy_at cc ha
   have an:(!(iL (Cz z.ss s)).isEmpty)=true:=by
    have:=Dz z.ss s
    cases e:iL (Cz z.ss s) with
    | nil=>rw[e] at this;exact absurd (Zai this.symm) G
    | cons _ _=>rfl
   refine⟨_,rfl,true,.inl ⟨_,SqL.of (Z.at 1 rfl),an.symm⟩,Eg ?_⟩
   refine⟨_,rfl,d.p,C,d.dx,_,_,rfl,Z.at 2 rfl,TC.cl,TC.n6,rfl,_,rfl,li,_,_,_,rfl,rfl,SqL.of (Z.at 1 rfl),ay,d.l1,_,_,_,rfl,rfl,SqL.of (Z.at 8 rfl),f1,S,e,a.stp true,lfK (a.lfe true),rfl,w1,w2,fun c' j sm wk=>?_⟩
   refine R _ _ ⟨c',rfl,sm,?_⟩
   unfold wy
   rw[e2]
   obtain⟨e',g1,g2⟩:=wk
   exact⟨e',by rw[g1,e1],g2⟩
 rintro x ao ⟨S,rfl,aj,w1⟩
 have ac:=Z.same aj
 have bt:=ab.trans (Stp.same aj)
 refine⟨d.l1,_,_,rfl,rfl,ac.at 8 rfl,Bf (by lia),bi _ _ ?_⟩
 clear bi bz
 have ar:=bt.lst (o:=.lst (z.fi++[.ref S])) (B 6 rfl) (ac.at 8 rfl)
 have bk:=w1.stay (TuO.lst (o:=.lst (z.fi++[.ref S])) (ac.at 8 rfl))
 have ce:Paired (WyR false ao) z.la z.ss:=Paired.imp' (fun v s h=>h.stay (Al aj)) cf
 have ah:=Paired.imp' (fun v s (h:WyR false ao v s)=>h.stay (TuO.lst (o:=.lst (z.fi++[.ref S])) (ac.at 8 rfl))) ce
 have W:=ac.set (o':=.lst (z.fi++[.ref S])) 8 rfl
 have av:=ar.tu _ _ L
 generalize upd ao d.l1 (.lst (z.fi++[.ref S]))=H8 at W ar bk ah av ⊢
 -- lasts.append(..)
 rw[b7]
 refine Am fun cv ci cj bp=>?_
 refine⟨_,rfl,d.p,C,d.dx,_,_,rfl,W.at 2 rfl,TC.cl,TC.n7,rfl,.inl ⟨rfl,_,SqL.of (W.at 9 rfl)⟩,?_⟩
 refine use_arg (P:=fun x j=>∃ c,x = .ref c∧Bq H8 j∧WyAt j (wy false s) c) (fun Qf R=>?_) ?_
 ·by_cases G:s.inner=[]
  ·have e0:iL (Cz z.ss s)=[]:=by unfold Cz;rw[G];rfl
   have aq:=W.at 1 rfl
   rw[e0] at aq
   obtain⟨ek,e1⟩:=key_leafK (ss:=z.ss) false G
   refine⟨_,rfl,false,.inl ⟨_,SqL.of aq,rfl⟩,Cv ⟨_,rfl,small (Za rfl),fun c y=>R _ _ ⟨c,rfl,Aj y,J,?_,?_⟩⟩⟩
   ·rw[upd_same];show _=some (HO.tup [V.int (s.stp false:Nat),.ref J]);rw[e1];rfl
   ·rw[Ai (Ae av y),av,ek];rfl
  ·obtain⟨a,ha,ay,e1,e2⟩:=nums_ends (ss:=z.ss) G hi false
   obtain⟨U,f2,e,w3,w4⟩:=wy_at ah ha
   have an:(!(iL (Cz z.ss s)).isEmpty)=true:=by
    have:=Dz z.ss s
    cases e:iL (Cz z.ss s) with
    | nil=>rw[e] at this;exact absurd (Zai this.symm) G
    | cons _ _=>rfl
   refine⟨_,rfl,true,.inl ⟨_,SqL.of (W.at 1 rfl),an.symm⟩,Eg ?_⟩
   refine⟨_,rfl,d.p,C,d.dx,_,_,rfl,W.at 2 rfl,TC.cl,TC.n7,rfl,_,rfl,_,rfl,li,_,_,_,rfl,rfl,SqL.of (W.at 1 rfl),ay,d.l2,_,_,_,rfl,rfl,SqL.of (W.at 9 rfl),f2,U,e,a.stp false,lfK (a.lfe false),rfl,w3,w4,fun c' j sm wk=>?_⟩
   refine R _ _ ⟨c',rfl,sm,?_⟩
   unfold wy
   rw[e2]
   obtain⟨e',g1,g2⟩:=wk
   exact⟨e',by rw[g1,e1],g2⟩
 rintro x b6 ⟨U,rfl,ak,w2⟩
 have aa:=W.same ak
 have br:=ar.trans (Stp.same ak)
 have cd:=bk.stay (Al ak)
 refine⟨d.l2,_,_,rfl,rfl,aa.at 9 rfl,Bf (by lia),bp _ _ ?_⟩
 clear bp cj
 have bj:=br.lst (o:=.lst (z.la++[.ref U])) (B 7 rfl) (aa.at 9 rfl)
 have a1:=cd.stay (TuO.lst (o:=.lst (z.la++[.ref U])) (aa.at 9 rfl))
 have a9:=w2.stay (TuO.lst (o:=.lst (z.la++[.ref U])) (aa.at 9 rfl))
 have r9:=aa.set (o':=.lst (z.la++[.ref U])) 9 rfl
 generalize upd b6 d.l2 (.lst (z.la++[.ref U]))=H9 at r9 bj a1 a9 ⊢
 -- highest.append(..)
 rw[ci]
 refine Am fun cu cm cp bg=>?_
 have hl:=N.hl
 have eh:(s.inner.map fun b=>V.int (b.high:Nat))=(s.inner.map fun b=>((b.high:Nat):Int)).map V.int:=by rw[Zda];rfl
 refine⟨_,rfl,d.p,C,d.dx,_,_,rfl,r9.at 2 rfl,TC.cl,TC.n8,rfl,.inl ⟨rfl,_,SqL.of (r9.at 10 rfl)⟩,?_⟩
 refine use_arg (P:=fun x j=>∃ n:Int,x = .int n∧Bq H9 j) (fun Qf R=>?_) ?_
 ·refine⟨_,rfl,1,rfl,D,_,rfl,SqL.of (r9.at 0 rfl),fun p1 bd=>?_⟩
  have eD:=(r9.new (l:=p1) (o:=.lst (cutV (s.inner.map fun b=>V.int (b.high:Nat)) (some 1) none)) bd).at 0 rfl
  refine⟨_,rfl,1,rfl,D,_,rfl,SqL.of eD,fun p2 a0=>?_⟩
  obtain⟨m1,bc⟩:=cut_ints (s.inner.map fun b=>((b.high:Nat):Int)) (some 1) none
  obtain⟨m2,be⟩:=cut_ints (s.inner.map fun b=>((b.high:Nat):Int)) none (some 1)
  rw[← eh] at bc be
  have sm:=(Aj (o:=.lst (cutV (s.inner.map fun b=>V.int (b.high:Nat)) (some 1) none)) bd).trans (Aj (o:=.lst (cutV (s.inner.map fun b=>V.int (b.high:Nat)) none (some 1))) a0)
  refine⟨p1,p2,m1,m2,rfl,rfl,?_,?_,fun cb=>⟨cb,rfl,Gv (fun _=>R _ _ ⟨2,rfl,sm⟩) (fun _=>R _ _ ⟨1,rfl,sm⟩)⟩⟩
  ·rw[Ai (Ae (upd_same (H:=H9) (a:=p1)) a0),upd_same,bc]
  ·rw[upd_same,be]
 rintro x bs ⟨k,rfl,X⟩
 have M:=r9.same X
 have az:=bj.trans (Stp.same X)
 refine⟨d.l3,_,_,rfl,rfl,M.at 10 rfl,Bf (by rw[Zl];lia),bg _ _ ?_⟩
 clear bg cp
 have as:=az.lst (o:=.lst (z.hi.map V.int++[.int k])) (B 8 rfl) (M.at 10 rfl)
 have bq:=(a1.stay (Al X)).stay (TuO.lst (o:=.lst (z.hi.map V.int++[.int k])) (M.at 10 rfl))
 have a4:=(a9.stay (Al X)).stay (TuO.lst (o:=.lst (z.hi.map V.int++[.int k])) (M.at 10 rfl))
 have u:=M.set (o':=.lst (z.hi.map V.int++[.int k])) 10 rfl
 generalize upd bs d.l3 (.lst (z.hi.map V.int++[.int k]))=b4 at u as bq a4 ⊢
 -- by_chance
 rw[cm]
 refine Ek (P:=fun x j=>x = .bl false∧j=b4) (fun Qf R=>?_) ?_
 ·refine⟨_,rfl,li,_,rfl,.inl (SqL.of (u.at 1 rfl)),rfl,_,rfl,Gv (fun h=>?_) (fun _=>R _ _ ⟨rfl,rfl⟩)⟩
  have h2:(iL (Cz z.ss s)).length=2:=by
   have:=V.int.inj (Zaf h)
   lia
  rw[Dz] at h2
  refine⟨_,rfl,D,s.inner.map fun b=>((b.high:Nat):Int),rfl,SqL.of (by rw[← eh];exact u.at 0 rfl),by rw[Zl];lia,fun m cg=>⟨_,_,rfl,rfl,?_⟩⟩
  obtain⟨b,hb,rfl⟩:=Zar.mp cg
  have cw:=N.cap b (hi b hb)
  try dsimp only
  rw[show decide ((400:Int)<((b.high:Nat):Int))=false from Z9 (by lia)]
  exact R _ _ ⟨rfl,rfl⟩
 rintro x j ⟨rfl,rfl⟩
 -- strays.append(..)
 have sl:=N.sl
 refine⟨_,rfl,d.p,C,d.dx,_,_,rfl,u.at 2 rfl,TC.cl,TC.n9,rfl,.inl ⟨rfl,_,SqL.of (u.at 11 rfl)⟩,?_⟩
 have bu:(z.hi.map V.int++[V.int k])[z.fs.length]?=some (V.int k):=by
  rw[Zag (by rw[Zl];lia),Zl,show z.fs.length - z.hi.length=0 by lia]
  rfl
 refine⟨_,rfl,false,rfl,Cv ⟨_,rfl,d.p,C,d.dx,_,_,rfl,u.at 2 rfl,TC.cl,TC.n8,rfl,_,rfl,d.l3,_,_,V.int k,rfl,rfl,SqL.of (u.at 10 rfl),Be bu,?_⟩⟩
 refine⟨d.l4,_,_,rfl,rfl,u.at 11 rfl,Bf (by rw[Zl];lia),?_⟩
 have I:=as.lst (o:=.lst (z.st.map V.int++[.int k])) (B 9 rfl) (u.at 11 rfl)
 have bb:=bq.stay (TuO.lst (o:=.lst (z.st.map V.int++[.int k])) (u.at 11 rfl))
 have a2:=a4.stay (TuO.lst (o:=.lst (z.st.map V.int++[.int k])) (u.at 11 rfl))
 have bf:=u.set (o':=.lst (z.st.map V.int++[.int k])) 11 rfl
 generalize upd j d.l4 (.lst (z.st.map V.int++[.int k]))=ae at bf I bb a2 ⊢
 refine⟨_,rfl,?_⟩
 have tu:=I.tu
 have bx:Stp O O H ae:=⟨tu,fun b o n e=>I.but b o (fun h=>n (by obtain⟨c,y,e⟩:=Zar.mp h;rw[← e];exact N.own c y)) e,fun _ h=>h,fun _ h=>.inl h,I.al⟩
 have b8:∀ b o,(∀ c∈cells P w C d z,b≠c.1)→H b=some o→ae b=some o:=fun b o n e=>I.but b o (fun h=>by obtain⟨c,y,e⟩:=Zar.mp h;exact n c y e.symm) e
 have a8:Pre z.ss (z.ss++[s]):=⟨[s],rfl⟩
 have q':=q ⟨z.ss++[s],z.vs++[v],z.fs++[.ref J],z.fi++[.ref S],z.la++[.ref U],z.hi++[k],z.st++[k],z.met,z.ca,z.lk,z.home,z.work,z.dm,z.dl,z.cnt+1⟩ ae bx ?_ (add_new Y).symm (Zd _) ⟨rfl,rfl,rfl,rfl,rfl,rfl,rfl⟩
 ·have e:idx (z.ss++[s]) s=z.fs.length:=by rw[Gq Y,lf]
  rw[show V.int ((z.fs.length:Nat):Int)=V.int (idx (z.ss++[s]) s:Nat) by rw[e]]
  exact q'
 have ch : Paired (FoR (z.ss++[s]) ae) z.fs z.ss:=Iu N.fo fun v t ht h=>by
  obtain⟨a,h1,h2⟩:=h
  exact⟨a,h1,by rw[Gn a8 (N.tab.inner t ht)];exact tu a _ h2⟩
 refine⟨?_,?_,Zc9 (Fh.stay tu N.sa) (hy.stay tu),Zc9 ch ⟨J,rfl,?_⟩,Zc9 (Paired.imp' (fun v s h=>h.stay tu) N.fi) ⟨S,rfl,bb⟩,Zc9 (Paired.imp' (fun v s h=>h.stay tu) N.la) ⟨U,rfl,a2⟩,?_,?_,?_,?_,.snoc N.tab Y hi,?_,Zap N.c1,Zap N.c2,Zap N.c3,?_,fun b h=>let ⟨o,e⟩:=N.lv b h;I.al b o e⟩
 ·have co:Raw ae ((cells P w C d ⟨z.ss++[s],z.vs++[v],z.fs++[.ref J],z.fi++[.ref S],z.la++[.ref U],z.hi++[k],z.st++[k],z.met,z.ca,z.lk,z.home,z.work,z.dm,z.dl,z.cnt+1⟩)):=by
   have e1:(z.ss++[s]).map (fun s=>V.int (s.size:Nat))=(z.ss.map fun s=>V.int (s.size:Nat))++[V.int (s.size:Nat)]:=Zac ..
   have e2:(z.ss++[s]).map (fun s=>V.int (s.high:Nat))=(z.ss.map fun s=>V.int (s.high:Nat))++[V.int (s.high:Nat)]:=Zac ..
   have e3:(z.hi++[k]).map V.int=z.hi.map V.int++[V.int k]:=Zac ..
   have e4:(z.st++[k]).map V.int=z.st.map V.int++[V.int k]:=Zac ..
   unfold cells
   rw[e1,e2,e3,e4]
   exact (bf.tail).tail
  exact co
 ·intro c y
  obtain⟨c',ap,e⟩:=Zar.mp (show c.1∈(cells P w C d z).map (·.1) from Za2 (f:=(·.1)) y)
  rw[← e]
  exact N.own c' ap
 ·rw[Gn a8 hi]
  exact tu _ _ L
 ·rw[Zv,Zv,N.hl];rfl
 ·rw[Zv,Zv,N.sl];rfl
 ·intro x hx
  obtain⟨n,t,h1,h2,h0,h3⟩:=N.me x hx
  exact⟨n,t,h1,by rw[Zat (Zj.mp h2).1];exact h2,h0,h3.stay tu⟩
 ·intro x hx
  obtain⟨h1,h2,h3,ns,h4,h5,h6⟩:=N.lk x hx
  refine⟨h1.stay tu,h2,fun c y=>?_,ns,?_,Zap h5,h6⟩
  ·obtain⟨c',ap,e⟩:=Zar.mp (show c.1∈(cells P w C d z).map (·.1) from Za2 (f:=(·.1)) y)
   rw[← e]
   exact h3 c' ap
  ·exact b8 x.2.2 _ (fun c y=>(h3 c y).symm) h4
 ·intro t ht
  rcases Zaa.mp ht with h | h
  ·exact N.cap t h
  ·rw[Zg.mp h];exact bw
 ·rw[Zv]
  exact Zbm N.c4
end
theorem Ge {H:Hp}(h:a≠b):upd (upd H a x) b y=upd (upd H b y) a x:=by
 funext c
 by_cases d:c=a
 ·subst d
  rw[Ai h,upd_same,upd_same]
 ·by_cases e:c=b
  ·subst e
   rw[upd_same,Ai d,upd_same]
  ·rw[Ai e,Ai d,Ai d,Ai e]
section
variable {P:Program} {w:World} {C:Addr} {H H' : Hp} {d:NA} {O:Addr→Prop} {z:NZ}
theorem NumAt.cell (N:NumAt P w C H d O z)(i:Nat)(e:(cells P w C d z)[i]?=some (a,o))(ho:∀ xs,HO.tup xs≠o)(z' : NZ)(ec:cells P w C d z'=(cells P w C d z).set i (a,o'))(es:z'.ss=z.ss∧z'.vs=z.vs∧z'.fs=z.fs∧z'.fi=z.fi∧z'.la=z.la∧z'.hi=z.hi∧z'.st=z.st)(hc:z.cnt≤z'.cnt)(hme:∀ x∈z'.met,x∈z.met∨∃ (n:Nat) (s:Sg),x.1=Sum.inl (n:Int)∧z.ss[n]?=some s∧s.inner≠[]∧SyO H x.2 s)(hmv:∀ k,(valV z.met k).isSome=true→(valV z'.met k).isSome=true)(hlk:z'.lk=z.lk)(c1:z'.met.length≤z'.cnt)(c2:z'.ca.length≤z'.cnt) :
  NumAt P w C (upd H a o') d O z'∧Stp O O H (upd H a o'):=by
 obtain⟨g,U,Q,K,L,I,J⟩:=es
 have G:H a=some o:=N.raw.at i e
 have D:O a:=N.own _ (Ze e)
 have st:Stp O O H (upd H a o'):=Stp.refl.at D G ho
 have p:=st.tu
 have E:(cells P w C d z').map (·.1)=(cells P w C d z).map (·.1):=by
  rw[ec,List.map_set]
  refine Zcr fun j=>?_
  rw[List.getElem?_set,Zl,Zp]
  by_cases h:i=j
  ·subst h
   rw[Zw rfl,e,Zw (Zj.mp e).1]
   rfl
  ·rw[Zs h]
 have u:∀ c∈cells P w C d z',∃ t∈cells P w C d z,t.1=c.1:=fun c hc=>Zar.mp (E ▸ Za2 (f:=(·.1)) hc)
 refine⟨?_,st⟩
 refine { raw:=by rw[ec];exact N.raw.set i e,own:=fun c hc=>?_,sa:=by rw[g,U];exact Fh.stay p N.sa,fo:=by rw[g,Q];exact Paired.imp' (fun v s ⟨a,l,m⟩=>⟨a,l,p a _ m⟩) N.fo,fi:=by rw[g,K];exact Paired.imp' (fun v s h=>h.stay p) N.fi,la:=by rw[g,L];exact Paired.imp' (fun v s h=>h.stay p) N.la,hl:=by rw[g,I];exact N.hl,sl:=by rw[g,J];exact N.sl,me:=fun x y=>?_,lk:=fun x y=>?_,tab:=by rw[g];exact N.tab,cap:=by rw[g];exact N.cap,c1:=c1,c2:=c2,c3:=by rw[hlk];exact Zah N.c3 hc,c4:=by rw[g];exact Zah N.c4 hc,lv:=fun b h=>let ⟨o,e⟩:=N.lv b h;st.al b o e }
 ·obtain⟨t,r,A⟩:=u c hc
  rw[← A]
  exact N.own t r
 ·rw[g]
  rcases hme x y with h | ⟨n,s,l,m,B,q⟩
  ·obtain⟨n,s,l,m,B,q⟩:=N.me x h
   exact⟨n,s,l,m,B,q.stay p⟩
  ·exact⟨n,s,l,m,B,q.stay p⟩
 ·rw[hlk] at y
  obtain⟨l,m,q,S,F,T,M⟩:=N.lk x y
  refine⟨l.stay p,m,fun c hc=>?_,S,?_,Zah T hc,fun n R=>hmv _ (M n R)⟩
  ·obtain⟨t,r,A⟩:=u c hc
   rw[← A]
   exact q t r
  ·rw[Ai (q _ (Ze e)).symm]
   exact F
theorem NumAt.push (N:NumAt P w C H d O z){x:LKey×Addr×Addr}(hx:x∈z.lk)(ns:List Nat)(hn:ns.length≤z.cnt+1)(hm:∀ n∈ns,(valV z.met (Sum.inl (n:Int))).isSome=true) :
  NumAt P w C (upd H x.2.2 (.lst (iL ns))) d O { z with cnt:=z.cnt+1 }∧Stp O O H (upd H x.2.2 (.lst (iL ns))):=by
 obtain⟨_,t,p,D,m,_⟩:=N.lk x hx
 have l:Stp O O H (upd H x.2.2 (.lst (iL ns))):=Stp.refl.lst t m
 have f:=l.tu
 refine⟨?_,l⟩
 refine { raw:=N.raw.keep fun c q e=>by rw[Ai (p c q)];exact e,own:=N.own,sa:=Fh.stay f N.sa,fo:=Paired.imp' (fun v s ⟨a,g,i⟩=>⟨a,g,f a _ i⟩) N.fo,fi:=Paired.imp' (fun v s h=>h.stay f) N.fi,la:=Paired.imp' (fun v s h=>h.stay f) N.la,hl:=N.hl,sl:=N.sl,me:=fun y k=>?_,lk:=fun y k=>?_,tab:=N.tab,cap:=N.cap,c1:=Zap N.c1,c2:=Zap N.c2,c3:=Zap N.c3,c4:=Zap N.c4,lv:=fun b h=>let ⟨o,e⟩:=N.lv b h;l.al b o e }
 ·obtain⟨n,s,g,i,m,j⟩:=N.me y k
  exact⟨n,s,g,i,m,j.stay f⟩
 ·obtain⟨g,i,j,B,r,A,u⟩:=N.lk y k
  by_cases h:y.2.2=x.2.2
  ·exact⟨g.stay f,i,j,ns,by rw[h,upd_same],hn,hm⟩
  ·exact⟨g.stay f,i,j,B,by rw[Ai h];exact r,Zap A,u⟩
theorem NumAt.entry (N:NumAt P w C H d O z)(hb:LkAt H k b)(ns:List Nat)(hl:H l=some (.lst (iL ns)))(nO:∀ c∈cells P w C d z,c.1≠l)(hn:ns.length≤z.cnt+1)(hm:∀ n∈ns,(valV z.met (Sum.inl (n:Int))).isSome=true) :
  NumAt P w C (upd H z.dl (LkO P w z.dl (z.lk++[(k,b,l)]))) d (fun c=>O c∨c=l) { z with lk:=z.lk++[(k,b,l)],cnt:=z.cnt+1 }∧TuO H (upd H z.dl (LkO P w z.dl (z.lk++[(k,b,l)])))∧(∀ c o,H c=some o→∃ o',upd H z.dl (LkO P w z.dl (z.lk++[(k,b,l)])) c=some o')∧∀ c o,¬ O c→H c=some o→(upd H z.dl (LkO P w z.dl (z.lk++[(k,b,l)])) c=some o):=by
 have D:O z.dl:=N.own _ (Ze (i:=11) rfl)
 have F:H z.dl=some (LkO P w z.dl z.lk):=N.raw.at 11 rfl
 have t:Stp O O H (upd H z.dl (LkO P w z.dl (z.lk++[(k,b,l)]))):=Stp.refl.at D F fun M z=>by cases z
 have g:=t.tu
 have E:l≠z.dl:=(nO _ (Ze (i:=11) rfl)).symm
 refine⟨?_,g,t.al,t.but⟩
 refine { raw:=N.raw.set 11 rfl,own:=fun c x=>?_,sa:=Fh.stay g N.sa,fo:=Paired.imp' (fun v s ⟨a,p,q⟩=>⟨a,p,g a _ q⟩) N.fo,fi:=Paired.imp' (fun v s h=>h.stay g) N.fi,la:=Paired.imp' (fun v s h=>h.stay g) N.la,hl:=N.hl,sl:=N.sl,me:=fun y j=>?_,lk:=fun y j=>?_,tab:=N.tab,cap:=N.cap,c1:=Zap N.c1,c2:=Zap N.c2,c3:=?_,c4:=Zap N.c4,lv:=fun b h=>?_ }
 ·obtain⟨B,m,A⟩:=Zar.mp (show c.1∈(cells P w C d z).map (·.1) from Za2 (f:=(·.1)) x)
  rw[← A]
  exact .inl (N.own B m)
 ·obtain⟨n,s,p,q,J,u⟩:=N.me y j
  exact⟨n,s,p,q,J,u.stay g⟩
 ·have r:∀ {a:Addr},(∀ c∈cells P w C d z,c.1≠a)→∀ c∈cells P w C d { z with lk:=z.lk++[(k,b,l)],cnt:=z.cnt+1 },c.1≠a:=fun h c x=>by
   obtain⟨B,m,A⟩:=Zar.mp (show c.1∈(cells P w C d z).map (·.1) from Za2 (f:=(·.1)) x)
   rw[← A]
   exact h B m
  rcases Zaa.mp j with j | j
  ·obtain⟨p,q,u,L,G,K,I⟩:=N.lk y j
   exact⟨p.stay g,.inl q,r u,L,by rw[Ai (u _ (Ze (i:=11) rfl)).symm];exact G,Zap K,I⟩
  ·rw[Zg.mp j]
   exact⟨hb.stay g,.inr rfl,r nO,ns,by rw[Ai E];exact hl,hn,hm⟩
 ·rw[Zv]
  exact Zbm N.c3
 ·rcases h with h | rfl
  ·obtain⟨o,e⟩:=N.lv b h
   exact t.al b o e
  ·exact⟨_,by rw[Ai E];exact hl⟩
theorem NumAt.toil (N:NumAt P w C H d O z)(x:Int):NumAt P w C (upd H d.p (.ins C d.dx (Ec d z.dm z.dl z.home x))) d O { z with work:=x }∧Stp O O H (upd H d.p (.ins C d.dx (Ec d z.dm z.dl z.home x))) :=
 N.cell 0 rfl (fun _ z=>by cases z) { z with work:=x } rfl ⟨rfl,rfl,rfl,rfl,rfl,rfl,rfl⟩ (Zd _) (fun _ h=>.inl h) (fun _ h=>h) rfl N.c1 N.c2
end
theorem Jc {κ:Type}[DecidableEq κ](kvs:List (κ×V))(k j:κ)(v:V)(h:(valV kvs j).isSome=true):(valV (C9 kvs k v) j).isSome=true:=by
 rw[valV_put]
 split
 ·rfl
 ·exact h
theorem mem_put {κ:Type}[DecidableEq κ]{kvs:List (κ×V)}{k:κ}{x:κ×V}(h:x∈C9 kvs k v):x∈kvs∨x=(k,v):=by
 unfold C9 at h
 split at h
 ·obtain⟨y,b,e⟩:=Zar.mp h
  by_cases a:y.1=k
  ·rw[Zw a] at e
   right
   rw[← e,a]
  ·rw[Zs a] at e
   exact .inl (e ▸ b)
 ·exact (Zaa.mp h).imp id Zg.mp
inductive spNo (P:Program) (w:World) (C:Addr) (vs:List V) (H:Hp) (Q:VK) (_:XK):Prop
 | mk (d:NA) (O:Addr→Prop) (z:NZ) (t c:Addr) (v:V) (s:Sg) (f j h:Int) (k:Nat) (_:vs=[.ref d.p,.ref t,.int k]) (_:NumAt P w C H d O z) (_:H t=some (.tup [v,.int f,.ref c,.int j,.int h])) (_:SyO H v s) (_:WyAt H (wy true s) c) (_:((f<0∧Cz z.ss s=[k])∨∃ n:Nat,f=n∧Cz z.ss s=[n,k])) (_:(∀ a∈s.inner,a∈z.ss)) (_:s.high≤300) (_:z.cnt≤80000) (_:∀ (O' : Addr→Prop) (z' : NZ) (H' : Hp),Stp O O' H H'→NumAt P w C H' d O' z'→z'.ss=add z.ss s→z'.cnt≤z.cnt+3→z'.work≤z.work+20→Q (.int (idx z'.ss s:Nat)) H')
theorem use_stm {H:Hp}{P:Hp→Prop}(h:∀ N:L2.St→Hp→Prop,(∀ H1,P H1→N σ H1)→t { D with nx:=N } σ H)(k:∀ H1,P H1→u D σ H1):Fk t u D σ H:=h _ k
theorem same_upd {H H' : Hp}(s:Bq H H'):Bq (upd H a o) (upd H' a o):=fun b u e=>by
 by_cases h:b=a
 ·subst h
  rw[upd_same] at e ⊢
  exact e
 ·rw[Ai h] at e ⊢
  exact s b u e
theorem hu5_of {A:Around}{k:Nat}(hr:Room k A):A.units+5<cLine:=by have:=hr.un;lia
section
variable {P:Program} {w:World} {K:PySem.W.Frag} {mg:Str→Option Value} {base:Heap}
theorem E6 {s:Sg}{k:Nat}(h:Cz ss s=r++[k]):s.inner≠[]:=fun e=>by
 unfold Cz at h
 rw[e] at h
 cases r <;> cases h
theorem ok_no (F:Fun K "number_outer" "Numbering.number_outer" sNo f fd)(T:Txt K w.params mg)(TC:TxC K mg C)(GN:Dm P w K mg base CX0 2 C "number_form" ["self","form","saying"] (spNf P w C))(GL:Df P w K mg base CX0 1 "look_of" ["part","way"] spLo) :
  FnOk P w K mg base CX0 3 f fd ["self","outer","found"] (spNo P w C):=by
 obtain⟨tz,mZ⟩:=T.tz
 refine Bs F ["self","outer","found","part","inner","number"] fun sc bp A outer s0 H vs Q E hr h=>?_
 obtain⟨d,O,z,t,c,v,s,f,j,h,k,rfl,N,ht,hy,hw,a0,hi,a9,bq,q⟩:=h
 have hu:=hu_of hr
 have be:=hu5_of hr
 refine⟨_,Ab (An (i:=3) sc.nd rfl (Or.inl rfl) (Ar Az (pv 1) Ad (fun _ _=>rfl)))
  (Ab (An (i:=4) sc.nd rfl (Or.inl rfl) (Cp (Ao Jt (Ar Az (pv 1) Ad (fun _ _=>rfl)) Ad (Aq _)) (Bg (Aa (pv 2) Ac)) (Bg (Aa (Ar Az (pv 1) Ad (fun _ _=>rfl)) (Aa (pv 2) Ac)))))
  (Ab (An (i:=5) sc.nd rfl (Or.inl rfl) (Cq (pv 0) TC.cl GN hr A6 (Aa (Au op_catT (Bg (Aa (Ar Az (pv 3) Ad (fun _ _=>rfl)) Ac)) (pv 4)) (Aa (pv 3) Ac))))
  (Ab (Es (pv 0) Ad in_add)
  (Ab (Bo (PW.pt (Ds (Ao Ht (Ar Ax (Bh (pv 0) rfl) (pv 5) (fun _ _=>rfl)) (Ch (by rfl) mZ (v:=.int 8) ⟨tz,rfl⟩) (Aq _)) (Dg (Ao Cw (Ar Az (pv 1) Ad (fun _ _=>rfl)) (Bh (pv 0) rfl) (Aq _)))))
   (Ab (Bo (pt_cmp (pc_dnotin hu (pv 5) (Bh (pv 0) rfl)))
    (Ah (Bj (Cy Zq Zx Zy Ba
     (show PE _ _ (tLkDef P w _ _ _) from pe_lkDef be (Bh (pv 0) rfl) (Ak GL hr A6 (Aa (pv 3) (Aa (Ar Az (pv 1) Ad (fun _ _=>rfl)) Ac))) (Bp Ac) ⟨rfl,rfl,rfl,rfl⟩) (Aa (pv 5) Ac)))) Av)
   (Ah (Ff hu (Bh (pv 0) rfl) (pv 5) (pv 3) rfl))) Av)
  (Ah (Ap (pv 5))))))),?_⟩
 dsimp only [Di,Cx.nox,Cx.wish]
 -- part,inner
 refine⟨_,rfl,t,_,_,_,rfl,rfl,SqT.of ht,at0,?_⟩
 have ad:s.inner≠[]:=by
  rcases a0 with ⟨_,e⟩ | ⟨n,_,e⟩
  ·exact E6 (r:=[]) e
  ·exact E6 (r:=[n]) e
 have I:=key_inner (ss:=z.ss) ad
 obtain⟨a,r0,rfl,ha⟩:=hy.w0
 dsimp only [Hs]
 refine Ek (P:=fun x X=>∃ S,x = .ref S∧Bq H X∧X S=some (.tup (iL (Cz z.ss s)))) (fun Qf hQ=>?_) ?_
 ·refine⟨_,rfl,t,_,_,_,rfl,rfl,SqT.of ht,at1,_,_,rfl,rfl,_,rfl,?_⟩
  rcases a0 with ⟨hf,e⟩ | ⟨n,rfl,e⟩
  ·refine ifT hf ⟨_,rfl,small (Za rfl),fun S an=>hQ _ _ ⟨S,rfl,Aj an,?_⟩⟩
   rw[upd_same,e]
   rfl
  ·refine ifF (by lia) ⟨_,rfl,t,_,_,_,rfl,rfl,SqT.of ht,at1,_,rfl,small (Za rfl),fun S an=>hQ _ _ ⟨S,rfl,Aj an,?_⟩⟩
   rw[upd_same,e]
   rfl
 rintro x X ⟨S,rfl,ak,ax⟩
 have N1:=N.same ak
 -- number
 have nl:=Dz z.ss s
 have il:=Fd s
 refine⟨_,rfl,d.p,d.dx,_,rfl,N1.ob,rfl,?_⟩
 refine⟨_,rfl,a,_,_,_,rfl,rfl,SqT.of (ak _ _ ha),at0,small (Za rfl),fun t1 h1=>?_⟩
 have bg:upd X t1 (.tup [.str s.word]) t1=some (.tup [.str s.word]):=upd_same
 have a8:upd X t1 (.tup [.str s.word]) S=some (.tup (iL (Cz z.ss s))):=by rw[Ai (Ae ax h1)];exact ax
 refine⟨_,rfl,t1,S,_,_,rfl,rfl,SqT.of bg,SqT.of a8,(by simp),small (by rw[nl];show 1+s.inner.length≤100000;lia),(fun e0=>?_),fun _ t3 h3=>?_⟩
 ·rw[e0] at nl
  exact (ad (Zai nl.symm)).elim
 have ac:Bq H (upd (upd X t1 (.tup [.str s.word])) t3 (.tup ([V.str s.word]++iL (Cz z.ss s)))):=(ak.trans (Aj h1)).trans (Aj h3)
 have aw:upd (upd X t1 (.tup [.str s.word])) t3 (.tup ([V.str s.word]++iL (Cz z.ss s))) t3=some (.tup ((E5 z.ss s).map kV)):=by rw[upd_same,I];rfl
 generalize upd (upd X t1 (.tup [.str s.word])) t3 (.tup ([V.str s.word]++iL (Cz z.ss s)))=H3 at ac aw ⊢
 refine⟨_,rfl,d,O,z,t3,.ref a,s,rfl,N.same ac,hy.stay (Al ac),aw,hi,a9,by lia,fun g H4 bk Y e1 c1 kp=>?_⟩
 have a6:Stp O O H H4:=(Stp.same ac).trans bk
 -- work
 refine⟨_,rfl,d.p,C,d.dx,_,_,rfl,Y.ob,TC.cl,TC.n14,rfl,_,_,rfl,rfl,d.dx,_,Y.ob,Za rfl,?_⟩
 have e5:Bb "work" (.int (g.work+20)) (Ec d g.dm g.dl g.home g.work)=Ec d g.dm g.dl g.home (g.work+20):=rfl
 rw[e5]
 obtain⟨m,a7⟩:=Y.toil (g.work+20)
 have B:=a6.trans a7
 have ew:g.work=z.work:=kp.work
 generalize upd H4 d.p (.ins C d.dx (Ec d g.dm g.dl g.home (g.work+20)))=H5 at m B ⊢
 have bl:s∈g.ss:=by rw[e1];exact Jr _ _
 have az:=B.tu _ _ ht
 have a1:=hy.stay B.tu
 have bh:=hw.stay B.tu
 generalize hn:idx g.ss s=n
 have ar:g.ss[n]?=some s:=by rw[← hn];exact Cd bl
 dsimp only
 refine use_stm (P:=fun U=>∃ D y,Stp O D H U∧NumAt P w C U d D y∧y.ss=g.ss∧y.cnt≤z.cnt+3∧y.work≤z.work+20) (fun Nx hN=>?_) ?_
 ·have aj:∀ U,U=H5→∃ D y,Stp O D H U∧NumAt P w C U d D y∧y.ss=g.ss∧y.cnt≤z.cnt+3∧y.work≤z.work+20:=fun U e=>by
   subst e
   exact⟨O,_,B,m,rfl,by show g.cnt≤z.cnt+3;lia,by show g.work+20≤z.work+20;lia⟩
  refine⟨_,rfl,d.p,C,d.dx,_,_,rfl,m.ob,TC.cl,TC.n4,rfl,_,rfl,d.lz,_,_,V.int (s.size:Nat),rfl,rfl,SqL.of (m.raw.at 4 rfl),Be (by rw[Zp];show (g.ss[n]?).map _=_;rw[ar];rfl),_,_,rfl,rfl,_,rfl,?_⟩
  refine Gv (fun _=>?_) (fun _=>Cv (hN _ (aj _ rfl)))
  refine⟨_,rfl,t,_,_,V.int h,rfl,rfl,SqT.of az,rfl,_,rfl,d.p,C,d.dx,_,_,rfl,m.ob,TC.cl,TC.n13,rfl,rfl,_,rfl,?_⟩
  refine Gv (fun _=>?_) (fun _=>hN _ (aj _ rfl))
  have dk:H5 g.dm=some (.dK g.met):=m.raw.at 10 rfl
  have NM:=m.cell (o':=.dK (C9 g.met (Sum.inl (n:Int)) (.ref a))) 10 rfl (fun _ z=>by cases z) { g with work:=g.work+20,met:=C9 g.met (Sum.inl (n:Int)) (.ref a),cnt:=g.cnt+1 } rfl ⟨rfl,rfl,rfl,rfl,rfl,rfl,rfl⟩ (Zbp _)
   (fun x W=>(mem_put W).imp id fun e=>⟨n,s,by rw[e],ar,ad,by rw[e];exact a1⟩) (fun k I=>Jc _ _ _ _ I) rfl (Zah (Cg ..) (Zbm Y.c1)) (Zap Y.c2)
  obtain⟨NM,af⟩:=NM
  have ai : (valV (C9 g.met (Sum.inl (n:Int)) (V.ref a)) (Sum.inl (n:Int))).isSome=true:=by rw[valV_put,Zw rfl];rfl
  refine use_stm (P:=fun H8=>H8 d.p=some (.ins C d.dx (Ec d g.dm g.dl g.home (g.work+20)))∧H8 g.dm=some (.dK g.met)∧∃ D y,Stp O D H (upd H8 g.dm (.dK (C9 g.met (Sum.inl (n:Int)) (.ref a))))∧NumAt P w C (upd H8 g.dm (.dK (C9 g.met (Sum.inl (n:Int)) (.ref a)))) d D y∧y.ss=g.ss∧y.cnt≤z.cnt+3∧y.work≤z.work+20) (fun Nx aq=>?_) ?_
  ·refine⟨_,rfl,_,rfl,d.p,C,d.dx,_,_,rfl,m.ob,TC.cl,TC.n10,rfl,g.dm,_,rfl,DGet.k (k:=Sum.inl (n:Int)) dk,_,rfl,?_⟩
   cases bn:valV g.met (Sum.inl (n:Int)) with
   | some u =>
    refine Cv (aq _ ⟨m.ob,dk,O,_,B.trans af,NM,rfl,?_,?_⟩)
    ·show g.cnt+1≤z.cnt+3;lia
    ·show g.work+20≤z.work+20;lia
   | none =>
    refine Eg ?_
    have a4:∀ x∈g.lk,LkAt H5 x.1 x.2.1:=fun x W=>(m.lk x W).1
    refine⟨_,rfl,d.p,C,d.dx,_,_,rfl,m.ob,TC.cl,TC.n11,rfl,g.dl,g.lk,rfl,m.raw.at 11 rfl,a4,?_⟩
    refine⟨_,rfl,_,rfl,t,_,_,V.ref c,rfl,rfl,SqT.of az,at2,.ref a,s,c,wy true s,rfl,a1,ad,bh,fun b R M J L a3=>?_⟩
    refine⟨Zt _,fun l hl=>?_⟩
    have G:=L.trans (Aj (o:=.lst []) hl)
    have a5:H5 l=none:=L.free hl
    have ab:∀ c∈cells P w C d g,c.1≠l:=fun cc ag e=>by
     obtain⟨c',ap,e'⟩:=Zar.mp (show cc.1∈(cells P w C d { g with work:=g.work+20 }).map (·.1) from Za2 (f:=(·.1)) ag)
     have:=m.raw.2 c' ap
     rw[e',e,a5] at this
     cases this
    have ao:g.dm≠l:=ab _ (Ze (i:=10) rfl)
    have au:g.dl≠l:=ab _ (Ze (i:=11) rfl)
    have np:d.p≠l:=ab _ (Ze (i:=0) rfl)
    have c3:=Y.c3
    refine⟨g.lk,lkOf s R M (wy true s),b,l,G _ _ (m.raw.at 11 rfl),rfl,rfl,a3.stay (TuO.new hl),fun x W=>(a4 x W).stay (Al G),Bf (by lia),fun l' bj=>?_,fun bm=>?_⟩
    ·-- the look was met
     obtain⟨x,W,ex⟩:=find_mem bj
     obtain⟨g1,g2,g3,Z,g4,g5,g6⟩:=m.lk x W
     rw[ex] at g4
     refine⟨.inl ⟨rfl,_,SqL.of (G _ _ g4)⟩,_,rfl,l',_,_,rfl,rfl,G _ _ g4,Bf (by show (iL Z).length≤100000;rw[Zl];have:Z.length≤g.cnt:=g5;lia),?_⟩
     have ay : g.dm≠l':=ex ▸ g3 _ (Ze (i:=10) rfl)
     have bc : d.p≠l':=ex ▸ g3 _ (Ze (i:=0) rfl)
     have ae:=same_upd (a:=g.dm) (o:=.dK (C9 g.met (Sum.inl (n:Int)) (.ref a))) G
     obtain⟨NP,am⟩:=(NM.same ae).push (x:=x) W (Z++[n]) (by rw[Zv];have:Z.length≤g.cnt:=g5;show Z.length+1≤g.cnt+1+1;lia) (fun k I=>by
      rcases Zaa.mp I with I | I
      ·exact Jc _ _ _ _ (g6 k I)
      ·rw[Zg.mp I];exact ai)
     rw[ex] at NP am
     have eL:iL (Z++[n])=iL Z++[V.int (n:Nat)]:=Zac ..
     rw[eL,Ge ay] at NP am
     refine aq _ ⟨by rw[Ai bc];exact G _ _ m.ob,by rw[Ai ay];exact G _ _ dk,O,_,((B.trans af).trans (Stp.same ae)).trans am,NP,rfl,?_,?_⟩
     ·show g.cnt+1+1≤z.cnt+3;lia
     ·show g.work+20≤z.work+20;lia
    ·-- it comes for the first time
     have bo:upd (upd (upd J l (.lst [])) g.dl (LkO P w g.dl (g.lk++[(lkOf s R M (wy true s),b,l)]))) l=upd (upd (upd J l (.lst [])) g.dl (LkO P w g.dl (g.lk++[(lkOf s R M (wy true s),b,l)]))) l:=rfl
     have el:upd (upd (upd J l (.lst [])) g.dl (LkO P w g.dl (g.lk++[(lkOf s R M (wy true s),b,l)]))) l (.lst ([]++[V.int (n:Nat)]))=upd (upd J l (.lst [V.int (n:Nat)])) g.dl (LkO P w g.dl (g.lk++[(lkOf s R M (wy true s),b,l)])):=by
      rw[Ge au,C4]
      rfl
     have av:upd (upd J l (.lst [])) g.dl (LkO P w g.dl (g.lk++[(lkOf s R M (wy true s),b,l)])) l=some (.lst []):=by rw[Ai au.symm,upd_same]
     refine⟨.inl ⟨rfl,_,SqL.of av⟩,_,rfl,l,_,_,rfl,rfl,av,Bf (by simp),?_⟩
     rw[el]
     have a2:g.dl≠g.dm:=fun e=>by
      have h1:=m.raw.at 10 (a:=g.dm) (o:=.dK g.met) rfl
      have h2:=m.raw.at 11 (a:=g.dl) (o:=LkO P w g.dl g.lk) rfl
      rw[e,h1] at h2
      cases h2
     have bb:d.p≠g.dl:=fun e=>by
      have h1:=m.ob
      have h2:=m.raw.at 11 (a:=g.dl) (o:=LkO P w g.dl g.lk) rfl
      rw[← e,h1] at h2
      cases h2
     have ae:=same_upd (a:=g.dm) (o:=.dK (C9 g.met (Sum.inl (n:Int)) (.ref a))) L
     have aa:upd J g.dm (.dK (C9 g.met (Sum.inl (n:Int)) (.ref a))) l=none:=by rw[Ai ao.symm];exact hl
     have as:=ae.trans (Aj (o:=.lst (iL [n])) aa)
     have tb:TuO J (upd (upd J g.dm (.dK (C9 g.met (Sum.inl (n:Int)) (.ref a)))) l (.lst (iL [n]))):=(TuO.other (L _ _ dk) fun _ z=>by cases z).trans (TuO.new aa)
     obtain⟨NE,tE,lE,bE⟩:=(NM.same as).entry (k:=lkOf s R M (wy true s)) (b:=b) (l:=l) (a3.stay tb) [n] upd_same (fun cc ag e=>by
      obtain⟨c',ap,e'⟩:=Zar.mp (show cc.1∈(cells P w C d g).map (·.1) from Za2 (f:=(·.1)) ag)
      exact ab c' ap (e'.trans e)) (by show 1≤g.cnt+1+1;lia) (fun k I=>by rw[Zg.mp I];exact ai)
     have fin:upd (upd (upd J g.dm (.dK (C9 g.met (Sum.inl (n:Int)) (.ref a)))) l (.lst (iL [n]))) g.dl (LkO P w g.dl (g.lk++[(lkOf s R M (wy true s),b,l)]))=upd (upd (upd J l (.lst [V.int (n:Nat)])) g.dl (LkO P w g.dl (g.lk++[(lkOf s R M (wy true s),b,l)]))) g.dm (.dK (C9 g.met (Sum.inl (n:Int)) (.ref a))):=by
      rw[Ge (H:=J) ao,Ge (a:=g.dm) (b:=g.dl) a2.symm]
      rfl
     have ah:=(B.trans af).trans (Stp.same as)
     dsimp only at NE tE bE lE
     rw[fin] at NE tE bE lE
     refine aq _ ⟨?_,?_,(fun c=>O c∨c=l),_,⟨ah.tu.trans tE,fun c o nO e=>bE c o nO (ah.but c o nO e),fun c h=>.inl h,fun c h=>?_,fun c o e=>let ⟨o1,e1⟩:=ah.al c o e;lE c o1 e1⟩,NE,rfl,?_,?_⟩
     ·rw[Ai bb,Ai np];exact L _ _ m.ob
     ·rw[Ai a2.symm,Ai ao];exact L _ _ dk
     ·rcases h with h | rfl
      ·exact .inl h
      ·exact B.free a5
     ·show g.cnt+1+1≤z.cnt+3;lia
     ·show g.work+20≤z.work+20;lia
  rintro H8 ⟨ba,bd,D,y,bf,N8,g1,g2,g3⟩
  have m8:(C9 g.met (Sum.inl (n:Int)) (V.ref a)).length≤g.cnt+1:=Zah (Cg ..) (Zbm Y.c1)
  refine⟨_,rfl,_,rfl,d.p,C,d.dx,_,_,rfl,ba,TC.cl,TC.n10,rfl,_,rfl,g.dm,_,rfl,DPut.k (k:=Sum.inl (n:Int)) bd (Bf (by have:=Y.c1;lia)),?_⟩
  exact hN _ ⟨D,y,bf,N8,g1,g2,g3⟩
 rintro U ⟨D,y,bi,N9,g1,g2,g3⟩
 refine⟨_,rfl,?_⟩
 have:=q D y U bi N9 (g1.trans e1) g2 g3
 rw[g1,hn] at this
 exact this
end
def kDv (k:Key):Dv:=.f (kV k)
def wDv (k:WKey):Dv:=.t (k.1.1.map kDv++[.t (k.2.map kDv)])
theorem flat_kV (k:Key):De (kV k)=true:=by cases k <;> rfl
theorem J6 {K:PySem.W.Frag}{H:Hp}:∀ (ks:List Key) {ds:List Dv} {vs:List V},DvRs K H ds vs→DvRs K H (ks.map kDv++ds) (ks.map kV++vs)
 | [],_,_,h=>h
 | k::ks,_,_,h=>⟨⟨rfl,flat_kV k⟩,J6 ks h⟩
theorem dvs_flat0 {K:PySem.W.Frag}{H:Hp}(ks:List Key):DvRs K H (ks.map kDv) (ks.map kV):=by
 have:=J6 (K:=K) (H:=H) ks (ds:=[]) (vs:=[]) trivial
 rwa [Zbr,Zbr] at this
theorem Ji:∀ (ks:List Key) (ds:List Dv),dps (ks.map kDv++ds)=dps ds
 | [],_=>rfl
 | k::ks,ds=>by
  show max 0 (dps (ks.map kDv++ds))=dps ds
  rw[Ji ks ds]
  lia
theorem wDv_r {K:PySem.W.Frag}{H:Hp}{k:WKey}{c:Addr}(h:WyAt H k c):DvR K H (wDv k) (.ref c):=by
 obtain⟨e,a,b⟩:=h
 exact⟨c,_,rfl,SqT.of a,J6 _ ⟨⟨e,_,rfl,SqT.of b,dvs_flat0 _⟩,trivial⟩⟩
theorem wDv_p (k:WKey):(wDv k).dp≤2:=by
 show 1+dps (k.1.1.map kDv++[.t (k.2.map kDv)])≤2
 rw[Ji]
 show 1+max (1+dps (k.2.map kDv)) 0≤2
 have:=Ji k.2 []
 rw[Zbr] at this
 rw[this]
 show 1+max (1+0) 0≤2
 decide
def sDv:Sg→Dv
 | .no=>.t [.f (.str "no")]
 | .lt x=>.t [.f (.str "letter"),.f (.str x)]
 | .not a=>.t [.f (.str "not"),sDv a]
 | .shown a=>.t [.f (.str "shown"),sDv a]
 | .bin j a b=>.t [.f (.str j.word),sDv a,sDv b]
theorem Fp {K:PySem.W.Frag}{H:Hp}{v:V}{s:Sg}(h:SyO H v s):DvR K H (sDv s) v:=by
 induction h with
 | no h=>exact⟨_,_,rfl,SqT.of h,⟨rfl,rfl⟩,trivial⟩
 | lt h=>exact⟨_,_,rfl,SqT.of h,⟨rfl,rfl⟩,⟨rfl,rfl⟩,trivial⟩
 | not h _ a=>exact⟨_,_,rfl,SqT.of h,⟨rfl,rfl⟩,a,trivial⟩
 | shown h _ a=>exact⟨_,_,rfl,SqT.of h,⟨rfl,rfl⟩,a,trivial⟩
 | bin h _ _ c b=>exact⟨_,_,rfl,SqT.of h,⟨rfl,rfl⟩,c,b,trivial⟩
theorem Jw:∀ s:Sg,(sDv s).dp≤s.high+1
 | .no=>by decide
 | .lt x=>by show 1+max 0 (max 0 0)≤0+1;decide
 | .not a=>by have:=Jw a;show 1+max 0 (max (sDv a).dp 0)≤a.high+1+1;lia
 | .shown a=>by have:=Jw a;show 1+max 0 (max (sDv a).dp 0)≤a.high+1+1;lia
 | .bin _ a b=>by have:=Jw a;have:=Jw b;show 1+max 0 (max (sDv a).dp (max (sDv b).dp 0))≤max (a.high+1) (b.high+1)+1;lia
theorem eqV_str {x y:Str}(h:eqV (.str x) (.str y)=true):x=y:=by simpa [eqV] using h
theorem Gy {x y:Str}(h:dq (.t (.f (.str x)::xs)) (.t (.f (.str y)::ys))=true):x=y∧dqs xs ys=true:=by
 have a : (eqV (.str x) (.str y) && dqs xs ys)=true:=h
 rw[Zay] at a
 exact⟨eqV_str a.1,a.2⟩
theorem Gh (s:Sg):∃ r,sDv s = .t (.f (.str s.word)::r):=by cases s <;> exact⟨_,rfl⟩
theorem sDv_inj:∀ s t:Sg,dq (sDv s) (sDv t)=true→s=t:=by
 have g:∀ s t:Sg,dq (sDv s) (sDv t)=true→s.word=t.word:=fun s t h=>by
  obtain⟨r,e⟩:=Gh s
  obtain⟨o,n⟩:=Gh t
  rw[e,n] at h
  exact (Gy h).1
 intro s
 induction s with
 | no =>
  intro t h
  have d:=g _ _ h
  cases t with
  | no=>rfl
  | lt y=>exact absurd (show ("no" : Str) = "letter" from d) (by decide +kernel)
  | not a=>exact absurd (show ("no" : Str) = "not" from d) (by decide +kernel)
  | shown a=>exact absurd (show ("no" : Str) = "shown" from d) (by decide +kernel)
  | bin j a b=>exact absurd (show ("no" : Str)=j.word from d) (by cases j <;> decide +kernel)
 | lt x =>
  intro t h
  have d:=g _ _ h
  cases t with
  | no=>exact absurd (show ("letter" : Str) = "no" from d) (by decide +kernel)
  | lt y =>
   have f:(eqV (.str x) (.str y) && true)=true:=(Gy h).2
   rw[Bool.and_true] at f
   rw[eqV_str f]
  | not a=>exact absurd (show ("letter" : Str) = "not" from d) (by decide +kernel)
  | shown a=>exact absurd (show ("letter" : Str) = "shown" from d) (by decide +kernel)
  | bin j a b=>exact absurd (show ("letter" : Str)=j.word from d) (by cases j <;> decide +kernel)
 | not a i =>
  intro t h
  have d:=g _ _ h
  cases t with
  | no=>exact absurd (show ("not" : Str) = "no" from d) (by decide +kernel)
  | lt y=>exact absurd (show ("not" : Str) = "letter" from d) (by decide +kernel)
  | not b =>
   have f:(dq (sDv a) (sDv b) && true)=true:=(Gy h).2
   rw[Bool.and_true] at f
   rw[i b f]
  | shown b=>exact absurd (show ("not" : Str) = "shown" from d) (by decide +kernel)
  | bin j b c=>exact absurd (show ("not" : Str)=j.word from d) (by cases j <;> decide +kernel)
 | shown a i =>
  intro t h
  have d:=g _ _ h
  cases t with
  | no=>exact absurd (show ("shown" : Str) = "no" from d) (by decide +kernel)
  | lt y=>exact absurd (show ("shown" : Str) = "letter" from d) (by decide +kernel)
  | not b=>exact absurd (show ("shown" : Str) = "not" from d) (by decide +kernel)
  | shown b =>
   have f:(dq (sDv a) (sDv b) && true)=true:=(Gy h).2
   rw[Bool.and_true] at f
   rw[i b f]
  | bin j b c=>exact absurd (show ("shown" : Str)=j.word from d) (by cases j <;> decide +kernel)
 | bin j a b l m =>
  intro t h
  have d:=g _ _ h
  cases t with
  | no=>exact absurd (show j.word = "no" from d) (by cases j <;> decide +kernel)
  | lt y=>exact absurd (show j.word = "letter" from d) (by cases j <;> decide +kernel)
  | not c=>exact absurd (show j.word = "not" from d) (by cases j <;> decide +kernel)
  | shown c=>exact absurd (show j.word = "shown" from d) (by cases j <;> decide +kernel)
  | bin k c e =>
   have f:(dq (sDv a) (sDv c) && (dq (sDv b) (sDv e) && true))=true:=(Gy h).2
   rw[Bool.and_true,Zay] at f
   rw[word_inj (show j.word=k.word from d),l c f.1,m e f.2]
theorem valV_mem {κ:Type}[DecidableEq κ]:∀ {kvs:List (κ×V)} {k:κ} {v:V},valV kvs k=some v→(k,v)∈kvs
 | [],_,_,h=>by cases h
 | p::r,k,v,h=>by
  by_cases e:p.1=k
  ·rw[B7 e] at h
   have:p=(k,v):=Prod.ext e (Zm h)
   rw[this]
   exact Z0 ..
  ·rw[B0 e] at h
   exact Zz _ (valV_mem h)
section
variable {P:Program} {w:World} {C:Addr} {H:Hp} {d:NA} {O:Addr→Prop} {z:NZ}
theorem NumAt.met_at (N:NumAt P w C H d O z){n:Nat}(h:(valV z.met (Sum.inl (n:Int))).isSome=true):∃ u s,valV z.met (Sum.inl (n:Int))=some u∧z.ss[n]?=some s∧s.inner≠[]∧SyO H u s:=by
 cases e:valV z.met (Sum.inl (n:Int)) with
 | none=>rw[e] at h;cases h
 | some u =>
  obtain⟨m,s,b,c,a,f⟩:=N.me _ (valV_mem e)
  have:n=m:=by have:=Sum.inl.inj b;lia
  subst this
  exact⟨u,s,rfl,c,a,f⟩
end
inductive spPk (P:Program) (w:World) (C:Addr) (vs:List V) (H:Hp) (Q:VK) (_:XK):Prop
 | mk (d:NA) (O:Addr→Prop) (z:NZ) (v:V) (s:Sg) (c l:Addr) (ns:List Nat) (_:vs=[.ref d.p,v,.ref c,.ref l]) (_:NumAt P w C H d O z) (_:SyO H v s) (_:s.inner≠[]) (_:s.high≤300) (_:H l=some (.lst (iL ns))) (_:(∀ c∈cells P w C d z,c.1≠l)) (_:(∀ n∈ns,(valV z.met (Sum.inl (n:Int))).isSome=true)) (_:ns.length≤90000) (_:∀ (x:Int) (H' : Hp),x≤z.work+400→Stp O O H H'→NumAt P w C H' d O { z with work:=x }→H' l=some (.lst (iL ns))→Q (.int (-1)) H'∧∀ i n:Nat,ns[i]?=some n→z.ss[n]?=some s→Q (.int i) H')
section
variable {P:Program} {w:World} {K:PySem.W.Frag} {mg:Str→Option Value} {base:Heap}
theorem huD_of {A:Around}{n:Nat}(hr:Room 30 A)(hn:n≤310):A.units+2 * n+4<cLine:=by have:=hr.un;lia
theorem ok_pk (F:Fun K "place_known" "Numbering.place_known" sPk f fd)(T:Txt K w.params mg)(TC:TxC K mg C)(GW:Df P w K mg base CX0 1 "way_down" ["saying","place"] spWd)(GT:Dm P w K mg base CX0 1 C "turns_of" ["self","number"] (spTo P w C))(GM:Dm P w K mg base CX0 1 C "may_be" ["self","saying","number","way"] (spMb P w C)) :
  FnOk P w K mg base CX0 31 f fd ["self","part","way","found"] (spPk P w C):=by
 refine Bs F ["self","part","way","found","last","turns","place","number","fits"] fun sc a5 A az s0 H vs Q E R h=>?_
 obtain⟨d,O,z,v,s,c,l,L,rfl,N,hy,ak,a3,hl,as,ax,a9,q⟩:=h
 have hu:=hu_of R
 have aw:=huD_of (n:=2) R (by decide)
 have ay:=huD_of (n:=3) R (by decide)
 have ap:=huD_of (n:=301) R (by decide)
 obtain⟨a,r0,rfl,ha⟩:=hy.w0
 refine⟨_,Ab (An (i:=4) sc.nd rfl (Or.inl rfl) (Ak GW R A6 (Aa (pv 1) (Aa (Dl Cm Ad) Ac))))
  (Ab (An (i:=5) sc.nd rfl (Or.inl rfl) (Cp (Ao Ht (A3 A0 (by rfl) T.len Zax (Aa (pv 3) Ac)) Ad (Aq _))
   (Bg (Aa (Ak GW R A6 (Aa (Ar Az (pv 1) (Dl Cm Ad) (fun _ _=>rfl)) (Aa Ad Ac))) (Aa (Ak GW R A6 (Aa (Ar Az (pv 1) Ad (fun _ _=>rfl)) (Aa (Dl Cm Ad) Ac))) Ac))) Ed))
  (Ab (Es (pv 0) (Au Ca Ad (Ar Az (pv 4) Ad (fun _ _=>rfl))) in_add)
  (Ab (Fu Za0 rfl (pi_down (by rfl) T.range (Aa (Au Fw (A3 A0 (by rfl) T.len Zax (Aa (pv 3) Ac)) Ad) (Aa (Dl Cm Ad) (Aa (Dl Cm Ad) Ac)))) (Bn (i:=6) sc.nd rfl (Or.inl rfl))
   (Ab (An (i:=7) sc.nd rfl (Or.inl rfl) (Ar Ax (pv 3) (pv 6) (fun _ _=>rfl)))
   (Ab (An (i:=8) sc.nd rfl (Or.inl rfl) (pe_and (C1 (op_eqD (n:=2) aw) (Ar Ax (Bh (pv 0) rfl) (pv 7) (fun _ _=>rfl)) (pv 4) (Aq _))
    (Ih (pe_or (C1 op_isN (pv 5) Ed (Aq _)) (Ih (C1 (op_eqD (n:=3) ay) (pv 5) (Cq (pv 0) TC.cl GT R A6 (Aa (pv 7) Ac)) (Aq _)))))))
   (Ah (Bo (PW.pt (Ds (Bw (pv 8) (fun _=>rfl)) (Ds (Fx (Cq (pv 0) TC.cl GM R A6 (Aa (pv 1) (Aa (pv 7) (Aa (pv 2) Ac)))))
    (Dg (Ao (op_in1 (n:=301) ap) (pv 1) (Bp (Aa (pe_dget hu (Bh (pv 0) rfl) (pv 7) (fun _ _=>rfl)) Ac)) rfl))))) (Ah (Ap (pv 6))) Av)))))
  (Ah (Ap (Dl Cm Ad)))))),?_⟩
 dsimp only [Di,Cx.nox,Cx.wish]
 -- last
 refine Am fun U1 q1 D1 n1=>⟨_,rfl,_,rfl,.ref a,s,false,rfl,hy,fun cl H1 ac w1=>n1 _ _ ?_⟩
 clear n1 D1
 rw[q1]
 refine Co fun U2 q2=>?_
 have aa:=hy.stay (Al ac)
 -- turns
 refine Ek (P:=fun x r=>Bq H1 r∧(x = .non∨∃ y G I M S,x = .ref y∧r y=some (.tup [.ref G,.ref I])∧WyAt r M G∧WyAt r S I)) (fun Qf Z=>?_) ?_
 ·refine⟨_,rfl,l,_,rfl,.inl (SqL.of (ac _ _ hl)),_,_,rfl,rfl,_,rfl,Gv (fun _=>?_) (fun _=>Z _ _ ⟨Bq.refl _,.inl rfl⟩)⟩
  obtain⟨a1,xs,u,t,e,h1,h2,h3,_,_,h4⟩:=SyO.down false aa ak
  cases e
  obtain⟨a2,a7,u2,t2,e,h5,h6,h7,_,_,h8⟩:=SyO.down true aa ak
  cases e
  refine⟨_,rfl,_,rfl,a,_,_,u,rfl,rfl,SqT.of h1,h2,u,t,true,rfl,h3,fun G r B w2=>?_⟩
  refine⟨_,rfl,a,_,_,u2,rfl,rfl,SqT.of (B _ _ h5),h6,_,rfl,u2,t2,false,rfl,h7.stay (Al B),fun I H3 ah w3=>?_⟩
  refine⟨small (Za rfl),fun y ab=>Z _ _ ⟨(B.trans ah).trans (Aj ab),.inr ⟨y,G,I,_,_,rfl,upd_same,(w2.stay (Al ah)).stay (TuO.new ab),w3.stay (TuO.new ab)⟩⟩⟩
 rintro vt r ⟨B,an⟩
 have X:=ac.trans B
 have N2:=N.same X
 have aj:=w1.stay (Al B)
 -- work
 obtain⟨el,h1,h2⟩:=id aj
 have a4:=Ea false s
 dsimp only [Hs]
 rw[q2]
 refine Am fun U3 q3 D3 n3=>⟨_,rfl,d.p,C,d.dx,_,_,rfl,N2.ob,TC.cl,TC.n14,rfl,_,rfl,cl,_,_,V.int (s.stp false:Nat),rfl,rfl,SqT.of h1,at0,_,_,rfl,rfl,_,_,rfl,rfl,d.dx,_,N2.ob,Za rfl,n3 _ _ ?_⟩
 clear n3 D3
 have e3:Bb "work" (.int (z.work+(20+(s.stp false:Nat)))) (Ec d z.dm z.dl z.home z.work)=Ec d z.dm z.dl z.home (z.work+(20+(s.stp false:Nat))):=rfl
 try dsimp only
 rw[e3]
 obtain⟨N3,g⟩:=N2.toil (z.work+(20+(s.stp false:Nat)))
 have ag:=(Stp.same (O:=O) X).trans g
 have l3:upd r d.p (.ins C d.dx (Ec d z.dm z.dl z.home (z.work+(20+(s.stp false:Nat))))) l=some (.lst (iL L)):=by
  rw[Ai (as _ (Ze (i:=0) rfl)).symm]
  exact X _ _ hl
 have ad:vt = .non∨∃ y G I M S,vt = .ref y∧upd r d.p (.ins C d.dx (Ec d z.dm z.dl z.home (z.work+(20+(s.stp false:Nat))))) y=some (.tup [.ref G,.ref I])∧WyAt (upd r d.p (.ins C d.dx (Ec d z.dm z.dl z.home (z.work+(20+(s.stp false:Nat)))))) M G∧WyAt (upd r d.p (.ins C d.dx (Ec d z.dm z.dl z.home (z.work+(20+(s.stp false:Nat)))))) S I :=
  an.imp id fun ⟨y,G,I,M,S,g1,g2,g3,g4⟩=>⟨y,G,I,M,S,g1,g.tu _ _ g2,g3.stay g.tu,g4.stay g.tu⟩
 have w3:=aj.stay g.tu
 have ai:=aa.stay ((Al B).trans g.tu)
 generalize upd r d.p (.ins C d.dx (Ec d z.dm z.dl z.home (z.work+(20+(s.stp false:Nat)))))=H3 at N3 ag l3 ad w3 ai ⊢
 have af:∀ J,Bq H3 J→Q (.int (-1)) J∧∀ i n:Nat,L[i]?=some n→z.ss[n]?=some s→Q (.int i) J:=fun J sm=>q _ J (by lia) (ag.trans (Stp.same sm)) (N3.same sm) (sm _ _ l3)
 -- the loop
 have ll:(iL L).length=L.length:=Zl ..
 have aq:((2:Int) ^ 60)=1152921504606846976:=by decide
 rw[q3]
 refine⟨_,rfl,l,_,rfl,.inl (SqL.of l3),_,_,rfl,rfl,_,rfl,_,rfl,_,_,rfl,by rw[ll,aq];lia,?_⟩
 refine for_down (fun i σ J=>∃ v6 v7 v8,σ=[some (.ref d.p),some (.ref a),some (.ref c),some (.ref l),some (.ref cl),some vt,v6,v7,v8]∧Bq H3 J) ⟨none,none,none,rfl,Bq.refl _⟩ ?_ ?_
 ·rintro i σ H4 hi ⟨v6,v7,v8,rfl,m⟩
  obtain⟨j,hj⟩:∃ j,j=L.length - 1 - i:=⟨_,rfl⟩
  have a8 : i<L.length:=by rw[ll] at hi;lia
  have ar:j<L.length:=by lia
  have ej:(((iL L).length:Nat):Int) - 1 - (i:Nat)=(j:Nat):=by rw[ll];lia
  dsimp only at hi ⊢
  rw[ej]
  obtain⟨n,ae⟩:∃ n,L[j]?=some n:=⟨_,Zi ar⟩
  have N4:=N3.same m
  obtain⟨u,s',al,D,am,ao⟩:=N4.met_at (ax n (Ze ae))
  refine⟨_,rfl,_,rfl,l,_,_,V.int (n:Nat),rfl,rfl,SqL.of (m _ _ l3),Be (by rw[Zp,ae];rfl),?_⟩
  obtain⟨vl,au,cn,rfl,wn⟩:=Bx N4.la D
  dsimp only [Hs]
  -- fits
  refine Ek (P:=fun x J=>∃ b,x = .bl b∧Bq H4 J) (fun Qf Z=>?_) ?_
  ·refine⟨_,rfl,d.p,C,d.dx,_,_,rfl,N4.ob,TC.cl,TC.n7,rfl,_,rfl,d.l2,_,_,V.ref cn,rfl,rfl,SqL.of (N4.raw.at 7 rfl),Be au,_,rfl,wDv _,wDv _,wDv_r wn,wDv_r (w3.stay (Al m)),wDv_p _,.inl ⟨_,_,rfl,rfl⟩,_,rfl,?_⟩
   refine Gv (fun _=>?_) (fun _=>Z _ _ ⟨false,rfl,Bq.refl _⟩)
   refine⟨_,rfl,rfl,_,rfl,Gv (fun _=>Z _ _ ⟨true,rfl,Bq.refl _⟩) (fun av=>?_)⟩
   rcases ad with rfl | ⟨y,G,I,M,S,rfl,g2,g3,g4⟩
   ·exact absurd (Z2 rfl) av
   ·refine⟨_,rfl,_,rfl,d.p,d.dx,_,rfl,N4.ob,rfl,_,rfl,d,O,_,n,s',rfl,N4,D,am,fun t e1 e2 m1 m2 H5 U e5 w5 w6=>?_⟩
    have t4:=Al (m.trans U)
    refine⟨.t [wDv M,wDv S],.t [wDv m1,wDv m2],⟨y,_,rfl,SqT.of (t4 _ _ g2),wDv_r (g3.stay t4),wDv_r (g4.stay t4),trivial⟩,⟨t,_,rfl,SqT.of e5,wDv_r w5,wDv_r w6,trivial⟩,?_,.inl ⟨_,_,rfl,rfl⟩,Z _ _ ⟨_,rfl,U⟩⟩
    have p1:=wDv_p M
    have p2:=wDv_p S
    show 1+max (wDv M).dp (max (wDv S).dp 0)≤3
    lia
  rintro x H5 ⟨b,rfl,U⟩
  have W:=m.trans U
  have N5:=N3.same W
  refine⟨_,rfl,b,rfl,?_⟩
  cases b with
  | false=>exact Cv (Cv ⟨_,_,_,rfl,W⟩)
  | true =>
   refine Eg ?_
   refine⟨_,rfl,d.p,d.dx,_,rfl,N5.ob,rfl,_,rfl,_,rfl,_,rfl,d,O,_,.ref a,.ref c,n,s',rfl,N5,D,true,rfl,Eg ?_⟩
   refine⟨_,rfl,_,rfl,d.p,C,d.dx,_,_,rfl,N5.ob,TC.cl,TC.n10,rfl,_,rfl,z.dm,_,rfl,(by rw[← al];exact DGet.k (k:=Sum.inl (n:Int)) (N5.raw.at 10 rfl)),small (Za rfl),fun p hp=>?_⟩
   have Y:=W.trans (Aj (o:=.lst [u]) hp)
   have a6:=N3.cap s' (Ze D)
   have a0:=Jw s'
   refine⟨p,u,sDv s,sDv s',rfl,SqL.of upd_same,Fp (ai.stay (Al Y)),Fp ((ao.stay (Al U)).stay (TuO.new hp)),by lia,_,rfl,Gv (fun hq=>?_) (fun _=>⟨_,_,_,rfl,Y⟩)⟩
   have es:s'=s:=sDv_inj _ _ hq
   subst es
   exact⟨_,rfl,(af _ Y).2 j n ae D⟩
 ·rintro σ H4 ⟨v6,v7,v8,rfl,m⟩
  exact⟨_,rfl,(af H4 m).1⟩
end
inductive spNk (P:Program) (w:World) (C:Addr) (vs:List V) (H:Hp) (Q:VK) (_:XK):Prop
 | mk (d:NA) (O:Addr→Prop) (z:NZ) (v:V) (s:Sg) (c:Addr) (_:vs=[.ref d.p,v,.ref c]) (_:NumAt P w C H d O z) (_:SyO H v s) (_:WyAt H (wy true s) c) (_:s.high≤300) (_:z.cnt≤80000) (_:∀ (z' : NZ) (H' : Hp),Stp O O H H'→NumAt P w C H' d O z'→z'.cnt≤z.cnt+3→z'.work≤z.work+400→(s.inner≠[]→z'.ss=z.ss→Q (.int (-1)) H')∧((s.inner=[]∧z'.ss=add z.ss s)∨(s∈z.ss∧z'.ss=z.ss)→Q (.int (idx z'.ss s:Nat)) H'))
theorem seq_ix {i n:Nat}(h:i<n):seqIndex? (i:Int) n=some i:=by
 rw[seqIndex_of (by lia) (by lia),Int.toNat_natCast]
theorem map_erase {α β:Type}(f:α→β):∀ (l:List α) (i:Nat),(l.eraseIdx i).map f=(l.map f).eraseIdx i
 | [],_=>rfl
 | _::_,0=>rfl
 | x::l,i+1=>congrArg (f x :: ·) (map_erase f l i)
theorem iL_inj:∀ {a b:List Nat},iL a=iL b→a=b
 | [],[],_=>rfl
 | [],_::_,e=>by cases e
 | _::_,[],e=>by cases e
 | x::a,y::b,e=>by
  have e' : V.int (x:Nat)::iL a=V.int (y:Nat)::iL b:=e
  injection e' with e1 e2
  injection e1 with e1
  rw[iL_inj e2,show x=y by lia]
section
variable {P:Program} {w:World} {K:PySem.W.Frag} {mg:Str→Option Value} {base:Heap}
theorem idx_of_get {ss:List Sg}(T:Tab ss){n:Nat}(h:ss[n]?=some s):idx ss s=n:=by
 induction T with
 | nil=>simp at h
 | @snoc ss t T c i g =>
  by_cases d:n<ss.length
  ·rw[Zat d] at h
   have b:Pre ss (ss++[t]):=⟨[t],rfl⟩
   rw[b.idx (Ze h)]
   exact g h
  ·have a:=(Zj.mp h).1
   rw[Zv] at a
   have e:n=ss.length:=by simp at a;lia
   subst e
   rw[Zag (Zd _),Nat.sub_self] at h
   have f:t=s:=Zm h
   subst f
   exact Gq c
theorem ok_nk (F:Fun K "number_known" "Numbering.number_known" sNk f fd)(T:Txt K w.params mg)(TC:TxC K mg C)(GN:Dm P w K mg base CX0 2 C "number_form" ["self","form","saying"] (spNf P w C))(GL:Df P w K mg base CX0 1 "look_of" ["part","way"] spLo)(GP:Dm P w K mg base CX0 31 C "place_known" ["self","part","way","found"] (spPk P w C)) :
  FnOk P w K mg base CX0 32 f fd ["self","part","way"] (spNk P w C):=by
 obtain⟨aL,al,tL⟩:=T.lv
 refine Bs F ["self","part","way","found","place","number"] fun sc a0 A aw s0 H vs Q E hr h=>?_
 obtain⟨d,O,z,v,s,c,rfl,N,Z,hw,ad,a1,q⟩:=h
 have hu:=hu_of hr
 have as:=hu5_of hr
 obtain⟨a,r0,rfl,ha⟩:=Z.w0
 refine⟨_,Ab (Bo (Ao op_in_seq (Ar Az (pv 1) Ad (fun _ _=>rfl)) (Ch (by rfl) al (v:=.ref aL) rfl) rfl) (Ah (Ap (Cq (pv 0) TC.cl GN hr A6 (Aa (pv 1) (Aa (pv 1) Ac))))) Av)
  (Ab (An (i:=3) sc.nd rfl (Or.inl rfl) (show PE _ _ (tLkGet P w _ _ _) from pe_lkGet as (Bh (pv 0) rfl) (Ak GL hr A6 (Aa (pv 1) (Aa (pv 2) Ac))) (Bp Ac) ⟨rfl,rfl,rfl,rfl⟩))
  (Ab (An (i:=4) sc.nd rfl (Or.inl rfl) (Cp (Bw (pv 3) (fun _=>rfl)) (Cq (pv 0) TC.cl GP hr A6 (Aa (pv 1) (Aa (pv 2) (Aa (pv 3) Ac)))) (Dl Cm Ad)))
  (Ab (Bo (Ao Jt (pv 4) Ad (Aq _)) (Ah (Ap (Dl Cm Ad))) Av)
  (Ab (An (i:=5) sc.nd rfl (Or.inl rfl) (Ar Ax (pv 3) (pv 4) (fun _ _=>rfl)))
  (Ab (Bo (Ao Jt (pv 4) (Au Fw (A3 A0 (by rfl) T.len Zax (Aa (pv 3) Ac)) Ad) (Aq _))
   (Ah (Bj (Cy Zq Zx Zy Ba (pv 3) (Aa (Cy Zq Zch Zci mt_popAt (pv 3) (Aa (pv 4) Ac)) Ac)))) Av)
  (Ab (Ff hu (Bh (pv 0) rfl) (pv 5) (pv 1) rfl)
  (Ab (Ff hu (Bh (pv 0) rfl) (pv 5) J2 rfl)
  (Ah (Ap (pv 5)))))))))),?_⟩
 dsimp only [Di,Cx.nox,Cx.wish]
 refine Co fun U1 q1=>?_
 refine⟨_,rfl,a,_,_,_,rfl,rfl,SqT.of ha,at0,aL,_,rfl,.inr (tL.sq _),rfl,rfl,_,rfl,?_⟩
 have eb:(if false=true then !inV (.str s.word) [.str "no", .str "letter"] else inV (.str s.word) [.str "no", .str "letter"])=s.inner.isEmpty:=J9 s
 dsimp only
 rw[eb]
 by_cases r:s.inner=[]
 ·rw[r]
  refine Eg ?_
  obtain⟨a',ea,ak⟩:=key_leaf (ss:=z.ss) Z r
  cases ea
  refine⟨_,rfl,d.p,d.dx,_,rfl,N.ob,rfl,_,rfl,_,rfl,d,O,z,a,.ref a,s,rfl,N,Z,ak,(by rw[r];exact fun _ h=>nomatch h),ad,by lia,fun z1 H1 am N1 e1 c1 kp=>?_⟩
  exact (q z1 H1 am N1 (by lia) (by rw[kp.work];lia)).2 (.inl ⟨r,e1⟩)
 have aq:s.inner.isEmpty=false:=by
  cases e:s.inner with
  | nil=>exact absurd e r
  | cons _ _=>rfl
 rw[aq]
 refine Cv ?_
 -- found
 have ai:∀ x∈z.lk,LkAt H x.1 x.2.1:=fun x j=>(N.lk x j).1
 dsimp only [tNext]
 rw[q1]
 refine Co fun U2 q2=>?_
 refine Ek (P:=fun x H2=>Bq H H2∧∃ u g,x = .ref u∧H2 u=some (.lst (iL g))∧(g=[]∨∃ y∈z.lk,y.2.2=u)) (fun Qf Y=>?_) ?_
 ·refine⟨_,rfl,d.p,C,d.dx,_,_,rfl,N.ob,TC.cl,TC.n11,rfl,z.dl,z.lk,rfl,N.raw.at 11 rfl,ai,?_⟩
  refine⟨_,rfl,_,rfl,.ref a,s,c,wy true s,rfl,Z,r,hw,fun b t' u' H6 ap av=>?_⟩
  refine⟨Zt _,fun l hl=>?_⟩
  have J:=ap.trans (Aj (o:=.lst []) hl)
  refine⟨z.lk,lkOf s t' u' (wy true s),b,J _ _ (N.raw.at 11 rfl),rfl,av.stay (TuO.new hl),fun x j=>(ai x j).stay (Al J),?_⟩
  cases hf:findLk z.lk (lkOf s t' u' (wy true s)) with
  | none=>exact Y _ _ ⟨J,l,[],rfl,upd_same,.inl rfl⟩
  | some l' =>
   obtain⟨x,j,ex⟩:=find_mem hf
   obtain⟨_,_,_,g,m,_⟩:=N.lk x j
   rw[ex] at m
   exact Y _ _ ⟨J,l',g,rfl,J _ _ m,.inr ⟨x,j,ex⟩⟩
 rintro x H2 ⟨X,u,g,rfl,R,ac⟩
 have N2:=N.same X
 -- place
 dsimp only [Hs]
 rw[q2]
 refine Co fun U3 q3=>?_
 refine Ek (P:=fun x H3=>∃ G,G≤z.work+400∧Stp O O H H3∧NumAt P w C H3 d O { z with work:=G }∧H3 u=some (.lst (iL g))∧(x = .int (-1)∨∃ i n:Nat,x = .int i∧g[i]?=some n∧z.ss[n]?=some s)) (fun Qf Y=>?_) ?_
 ·by_cases M:g=[]
  ·subst M
   exact⟨_,rfl,false,.inl ⟨_,SqL.of R,rfl⟩,Cv ⟨_,rfl,Y _ _ ⟨z.work,by lia,Stp.same X,N2,R,.inl rfl⟩⟩⟩
  ·have an:(!(iL g).isEmpty)=true:=by
    cases g with
    | nil=>exact absurd rfl M
    | cons _ _=>rfl
   obtain⟨y,W,ey⟩:=ac.resolve_left M
   obtain⟨_,_,g3,t,m,g5,g6⟩:=N2.lk y W
   rw[ey] at g3 m
   have em:t=g:=by
    rw[R] at m
    have e1:iL g=iL t:=by injection m with m;injection m
    exact (iL_inj e1).symm
   subst em
   have ay : t.length≤z.cnt:=g5
   refine⟨_,rfl,true,.inl ⟨_,SqL.of R,an.symm⟩,Eg ?_⟩
   refine⟨_,rfl,d.p,d.dx,_,rfl,N2.ob,rfl,_,rfl,_,rfl,_,rfl,d,O,z,.ref a,s,c,u,t,rfl,N2,Z.stay (Al X),r,ad,R,g3,g6,by lia,fun G H3 j L U D=>?_⟩
   have st:=(Stp.same (O:=O) X).trans L
   exact⟨Y _ _ ⟨G,j,st,U,D,.inl rfl⟩,fun i n h1 h2=>Y _ _ ⟨G,j,st,U,D,.inr ⟨i,n,rfl,h1,h2⟩⟩⟩
 rintro x H3 ⟨G,af,L,U,D,j⟩
 rcases j with rfl | ⟨i,n,rfl,B,aa⟩
 ·dsimp only [Hs]
  rw[q3]
  refine⟨_,rfl,_,_,rfl,rfl,_,rfl,ifT (by decide) ⟨_,rfl,?_⟩⟩
  exact (q _ H3 L U (by show z.cnt≤z.cnt+3;lia) af).1 r rfl
 dsimp only [Hs]
 rw[q3]
 refine⟨_,rfl,_,_,rfl,rfl,_,rfl,ifF (by lia) ?_⟩
 have ah:=(Zj.mp B).1
 -- number
 refine⟨_,rfl,_,rfl,u,_,_,V.int (n:Nat),rfl,rfl,SqL.of D,Be (by rw[Zp,B];rfl),?_⟩
 have M:g≠[]:=fun e=>by rw[e] at B;simp at B
 obtain⟨y,W,ey⟩:=ac.resolve_left M
 have ll:(iL g).length=g.length:=Zl ..
 dsimp only [Hs]
 refine use_stm (P:=fun H4=>∃ S,S≤z.cnt+1∧Stp O O H H4∧NumAt P w C H4 d O { z with work:=G,cnt:=S }) (fun Nx hN=>?_) ?_
 ·refine⟨_,rfl,_,rfl,u,_,rfl,.inl (SqL.of D),_,_,rfl,rfl,_,_,rfl,rfl,_,rfl,Gv (fun _=>?_) (fun _=>hN _ ⟨z.cnt,Zbp _,L,U⟩)⟩
  obtain⟨_,_,_,t,m,g5,g6⟩:=U.lk y W
  rw[ey] at m
  have em:t=g:=by
   rw[D] at m
   have e1:iL g=iL t:=by injection m with m;injection m
   exact (iL_inj e1).symm
  subst em
  have az:t.length≤z.cnt:=g5
  have el:(iL t).eraseIdx i++[V.int (n:Nat)]=iL (t.eraseIdx i++[n]):=by
   show _=(t.eraseIdx i++[n]).map _
   rw[Zac,map_erase]
   rfl
  obtain⟨NP,ae⟩:=U.push (x:=y) W (t.eraseIdx i++[n]) (by rw[Zv,List.length_eraseIdx,Zw ah];show t.length - 1+1≤z.cnt+1;lia) (fun k I=>by
   rcases Zaa.mp I with I | I
   ·exact g6 k (List.mem_of_mem_eraseIdx I)
   ·rw[Zg.mp I];exact g6 n (Ze B))
  rw[ey] at NP ae
  refine⟨_,rfl,.inl ⟨rfl,_,SqL.of D⟩,_,rfl,.inl ⟨rfl,_,SqL.of D⟩,_,rfl,u,_,_,i,V.int (n:Nat),rfl,rfl,D,by lia,by lia,seq_ix (by rw[ll];exact ah),by rw[Zp,B];rfl,u,_,_,rfl,rfl,upd_same,Bf (by rw[List.length_eraseIdx,ll];split <;> lia),?_⟩
  rw[C4,el]
  exact hN _ ⟨z.cnt+1,Zd _,L.trans ae,NP⟩
 rintro H4 ⟨S,ax,ag,N4⟩
 have ar:=Z.stay ag.tu
 have c1:z.met.length≤S:=N4.c1
 have c2:z.ca.length≤S:=N4.c2
 -- met[number]=part
 refine⟨_,rfl,_,rfl,d.p,C,d.dx,_,_,rfl,N4.ob,TC.cl,TC.n10,rfl,_,rfl,z.dm,_,rfl,DPut.k (k:=Sum.inl (n:Int)) (N4.raw.at 10 rfl) (Bf (by show z.met.length≤100000;lia)),?_⟩
 obtain⟨N5,au⟩:=N4.cell (o':=.dK (C9 z.met (Sum.inl (n:Int)) (.ref a))) 10 rfl (fun _ z=>by cases z) { z with work:=G,met:=C9 z.met (Sum.inl (n:Int)) (.ref a),cnt:=S+1 } rfl ⟨rfl,rfl,rfl,rfl,rfl,rfl,rfl⟩ (Zbp _)
  (fun x j=>(mem_put j).imp id fun e=>⟨n,s,by rw[e],aa,r,by rw[e];exact ar⟩) (fun k I=>Jc _ _ _ _ I) rfl (Zah (Cg ..) (Zbm c1)) (Zap c2)
 have ab:=ag.trans au
 generalize upd H4 z.dm (.dK (C9 z.met (Sum.inl (n:Int)) (.ref a)))=H5 at N5 ab ⊢
 -- came_again[number]=True
 refine⟨_,rfl,d.p,C,d.dx,_,_,rfl,N5.ob,TC.cl,TC.n12,rfl,_,rfl,d.dc,_,rfl,DPut.k (k:=Sum.inl (n:Int)) (N5.raw.at 12 rfl) (Bf (by show z.ca.length≤100000;lia)),?_⟩
 obtain⟨N6,ao⟩:=N5.cell (o':=.dK (C9 z.ca (Sum.inl (n:Int)) (.bl true))) 12 rfl (fun _ z=>by cases z) { z with work:=G,met:=C9 z.met (Sum.inl (n:Int)) (.ref a),ca:=C9 z.ca (Sum.inl (n:Int)) (.bl true),cnt:=S+1 } rfl ⟨rfl,rfl,rfl,rfl,rfl,rfl,rfl⟩ (Zd _)
  (fun x j=>.inl j) (fun k I=>I) rfl N5.c1 (Zah (Cg ..) (Zbm c2))
 have aj:=ab.trans ao
 refine⟨_,rfl,?_⟩
 have:=(q _ _ aj N6 (by show S+1≤z.cnt+3;lia) af).2 (.inr ⟨Ze aa,rfl⟩)
 dsimp only at this
 rw[idx_of_get N.tab aa] at this
 exact this
end
inductive FrR (H:Hp) (ss:List Sg) (v:V) (t:Sg×Bool):Prop
 | mk (b c:Addr) (u:V) (f j h:Int) (_:v = .ref b) (_:H b=some (.tup [u,.int f,.ref c,.int j,.int h])) (_:SyO H u t.1) (_:WyAt H (wy true t.1) c) (_:0≤j) (_:t.1.high≤300) (_:t.1.inner≠[]) (_:((t.2=false∧f = -1)∨(t.2=true∧∃ jn a e,t.1 = .bin jn a e∧a∈ss∧f=(idx ss a:Nat))))
theorem FrR.stay {H H' : Hp}(e:TuO H H')(p:Pre ss ss')(h:FrR H ss v t):FrR H' ss' v t:=by
 obtain⟨b,c,u,f,j,k,g,i,s,l,w,o,r,x⟩:=h
 refine⟨b,c,u,f,j,k,g,e _ _ i,s.stay e,l.stay e,w,o,r,x.imp id fun ⟨n,q,a,e,y,d,m⟩=>⟨n,q,a,e,y,p.mem d,by rw[p.idx d];exact m⟩⟩
theorem G3 {α β:Type}{F:α→β→Prop}:∀ {xs:List α} {ys:List β} {y:β},Paired F xs (ys++[y])→∃ xs' x,xs=xs'++[x]∧Paired F xs' ys∧F x y
 | _,[],y,.cons h .nil=>⟨[],_,rfl,.nil,h⟩
 | _,z::ys,y,.cons h t=>by
  obtain⟨xs',x,e,p,f⟩:=G3 (ys:=ys) t
  subst e
  exact⟨_::xs',x,rfl,.cons h p,f⟩
abbrev Wts (H:Hp) (ss:List Sg) (ws:List V) (fs:List (Sg×Bool)):Prop:=Paired (FrR H ss) ws fs.reverse
theorem Wts.stay {H H' : Hp}(e:TuO H H')(p:Pre ss ss')(h:Wts H ss ws fs):Wts H' ss' ws fs:=Paired.imp' (fun _ _=>FrR.stay e p) h
structure Com (P:Program) (w:World) (C:Addr) (d:NA) (O:Addr→Prop) (H:Hp) (lw:Addr) (H' : Hp) (z' : NZ) (fs:List (Sg×Bool)) (O' : Addr→Prop) (ws:List V):Prop where
 st:Stp O O' H H'
 N:NumAt P w C H' d O' z'
 nO:¬ O' lw
 hw:H' lw=some (.lst ws)
 wt:Wts H' z'.ss ws fs
theorem Com.step {O O' : Addr→Prop}{H H' H1:Hp}{z' z1:NZ}(c:Com P w C d O H lw H' z' fs O' ws)(st:Stp O' O' H' H1)(N:NumAt P w C H1 d O' z1)(p:Pre z'.ss z1.ss):Com P w C d O H lw H1 z1 fs O' ws :=
 ⟨c.st.trans st,N,c.nO,st.but lw _ c.nO c.hw,c.wt.stay st.tu p⟩
theorem Com.stepO {O O' O2:Addr→Prop}{H H' H1:Hp}{z' z1:NZ}(c:Com P w C d O H lw H' z' fs O' ws)(st:Stp O' O2 H' H1)(N:NumAt P w C H1 d O2 z1)(p:Pre z'.ss z1.ss):Com P w C d O H lw H1 z1 fs O2 ws :=
 have n:¬ O2 lw:=fun h=>(st.nw lw h).elim c.nO fun h=>by rw[c.hw] at h;cases h
 ⟨c.st.trans st,N,n,st.but lw _ c.nO c.hw,c.wt.stay st.tu p⟩
theorem Com.same {O O' : Addr→Prop}{H H' H1:Hp}(c:Com P w C d O H lw H' z' fs O' ws)(sm:Bq H' H1):Com P w C d O H lw H1 z' fs O' ws :=
 c.step (Stp.same sm) (c.N.same sm) (Pre.refl _)
theorem Com.wait {O O' : Addr→Prop}{H H' : Hp}{z' : NZ}(c:Com P w C d O H lw H' z' fs O' ws)(hl:H lw=none)(h:Wts H' z'.ss ws' fs'):Com P w C d O H lw (upd H' lw (.lst ws')) z' fs' O' ws':=by
 have a:TuO H' (upd H' lw (.lst ws')):=TuO.lst c.hw
 refine⟨⟨c.st.tu.trans a,fun b o n e=>by rw[Ai (Ae e hl)];exact c.st.but b o n e,c.st.gr,c.st.nw,fun b o e=>?_⟩,c.N.stay (fun b o f e=>by rw[Ai (fun z:b=lw=>c.nO (z ▸ f))];exact e) a,c.nO,upd_same,h.stay a (Pre.refl _)⟩
 rw[Ai (Ae e hl)]
 exact c.st.al b o e
inductive StA (P:Program) (w:World) (C:Addr) (d:NA) (O:Addr→Prop) (H:Hp) (lw:Addr) (v:V) (s:Sg) (aj mw:Int) (FIN:List Sg) (Bud:Nat) (m:Nat) (σ:L2.St) (H' : Hp):Prop
 | mk (z' : NZ) (O' : Addr→Prop) (ws:List V) (t:Sg) (fs:List (Sg×Bool)) (u:V) (c:Addr) (jn:Int) (v8 v9:Option V) (_:σ=[some (.ref d.p),some v,some (.int aj),some (.int mw),some (.ref lw),some u,some (.int jn),some (.ref c),v8,v9]) (_:Com P w C d O H lw H' z' fs O' ws) (_:SyO H' u t) (_:WyAt H' (wy true t) c) (_:Zip fs t s) (_:after fs (vis t z'.ss)=FIN) (_:t.high≤300) (_:0≤jn) (_:z'.cnt+5 * (2 * (t.size+rem fs)+fs.length)≤Bud) (_:z'.work+2000 * ((2 * (t.size+rem fs)+fs.length:Nat):Int)≤mw) (_:m=t.size+rem fs)
inductive StD (P:Program) (w:World) (C:Addr) (d:NA) (O:Addr→Prop) (H:Hp) (lw:Addr) (v:V) (s:Sg) (aj mw:Int) (FIN:List Sg) (Bud M:Nat) (m:Nat) (σ:L2.St) (H' : Hp):Prop
 | mk (z' : NZ) (O' : Addr→Prop) (ws:List V) (t:Sg) (fs:List (Sg×Bool)) (u:V) (c:Addr) (jn:Int) (v9:Option V) (_:σ=[some (.ref d.p),some v,some (.int aj),some (.int mw),some (.ref lw),some u,some (.int jn),some (.ref c),some (.int (-1)),v9]) (_:Com P w C d O H lw H' z' fs O' ws) (_:SyO H' u t) (_:WyAt H' (wy true t) c) (_:Zip fs t s) (_:after fs (vis t z'.ss)=FIN) (_:t.high≤300) (_:0≤jn) (_:t.inner≠[]) (_:z'.cnt+5 * (2 * (t.size+rem fs)+fs.length)≤Bud+3) (_:z'.work+2000 * ((2 * (t.size+rem fs)+fs.length:Nat):Int)≤mw+400) (_:t.size+rem fs≤M) (_:m=t.size)
inductive StB (P:Program) (w:World) (C:Addr) (d:NA) (O:Addr→Prop) (H:Hp) (lw:Addr) (v:V) (s:Sg) (aj mw:Int) (FIN:List Sg) (Bud M:Nat) (x5:Option V) (fs:List (Sg×Bool)) (σ:L2.St) (H' : Hp):Prop
 | mk (z' : NZ) (O' : Addr→Prop) (ws:List V) (t:Sg) (v6 v7 v9:Option V) (_:σ=[some (.ref d.p),some v,some (.int aj),some (.int mw),some (.ref lw),x5,v6,v7,some (.int (idx z'.ss t:Nat)),v9]) (_:Com P w C d O H lw H' z' fs O' ws) (_:t∈z'.ss) (_:Zip fs t s) (_:after fs z'.ss=FIN) (_:rem fs<M) (_:z'.cnt+5 * (2 * rem fs+fs.length+1)≤Bud) (_:z'.work+2000 * ((2 * rem fs+fs.length+1:Nat):Int)≤mw)
theorem SyO.down1 {H:Hp}{t:Sg}(h:SyO H v t)(hs:t.inner≠[]):∃ a xs u t',v = .ref a∧H a=some (.tup xs)∧atI xs 1=some u∧SyO H u t'∧t.stp true=t'.stp true+1∧t.lfe true=t'.lfe true∧(∀ r W,Zip r t W→Zip ((t,false)::r) t' W)∧(∀ r ss,after ((t,false)::r) (vis t' ss)=after r (vis t ss)) ∧
  (∀ r,t'.size+rem ((t,false)::r)+1=t.size+rem r)∧2≤xs.length∧t'.size<t.size∧t'.high<t.high:=by
 cases h with
 | no h=>exact absurd rfl hs
 | lt h=>exact absurd rfl hs
 | not h b=>exact⟨_,_,_,_,rfl,h,rfl,b,rfl,rfl,fun _ _ z=>.not z,fun _ _=>rfl,fun r=>by show _+rem r+1=1+_+rem r;lia,by simp,by simp only[Sg.size];lia,by simp only[Sg.high];lia⟩
 | shown h b=>exact⟨_,_,_,_,rfl,h,rfl,b,rfl,rfl,fun _ _ z=>.shown z,fun _ _=>rfl,fun r=>by show _+rem r+1=1+_+rem r;lia,by simp,by simp only[Sg.size];lia,by simp only[Sg.high];lia⟩
 | bin h b c=>exact⟨_,_,_,_,rfl,h,rfl,b,rfl,rfl,fun _ _ z=>.fst z,fun _ _=>rfl,fun r=>by simp only[rem,Sg.size];lia,by simp,by simp only[Sg.size];lia,by simp only[Sg.high];lia⟩
section
variable {P:Program} {w:World} {C:Addr} {d:NA} {O O' : Addr→Prop} {H H' H2:Hp} {lw c:Addr} {v u:V} {s t:Sg} {aj mw jn:Int} {FIN:List Sg} {Bud M:Nat} {z' z2:NZ} {fs:List (Sg×Bool)} {ws:List V} {v6 v7 v9 x5:Option V}
theorem stepD (co:Com P w C d O H lw H' z' fs O' ws)(hyu:SyO H' u t)(hwc:WyAt H' (wy true t) c)(hz:Zip fs t s)(haf:after fs (vis t z'.ss)=FIN)(hts:t.high≤300)(hjn:0≤jn)(hc:z'.cnt+5 * (2 * (t.size+rem fs)+fs.length)≤Bud)(hw:z'.work+2000 * ((2 * (t.size+rem fs)+fs.length:Nat):Int)≤mw)(hM:t.size+rem fs≤M)(st2:Stp O' O' H' H2)(N2:NumAt P w C H2 d O' z2)(c2:z2.cnt≤z'.cnt+3)(w2:z2.work≤z'.work+400)(hin:t.inner≠[])(es:z2.ss=z'.ss) :
  StD P w C d O H lw v s aj mw FIN Bud M t.size [some (.ref d.p),some v,some (.int aj),some (.int mw),some (.ref lw),some u,some (.int jn),some (.ref c),some (.int (-1)),v9] H2 :=
 ⟨z2,O',ws,t,fs,u,c,jn,v9,rfl,co.step st2 N2 (by rw[es];exact Pre.refl _),hyu.stay st2.tu,hwc.stay st2.tu,hz,by rw[es];exact haf,hts,hjn,hin,by lia,by lia,hM,rfl⟩
theorem stepB (co:Com P w C d O H lw H' z' fs O' ws)(hz:Zip fs t s)(haf:after fs (vis t z'.ss)=FIN)(hc:z'.cnt+5 * (2 * (t.size+rem fs)+fs.length)≤Bud)(hw:z'.work+2000 * ((2 * (t.size+rem fs)+fs.length:Nat):Int)≤mw)(hM:t.size+rem fs≤M)(st2:Stp O' O' H' H2)(N2:NumAt P w C H2 d O' z2)(c2:z2.cnt≤z'.cnt+3)(w2:z2.work≤z'.work+400)(h:(t.inner=[]∧z2.ss=add z'.ss t)∨(t∈z'.ss∧z2.ss=z'.ss)) :
  StB P w C d O H lw v s aj mw FIN Bud M x5 fs [some (.ref d.p),some v,some (.int aj),some (.int mw),some (.ref lw),x5,v6,v7,some (.int (idx z2.ss t:Nat)),v9] H2:=by
 have i:1≤t.size:=Sg.size_pos t
 have e:vis t z'.ss=z2.ss∧t∈z2.ss∧Pre z'.ss z2.ss:=by
  rcases h with ⟨c,f⟩ | ⟨c,f⟩
  ·have g:vis t z'.ss=add z'.ss t:=by
    cases t with
    | no=>rfl
    | lt x=>rfl
    | not a=>cases c
    | shown a=>cases c
    | bin j a b=>cases c
   rw[f]
   exact⟨g,Jr _ _,add_pre _ _⟩
  ·rw[f]
   exact⟨vis_in t co.N.tab c,c,Pre.refl _⟩
 refine⟨z2,O',ws,t,v6,v7,v9,rfl,co.step st2 N2 e.2.2,e.2.1,hz,by rw[← e.1];exact haf,by lia,by lia,by lia⟩
end
inductive spNw (P:Program) (w:World) (C:Addr) (vs:List V) (H:Hp) (Q:VK) (_:XK):Prop
 | mk (d:NA) (O:Addr→Prop) (z:NZ) (v:V) (s:Sg) (aj mw:Int) (_:vs=[.ref d.p,v,.int aj,.int mw]) (_:NumAt P w C H d O z) (_:SyO H v s) (_:s.high≤300) (_:aj≤7) (_:z.cnt+10 * s.size≤70000) (_:z.work+2000 * (2 * s.size)≤mw) (_:∀ (O' : Addr→Prop) (z' : NZ) (H' : Hp),Stp O O' H H'→NumAt P w C H' d O' z'→z'.ss=vis s z.ss→z'.cnt≤z.cnt+10 * s.size→Q (.int (idx z'.ss s:Nat)) H')
section
variable {P:Program} {w:World} {K:PySem.W.Frag} {mg:Str→Option Value} {base:Heap}
theorem ok_nw (F:Fun K "number_within" "Numbering.number_within" sNw f fd)(T:Txt K w.params mg)(TC:TxC K mg C)(GB:Dm P w K mg base CX0 1 C "begin_apart" ["self"] (spBa P w C))(GW:Df P w K mg base CX0 1 "way_down" ["saying","place"] spWd)(GK:Dm P w K mg base CX0 32 C "number_known" ["self","part","way"] (spNk P w C))(GO:Dm P w K mg base CX0 3 C "number_outer" ["self","outer","found"] (spNo P w C)) :
  FnOk P w K mg base CX0 33 f fd ["self","saying","apart_joins","most_work"] (spNw P w C):=by
 obtain⟨aA,mA,tA⟩:=T.ap
 refine Bs F ["self","saying","apart_joins","most_work","waiting","part","joins","way","found","outer"] fun sc fj A outer s0 H vs Q E hr h=>?_
 obtain⟨d,O,z,v,s,Y,W,rfl,N,hy,c7,fp,cj,et,q⟩:=h
 refine⟨_,Ab (Bj (pe_methD0 (pv 0) TC.cl GB hr A6))
  (Ab (An (i:=4) sc.nd rfl (Or.inl rfl) (Bp Ac))
  (Ab (An (i:=5) sc.nd rfl (Or.inl rfl) (pv 1))
  (Ab (An (i:=6) sc.nd rfl (Or.inl rfl) Ad)
  (Ab (An (i:=7) sc.nd rfl (Or.inl rfl) (Ak GW hr A6 (Aa (pv 5) (Aa Ad Ac))))
  (Ab (Dc Za0 (Ao op_notN (pv 5) Ed (Aq _))
   (Ab (An (i:=8) sc.nd rfl (Or.inl rfl) (Cq (pv 0) TC.cl GK hr A6 (Aa (pv 5) (Aa (pv 7) Ac))))
   (Ab (Dc Za0 (Ao Jt (pv 8) Ad (Aq _))
    (Ab (Bj (Cy Zq Zx Zy Ba (pv 4) (Aa (Bg (Aa (pv 5) (Aa (Dl Cm Ad) (Aa (pv 7) (Aa (pv 6) (Aa (Bh (pv 0) rfl) Ac)))))) Ac)))
    (Ab (ps_aug (i:=6) sc.nd rfl (Or.inl rfl) (Au Fw (A3 A0 (by rfl) T.len Zax (Aa (pv 5) Ac)) Ad) ip_add)
    (Ab (An (i:=5) sc.nd rfl (Or.inl rfl) (Ar Az (pv 5) Ad (fun _ _=>rfl)))
    (Ab (An (i:=7) sc.nd rfl (Or.inl rfl) (Bg (Aa (Au Fw (Ar Az (pv 7) Ad (fun _ _=>rfl)) Ad) (Aa (Ar Az (pv 7) Ad (fun _ _=>rfl)) Ac))))
    (Ah (An (i:=8) sc.nd rfl (Or.inl rfl) (Cq (pv 0) TC.cl GK hr A6 (Aa (pv 5) (Aa (pv 7) Ac))))))))))
   (Ab (An (i:=5) sc.nd rfl (Or.inl rfl) Ed)
   (Ah (Dc Za0 (PW.pt (Ds (Bw (pv 4) (fun _=>rfl)) (Ds (Ao op_isN (pv 5) Ed (Aq _)) (Dg (Ao op_le (Bh (pv 0) rfl) (pv 3) (Aq _))))))
    (Ab (An (i:=9) sc.nd rfl (Or.inl rfl) (Ib Zq Zch Zci mt_pop (pv 4)))
    (Ah (Bo (PW.pt (Ds (Ao Cw (A3 A0 (by rfl) T.len Zax (Aa (Ar Az (pv 9) Ad (fun _ _=>rfl)) Ac)) Ad (Aq _)) (Dg (Ao Jt (Ar Az (pv 9) Ad (fun _ _=>rfl)) Ad (Aq _)))))
     (Ab (Bj (Cy Zq Zx Zy Ba (pv 4) (Aa (Bg (Aa (Ar Az (pv 9) Ad (fun _ _=>rfl)) (Aa (pv 8) (Aa (Ar Az (pv 9) Ad (fun _ _=>rfl)) (Aa (Ar Az (pv 9) Ad (fun _ _=>rfl)) (Aa (Ar Az (pv 9) Ad (fun _ _=>rfl)) Ac)))))) Ac)))
     (Ab (An (i:=5) sc.nd rfl (Or.inl rfl) (Ar Az (Ar Az (pv 9) Ad (fun _ _=>rfl)) Ad (fun _ _=>rfl)))
     (Ab (An (i:=7) sc.nd rfl (Or.inl rfl) (Ak GW hr A6 (Aa (pv 5) (Aa Ad Ac))))
     (Ab (An (i:=6) sc.nd rfl (Or.inl rfl) (Au Ca (Ar Az (pv 9) Ad (fun _ _=>rfl)) Ad))
     (Ab (Es (pv 0) (Au Ca Ad (Ar Az (pv 7) Ad (fun _ _=>rfl))) in_add)
     (Ah (Bo (PW.pt (Ds (Ao Jt (Ar Az (pv 9) Ad (fun _ _=>rfl)) (pv 2) (Aq _)) (Dg (Ao op_le (Bh (pv 0) rfl) (Ar Az (Ch (by rfl) mA (v:=.ref aA) rfl) (Ar Az (pv 9) Ad (fun _ _=>rfl)) (fun _ _=>rfl)) (Aq _)))))
      (Ah (Bj (pe_methD0 (pv 0) TC.cl GB hr A6))) Av)))))))
     (Ah (An (i:=8) sc.nd rfl (Or.inl rfl) (Cq (pv 0) TC.cl GO hr A6 (Aa (pv 9) (Aa (pv 8) Ac))))))))))))))
  (Ah (Ap (Cp (Bw (pv 4) (fun _=>rfl)) (Dl Cm Ad) (pv 8))))))))),?_⟩
 dsimp only [Di,Cx.nox,Cx.wish]
 -- the beginning
 refine gen_row5 fun W0 eW=>?_
 refine Am fun U1 q1 D1 n1=>?_
 refine⟨_,rfl,d.p,d.dx,_,rfl,N.ob,rfl,d,O,z,rfl,N,fun O1 z1 H1 as N1 e1 w1 c1=>n1 _ _ ?_⟩
 clear n1 D1
 rw[q1]
 refine Am fun U2 q2 D2 n2=>?_
 refine⟨Zt _,fun j bh=>n2 _ _ ?_⟩
 clear n2 D2
 have cp:¬ O1 j:=fun h=>by
  obtain⟨o,e⟩:=N1.lv j h
  rw[bh] at e
  cases e
 have ay:H j=none:=by
  rcases as.free bh with h | h
  ·exact absurd (as.gr _ h) cp
  ·exact h
 have ce:=Aj (o:=.lst []) bh
 rw[q2]
 refine Am fun U3 q3 D3 n3=>⟨_,rfl,n3 _ _ ?_⟩
 clear n3 D3
 rw[q3]
 refine Am fun U4 q4 D4 n4=>n4 _ _ ?_
 clear n4 D4
 rw[q4]
 refine Am fun U5 q5 D5 n5=>?_
 refine⟨_,rfl,v,s,true,rfl,hy.stay (as.tu.trans (Al ce)),fun c H3 bg w3=>n5 _ _ ?_⟩
 clear n5 D5
 have ar:=ce.trans bg
 have bn:Com P w C d O H j H3 z1 [] O1 []:=⟨as.trans (Stp.same ar),N1.same ar,cp,bg _ _ upd_same,.nil⟩
 obtain⟨S,be⟩:∃ F,F=vis s z.ss:=⟨_,rfl⟩
 obtain⟨G,a0⟩:∃ B,B=z.cnt+10 * s.size:=⟨_,rfl⟩
 have cn:StA P w C d O H j v s Y W S G (s.size+0) [some (.ref d.p),some v,some (.int Y),some (.int W),some (.ref j),some v,some (.int 0),some (.ref c),none,none] H3:=by
  refine⟨z1,O1,[],s,[],v,c,0,none,none,rfl,bn,hy.stay (as.tu.trans (Al ar)),w3,.nil,by rw[be,e1];rfl,c7,by lia,?_,?_,rfl⟩
  ·show z1.cnt+5 * (2 * (s.size+0)+0)≤G;lia
  ·show z1.work+2000 * ((2 * (s.size+0)+0:Nat):Int)≤W;lia
 have fo:G≤70000:=by rw[a0];exact cj
 have ed:∀ c:Nat,c≤G→c≤z.cnt+10 * s.size:=fun c h=>by rw[← a0];exact h
 clear bn w3 bg ar cj et a0 w1 c1
 rw[q5]
 refine Am fun U6 q6 D6 n6=>?_
 rw[eW]
 clear eW
 refine Hj (fun m σ H'=>StA P w C d O H j v s Y W S G m σ H'∨(m=0∧StB P w C d O H j v s Y W S G (G+1) (some .non) [] σ H')) ⟨_,.inl cn⟩ ?_
 clear cn c H3
 intro B1 ej
 rintro m σ H' (hA | ⟨rfl,hB⟩) Kw kT kF
 ·obtain⟨z',O',ws,t,fs,u,c,jn,v8,v9,rfl,D,ak,ao,hz,I,b6,dt,ab,ac,rfl⟩:=hA
  obtain⟨a,r0,rfl,ha⟩:=ak.w0
  refine⟨_,rfl,rfl,_,rfl,kT _ ?_⟩
  clear kT kF Kw
  clear n6
  rw[ej]
  refine Hq fun DB nB=>?_
  have sp:1≤t.size:=Sg.size_pos t
  refine Ek (P:=fun x H2=>StD P w C d O H j v s Y W S G (t.size+rem fs) t.size [some (.ref d.p),some v,some (.int Y),some (.int W),some (.ref j),some (.ref a),some (.int jn),some (.ref c),some x,v9] H2 ∨
   StB P w C d O H j v s Y W S G (t.size+rem fs) (some (.ref a)) fs [some (.ref d.p),some v,some (.int Y),some (.int W),some (.ref j),some (.ref a),some (.int jn),some (.ref c),some x,v9] H2) (fun Qf hQ=>?_) ?_
  ·exact⟨_,rfl,d.p,d.dx,_,rfl,D.N.ob,rfl,_,rfl,_,rfl,d,O',z',.ref a,t,c,rfl,D.N,ak,ao,b6,by lia,fun z2 H2 cd N2 c2 w2 =>
    ⟨fun a8 es=>hQ _ _ (.inl (stepD D ak ao hz I b6 dt ab ac (Zd _) cd N2 c2 w2 a8 es)),fun au=>hQ _ _ (.inr (stepB D hz I ab ac (Zd _) cd N2 c2 w2 au))⟩⟩
  obtain⟨M,hM⟩:∃ M,M=t.size+rem fs:=⟨_,rfl⟩
  rw[← hM]
  rintro x H2 ck
  -- down to what is known
  refine Am fun U7 q7 D7 n7=>?_
  refine Hj (fun m σ H'=>StD P w C d O H j v s Y W S G M m σ H'∨(m=0∧∃ x5 fs,StB P w C d O H j v s Y W S G M x5 fs σ H')) ?_ ?_
  ·rcases ck with h | h
   ·exact⟨_,.inl h⟩
   ·exact⟨0,.inr ⟨rfl,_,_,h⟩⟩
  clear ck D ak ao hz I ab ac ha sp x H2
  intro B2 dq
  rintro m σ H3 (hD | ⟨rfl,x5,gs,hB⟩) Kw kT kF
  ·obtain⟨z3,O3,al,t3,gs,u3,c3,ax,w9,rfl,D,ak,ao,hz,I,cz,cy,a8,ab,ac,e8,rfl⟩:=hD
   refine⟨_,rfl,_,_,rfl,rfl,_,rfl,Jo (by decide) (kT _ ?_)⟩
   clear n7 nB kT kF Kw
   rw[dq]
   refine Hq fun DC nC=>?_
   obtain⟨a3,d9,u4,k,rfl,cs,dj,df,e1,e2,g,d5,c8,lx,d0,fv⟩:=SyO.down1 ak a8
   have an:=D.wt.length
   rw[Zca] at an
   -- waiting.append(..)
   refine Am fun U8 q8 D8 n8=>?_
   refine⟨_,rfl,.inl ⟨rfl,_,SqL.of D.hw⟩,_,rfl,_,rfl,_,rfl,_,rfl,_,rfl,d.p,C,d.dx,_,_,rfl,D.N.ob,TC.cl,TC.n13,rfl,small (Za rfl),fun tt bi=>?_⟩
   have L:=Aj (o:=.tup [.ref a3,.int (-1),.ref c3,.int ax,.int z3.home]) bi
   refine⟨j,_,_,rfl,rfl,L _ _ D.hw,Bf (by lia),n8 _ _ ?_⟩
   clear n8 D8
   have X:=(D.same L).wait (ws':=al++[.ref tt]) (fs':=(t3,false)::gs) ay (by
    show Paired _ _ ((t3,false)::gs).reverse
    rw[Zbd]
    exact Zc9 (D.wt.stay (Al L) (Pre.refl _)) ⟨tt,c3,.ref a3,-1,ax,z3.home,rfl,upd_same,ak.stay (Al L),ao.stay (Al L),cy,cz,a8,.inl ⟨rfl,rfl⟩⟩)
   have af:TuO H3 (upd (upd H3 tt (.tup [.ref a3,.int (-1),.ref c3,.int ax,.int z3.home])) j (.lst (al++[.ref tt]))):=(Al L).trans (TuO.lst (L _ _ D.hw))
   generalize upd (upd H3 tt (.tup [.ref a3,.int (-1),.ref c3,.int ax,.int z3.home])) j (.lst (al++[.ref tt]))=H4 at X af ⊢
   -- joins,part,way
   rw[q8]
   refine Am fun U9 q9 D9 n9=>⟨_,rfl,_,rfl,a3,_,rfl,.inr (SqT.of (af _ _ cs)),_,_,rfl,rfl,_,_,rfl,rfl,n9 _ _ ?_⟩
   clear n9 D9
   rw[q9]
   refine Am fun fx ds ei bu=>⟨_,rfl,a3,_,_,u4,rfl,rfl,SqT.of (af _ _ cs),dj,bu _ _ ?_⟩
   clear bu ei
   obtain⟨el,g1,g2⟩:=id (ao.stay af)
   rw[ds]
   refine Am fun fa eu di cr=>?_
   refine⟨_,rfl,c3,_,_,V.int (t3.stp true:Nat),rfl,rfl,SqT.of g1,at0,_,_,rfl,rfl,_,rfl,c3,_,_,V.ref el,rfl,rfl,SqT.of g1,at1,small (Za rfl),fun c4 bv=>cr _ _ ?_⟩
   clear cr di
   have b0:=Aj (o:=.tup [.int ((t3.stp true:Nat) - 1),.ref el]) bv
   have w4:WyAt (upd H4 c4 (.tup [.int ((t3.stp true:Nat) - 1),.ref el])) (wy true k) c4:=by
    refine⟨el,?_,?_⟩
    ·rw[upd_same]
     show some (HO.tup [V.int (((t3.stp true:Nat):Int) - 1),.ref el])=some (HO.tup [V.int (k.stp true:Nat),.ref el])
     rw[e1,show ((k.stp true+1:Nat):Int) - 1=(k.stp true:Nat) by lia]
    ·rw[Ai (Ae g2 bv)]
     show H4 el=some (.tup ((lfK (k.lfe true)).map kV))
     rw[← e2]
     exact g2
   have ag:=X.same b0
   have av:=(df.stay af).stay (Al b0)
   have rm:=c8 gs
   have lg:((t3,false)::gs).length=gs.length+1:=rfl
   have cc:after ((t3,false)::gs) (vis k z3.ss)=S:=by rw[d5];exact I
   try dsimp only
   generalize upd H4 c4 (.tup [.int ((t3.stp true:Nat) - 1),.ref el])=H5 at ag av w4 ⊢
   have eo:0≤ax+((d9.length:Nat) - 2):=by lia
   have b1:z3.cnt+5 * (2 * (k.size+rem ((t3,false)::gs))+((t3,false)::gs).length)≤G:=by rw[lg];lia
   have b2:z3.work+2000 * ((2 * (k.size+rem ((t3,false)::gs))+((t3,false)::gs).length:Nat):Int)≤W:=by rw[lg];lia
   rw[eu]
   refine⟨_,rfl,d.p,d.dx,_,rfl,ag.N.ob,rfl,_,rfl,_,rfl,d,O3,z3,u4,k,c4,rfl,ag.N,av,w4,by lia,by lia,fun z5 H6 a6 N6 c6 w6=>⟨fun cv es=>?_,fun au=>?_⟩⟩
   ·exact nC _ _ ⟨k.size,d0,.inl (stepD ag av w4 (g gs s hz) cc (by lia) eo b1 b2 (by lia) a6 N6 c6 w6 cv es)⟩
   ·exact nC _ _ ⟨0,by have:=Sg.size_pos k;lia,.inr ⟨rfl,_,_,stepB ag (g gs s hz) cc b1 b2 (by lia) a6 N6 c6 w6 au⟩⟩
  ·obtain⟨z3,O3,al,t3,w6,w7,w9,rfl,D,aa,hz,I,aq,ab,ac⟩:=hB
   refine⟨_,rfl,_,_,rfl,rfl,_,rfl,J8 (by lia) (kF _ (n7 _ _ ?_))⟩
   clear n7 D7 kT kF Kw
   rw[q7]
   refine Am fun e7 dk eh b4=>b4 _ _ ?_
   clear b4 eh
   -- up again
   rw[dk]
   refine Hj (fun m σ H'=>(∃ fs,StB P w C d O H j v s Y W S G M (some .non) fs σ H'∧m=2 * fs.length+1)∨(m=0∧∃ mA,mA<M∧StA P w C d O H j v s Y W S G mA σ H')) ⟨_,.inl ⟨gs,⟨z3,O3,al,t3,w6,w7,w9,rfl,D,aa,hz,I,aq,ab,ac⟩,rfl⟩⟩ ?_
   clear aa hz I aq ab ac D
   intro B3 dd
   rintro m σ H4 (⟨fs,⟨g,O4,ai,k,w6,w7,w9,rfl,D,aa,hz,I,aq,ab,ac⟩,rfl⟩ | ⟨rfl,mA,fu,hA⟩) Kw kT kF
   ·have an:=D.wt.length
    rw[Zca] at an
    cases fs with
    | nil =>
     have e0:ai=[]:=Zai an
     have ad:=D.hw
     rw[e0] at ad
     refine⟨_,rfl,false,.inl ⟨_,SqL.of ad,rfl⟩,Cv (kF _ (nB _ _ ⟨0,by lia,.inr ⟨rfl,g,O4,ai,k,w6,w7,w9,rfl,D,aa,hz,I,by show 0<G+1;lia,ab,ac⟩⟩))⟩
    | cons fr r =>
     obtain⟨J,b5⟩:=fr
     have wt:=D.wt
     have dp : Paired (FrR H4 g.ss) ai (r.reverse++[(J,b5)]):=by rw[← Zbd];exact wt
     obtain⟨ws',x,bf,bz,bt,c5,u5,f5,U,h5,rfl,en,av,ct,da,a1,bk,bb⟩:=G3 dp
     have d6:(!ai.isEmpty)=true:=by rw[bf];cases ws' <;> rfl
     have ba:=D.hw
     have fh:1≤2 * rem ((J,b5)::r)+((J,b5)::r).length+1:=by lia
     refine⟨_,rfl,true,.inl ⟨_,SqL.of ba,d6.symm⟩,Eg ⟨_,rfl,rfl,_,rfl,Eg ⟨_,rfl,d.p,C,d.dx,_,_,rfl,D.N.ob,TC.cl,TC.n14,rfl,_,rfl,_,_,rfl,rfl,_,rfl,Jo (by lia) (kT _ ?_)⟩⟩⟩
     clear nB kT kF Kw
     rw[dd]
     refine Hq fun DE nE=>?_
     -- outer=waiting.pop()
     refine Am fun ft dg db cf=>⟨_,rfl,.inl ⟨rfl,_,SqL.of ba⟩,j,_,.ref bt,rfl,rfl,ba,by rw[bf,Zv];simp,cf _ _ ?_⟩
     clear cf db
     have dh:ai.dropLast=ws':=by rw[bf];simp
     rw[dh]
     have af:TuO H4 (upd H4 j (.lst ws')):=TuO.lst ba
     have X:=D.wait (ws':=ws') (fs':=r) ay bz
     have R:=af _ _ en
     have am:=av.stay af
     have ah:=ct.stay af
     generalize upd H4 j (.lst ws')=H5 at X R am ah ⊢
     have fm:(Cz g.ss J).length=J.inner.length:=by unfold Cz;rw[Zl]
     have cw:(∃ jn l,J = .bin jn k l∧b5=false)∨((J.inner.length=1∨0≤f5)∧((f5<0∧Cz g.ss J=[idx g.ss k])∨∃ n:Nat,f5=n∧Cz g.ss J=[n,idx g.ss k])∧(∀ a∈J.inner,a∈g.ss)∧Zip r J s∧after r (add g.ss J)=S∧rem ((J,b5)::r)=rem r):=by
      cases hz with
      | not h =>
       rcases bb with ⟨_,e⟩ | ⟨e,_⟩
       ·exact .inr ⟨.inl rfl,.inl ⟨by lia,rfl⟩,fun a ha=>by rw[Zg.mp ha];exact aa,h,I,rfl⟩
       ·cases e
      | shown h =>
       rcases bb with ⟨_,e⟩ | ⟨e,_⟩
       ·exact .inr ⟨.inl rfl,.inl ⟨by lia,rfl⟩,fun a ha=>by rw[Zg.mp ha];exact aa,h,I,rfl⟩
       ·cases e
      | fst h=>exact .inl ⟨_,_,rfl,rfl⟩
      | snd h =>
       rcases bb with ⟨e,_⟩ | ⟨_,jn,a,e,g1,g2,g3⟩
       ·cases e
       ·have dy:=g1
        cases dy
        refine .inr ⟨.inr (by lia),.inr ⟨_,g3,rfl⟩,fun b hb=>?_,h,I,rfl⟩
        simp[Sg.inner] at hb
        rcases hb with rfl | rfl
        ·exact g2
        ·exact aa
     obtain⟨a5,r5,ee,bs,bo⟩:=SyO.ref am
     subst ee
     have fg:(V.str J.word::r5).length=J.inner.length+1:=by
      rcases bo with ⟨_,p⟩ | ⟨e,_⟩
      ·rw[Zab,p.length]
      ·exact absurd e bk
     have lg:((J,b5)::r).length=r.length+1:=rfl
     rw[dg]
     refine if_cut fun A4 B4 du cq Kq kT kF=>?_
     refine⟨_,rfl,bt,_,_,V.ref a5,rfl,rfl,SqT.of R,at0,a5,_,rfl,.inr (SqT.of bs),rfl,_,rfl,?_⟩
     rcases cw with ⟨jn,l,e5,eb⟩ | ⟨au,b7,bc,d3,cx,fk⟩
     ·subst e5 eb
      have ef:f5 = -1:=by
       rcases bb with ⟨_,e⟩ | ⟨e,_⟩
       ·exact e
       ·cases e
      have d4:Zip r (.bin jn k l) s:=by
       cases hz with
       | fst h=>exact h
      obtain⟨x1,x2,er,fc,ca⟩:∃ x1 x2,r5=[x1,x2]∧SyO H5 x1 k∧SyO H5 x2 l:=by
       rcases bo with ⟨_,p⟩ | ⟨e,_⟩
       ·cases p with
        | cons h1 p =>
         cases p with
         | cons h2 p =>
          cases p
          exact⟨_,_,rfl,h1,h2⟩
       ·cases e
      subst er
      have ec:rem ((Sg.bin jn k l,false)::r)=l.size+rem r:=rfl
      have su:l.high≤300:=by have:(Sg.bin jn k l).high≤300:=a1;simp only[Sg.high] at this;lia
      have fq:=Sg.size_pos l
      refine ifT rfl ⟨_,rfl,bt,_,_,V.int f5,rfl,rfl,SqT.of R,at1,_,_,rfl,rfl,_,rfl,Jo (by lia) (kT _ ?_)⟩
      clear kT kF Kq
      rw[du]
      -- waiting.append(..)
      refine Am fun fw dv ev bq=>?_
      refine⟨_,rfl,.inl ⟨rfl,_,SqL.of X.hw⟩,_,rfl,bt,_,_,V.ref a5,rfl,rfl,SqT.of R,at0,_,rfl,_,rfl,bt,_,_,V.ref c5,rfl,rfl,SqT.of R,at2,_,rfl,bt,_,_,V.int U,rfl,rfl,SqT.of R,at3,_,rfl,bt,_,_,V.int h5,rfl,rfl,SqT.of R,rfl,small (Za rfl),fun tt bi=>?_⟩
      have L:=Aj (o:=.tup [.ref a5,.int (idx g.ss k:Nat),.ref c5,.int U,.int h5]) bi
      have fl : ws'.length=r.length:=by rw[bz.length,Zca]
      rw[lg,ec] at ab ac
      refine⟨j,_,_,rfl,rfl,L _ _ X.hw,Bf (by lia),bq _ _ ?_⟩
      clear bq ev
      have ag:=(X.same L).wait (ws':=ws'++[.ref tt]) (fs':=(.bin jn k l,true)::r) ay (by
       show Paired _ _ ((Sg.bin jn k l,true)::r).reverse
       rw[Zbd]
       exact Zc9 (X.wt.stay (Al L) (Pre.refl _)) ⟨tt,c5,.ref a5,(idx g.ss k:Nat),U,h5,rfl,upd_same,am.stay (Al L),ah.stay (Al L),da,a1,bk,.inr ⟨rfl,jn,k,l,rfl,aa,rfl⟩⟩)
      have aw:TuO H5 (upd (upd H5 tt (.tup [.ref a5,.int (idx g.ss k:Nat),.ref c5,.int U,.int h5])) j (.lst (ws'++[.ref tt]))):=(Al L).trans (TuO.lst (L _ _ X.hw))
      generalize upd (upd H5 tt (.tup [.ref a5,.int (idx g.ss k:Nat),.ref c5,.int U,.int h5])) j (.lst (ws'++[.ref tt]))=H6 at ag aw ⊢
      have bx:=aw _ _ R
      -- part,way
      rw[dv]
      refine Am fun fy ep de bw=>⟨_,rfl,bt,_,_,V.ref a5,rfl,rfl,SqT.of bx,at0,a5,_,_,x2,rfl,rfl,SqT.of (aw _ _ bs),at2,bw _ _ ?_⟩
      clear bw de
      rw[ep]
      refine Am fun fe dr em b3=>⟨_,rfl,x2,l,true,rfl,ca.stay aw,fun c6 H7 bm cb=>b3 _ _ ?_⟩
      clear b3 em
      have a9:=ag.same bm
      have b9:=bm _ _ bx
      have ea:=(ca.stay aw).stay (Al bm)
      -- joins,work
      rw[dr]
      refine Am fun fi dz d8 b8=>⟨_,rfl,bt,_,_,V.int U,rfl,rfl,SqT.of b9,at3,_,_,rfl,rfl,b8 _ _ ?_⟩
      clear b8 d8
      obtain⟨el,g1,g2⟩:=id cb
      have ey:=Ea true l
      rw[dz]
      refine Am fun f0 dc eg ci=>?_
      refine⟨_,rfl,d.p,C,d.dx,_,_,rfl,a9.N.ob,TC.cl,TC.n14,rfl,_,rfl,c6,_,_,V.int (l.stp true:Nat),rfl,rfl,SqT.of g1,at0,_,_,rfl,rfl,_,_,rfl,rfl,d.dx,_,a9.N.ob,Za rfl,ci _ _ ?_⟩
      clear ci eg
      have e3:Bb "work" (.int (g.work+(20+(l.stp true:Nat)))) (Ec d g.dm g.dl g.home g.work)=Ec d g.dm g.dl g.home (g.work+(20+(l.stp true:Nat))):=rfl
      try dsimp only
      rw[e3]
      obtain⟨N8,a2⟩:=a9.N.toil (g.work+(20+(l.stp true:Nat)))
      have ae:=a9.step a2 N8 (Pre.refl _)
      have bd:=a2.tu _ _ b9
      have a7:=ea.stay a2.tu
      have w8:=cb.stay a2.tu
      generalize upd H7 d.p (.ins C d.dx (Ec d g.dm g.dl g.home (g.work+(20+(l.stp true:Nat)))))=H8 at ae bd a7 w8 N8 ⊢
      have cm:((Sg.bin jn k l,true)::r).length=r.length+1:=rfl
      have cg:rem ((Sg.bin jn k l,true)::r)=rem r:=rfl
      have az:∀ (y8 y9:Option V) (O9:Addr→Prop) (z9:NZ) (H9:Hp),Com P w C d O H j H9 z9 ((.bin jn k l,true)::r) O9 (ws'++[.ref tt])→z9.ss=g.ss→z9.cnt=g.cnt→z9.work=g.work+(20+(l.stp true:Nat))→SyO H9 x2 l→WyAt H9 (wy true l) c6 →
        ∃ m',m'<2 * ((Sg.bin jn k l,false)::r).length+1∧((∃ fs,StB P w C d O H j v s Y W S G M (some .non) fs [some (.ref d.p),some v,some (.int Y),some (.int W),some (.ref j),some x2,some (.int (U+1)),some (.ref c6),y8,y9] H9∧m'=2 * fs.length+1)∨(m'=0∧∃ mA,mA<M∧StA P w C d O H j v s Y W S G mA [some (.ref d.p),some v,some (.int Y),some (.int W),some (.ref j),some x2,some (.int (U+1)),some (.ref c6),y8,y9] H9)) :=
       fun y8 y9 O9 z9 H9 dw e9 c9 ch d2 d7=>⟨0,by lia,.inr ⟨rfl,l.size+rem r,by lia,z9,O9,ws'++[.ref tt],l,(.bin jn k l,true)::r,x2,c6,U+1,y8,y9,rfl,dw,d2,d7,.snd d4,by rw[e9];exact I,su,by lia,by rw[cm,cg];lia,by rw[cm,cg];lia,rfl⟩⟩
      rw[dc]
      refine if_cut fun A5 B5 c0 br Kq kT kF=>?_
      refine⟨_,rfl,bt,_,_,V.int U,rfl,rfl,SqT.of bd,at3,_,rfl,_,_,rfl,rfl,_,rfl,Gv (fun dn=>?_) (fun _=>kF _ (by rw[br];exact nE _ _ (az _ _ O4 _ H8 ae rfl rfl rfl a7 w8)))⟩
      have ex : U<Y:=Zaf dn
      obtain⟨xa,d1⟩:∃ xa,atI [V.int 1000000000,V.int 60000000,V.int 20000000,V.int 5000000,V.int 500000,V.int 100000,V.int 20000] U=some (V.int xa):=by
       have:U=0∨U=1∨U=2∨U=3∨U=4∨U=5∨U=6:=by lia
       rcases this with rfl | rfl | rfl | rfl | rfl | rfl | rfl <;> exact⟨_,rfl⟩
      refine⟨_,rfl,d.p,C,d.dx,_,_,rfl,ae.N.ob,TC.cl,TC.n14,rfl,_,rfl,bt,_,_,V.int U,rfl,rfl,SqT.of bd,at3,aA,_,_,V.int xa,rfl,rfl,tA.sq _,d1,_,_,rfl,rfl,_,rfl,kd_two (fun _=>kT _ ?_) (fun _=>kF _ (by rw[br];exact nE _ _ (az _ _ O4 _ H8 ae rfl rfl rfl a7 w8)))⟩
      rw[c0]
      refine⟨_,rfl,d.p,d.dx,_,rfl,ae.N.ob,rfl,d,O4,_,rfl,ae.N,fun O9 z9 H9 bl N9 e9 ch c9=>?_⟩
      exact nE _ _ <| az _ _ O9 z9 H9 (ae.stepO bl N9 (by rw[e9];exact Pre.refl _)) e9 c9 ch (a7.stay bl.tu) (w8.stay bl.tu)
     ·have bj:∀ (y9:Option V) (O2:Addr→Prop) (z2:NZ) (H6:Hp),Stp O4 O2 H5 H6→NumAt P w C H6 d O2 z2→z2.ss=add g.ss J→z2.cnt≤g.cnt+3→z2.work≤g.work+20 →
        ∃ m',m'<2 * ((J,b5)::r).length+1∧((∃ fs,StB P w C d O H j v s Y W S G M (some .non) fs [some (.ref d.p),some v,some (.int Y),some (.int W),some (.ref j),some .non,w6,w7,some (.int (idx z2.ss J:Nat)),y9] H6∧m'=2 * fs.length+1)∨(m'=0∧∃ mA,mA<M∧StA P w C d O H j v s Y W S G mA [some (.ref d.p),some v,some (.int Y),some (.int W),some (.ref j),some .non,w6,w7,some (.int (idx z2.ss J:Nat)),y9] H6)) :=
       fun y9 O2 z2 H6 a6 N6 e6 c6 ff=>⟨2 * r.length+1,by rw[lg];lia,.inl ⟨r,⟨z2,O2,ws',J,w6,w7,y9,rfl,X.stepO a6 N6 (by rw[e6];exact add_pre _ _),by rw[e6];exact Jr _ _,d3,by rw[e6];exact cx,by lia,by rw[lg] at ab;lia,by rw[lg] at ac;lia⟩,rfl⟩⟩
      refine Gv (fun h3=>?_) (fun _=>kF _ ?_)
      ·have ek : V.int (((V.str J.word::r5).length:Nat):Int)=V.int 3:=Zaf h3
       injection ek with h3''
       have ez:0≤f5:=au.resolve_left (by lia)
       refine⟨_,rfl,bt,_,_,V.int f5,rfl,rfl,SqT.of R,at1,_,_,rfl,rfl,_,rfl,J8 (by lia) (kF _ ?_)⟩
       rw[cq]
       exact⟨_,rfl,d.p,d.dx,_,rfl,X.N.ob,rfl,_,rfl,_,rfl,d,O4,g,bt,c5,.ref a5,J,f5,U,h5,_,rfl,X.N,R,am,ah,b7,bc,a1,by lia,fun O2 z2 H6 g1 g2 g3 g4 g5=>nE _ _ (bj _ O2 z2 H6 g1 g2 g3 g4 g5)⟩
      ·rw[cq]
       exact⟨_,rfl,d.p,d.dx,_,rfl,X.N.ob,rfl,_,rfl,_,rfl,d,O4,g,bt,c5,.ref a5,J,f5,U,h5,_,rfl,X.N,R,am,ah,b7,bc,a1,by lia,fun O2 z2 H6 g1 g2 g3 g4 g5=>nE _ _ (bj _ O2 z2 H6 g1 g2 g3 g4 g5)⟩
   ·obtain⟨g,O4,ai,k,fz,u4,c4,fb,fn,e4,rfl,ae,cu,ew⟩:=id hA
    obtain⟨a4,r4,rfl,_⟩:=cu.w0
    have out:∀ {Z:Prop},Z→Z:=id
    cases bp:ai with
    | nil =>
     have ad:=ae.hw
     rw[bp] at ad
     exact⟨_,rfl,false,.inl ⟨_,SqL.of ad,rfl⟩,Cv (kF _ (nB _ _ ⟨mA,by lia,.inl hA⟩))⟩
    | cons y ys =>
     have ad:=ae.hw
     rw[bp] at ad
     exact⟨_,rfl,true,.inl ⟨_,SqL.of ad,rfl⟩,Eg ⟨_,rfl,rfl,_,rfl,Cv (kF _ (nB _ _ ⟨mA,by lia,.inl hA⟩))⟩⟩
 ·obtain⟨z3,O3,al,t3,w6,w7,w9,rfl,D,aa,hz,I,aq,ab,ac⟩:=hB
  refine⟨_,rfl,rfl,_,rfl,kF _ (n6 _ _ ?_)⟩
  have an:=D.wt.length
  have e0:al=[]:=Zai an
  have ad:=D.hw
  rw[e0] at ad
  cases hz
  rw[q6]
  refine⟨_,rfl,false,.inl ⟨_,SqL.of ad,rfl⟩,Cv ⟨_,rfl,?_⟩⟩
  exact q O3 z3 H' D.st D.N (by rw[← be];exact I) (ed _ (by lia))
end
inductive spNum (P:Program) (w:World) (C:Addr) (vs:List V) (H:Hp) (Q:VK) (_:XK):Prop
 | mk (d:NA) (O:Addr→Prop) (z:NZ) (v:V) (s:Sg) (_:vs=[.ref d.p,v]) (_:NumAt P w C H d O z) (_:SyO H v s) (_:s.high≤300) (_:z.cnt+10 * s.size≤70000) (_:∀ (O' : Addr→Prop) (z' : NZ) (H' : Hp),Stp O O' H H'→NumAt P w C H' d O' z'→z'.ss=vis s z.ss→z'.cnt≤z.cnt+10 * s.size→Q (.int (idx z'.ss s:Nat)) H')
inductive spNd (P:Program) (w:World) (C:Addr) (vs:List V) (H:Hp) (Q:VK) (_:XK):Prop
 | mk (v:V) (s:Sg) (_:vs=[v]) (_:SyO H v s) (_:(s.high≤300∧s.size≤1500)) (_:∀ (d:NA) (O:Addr→Prop) (z:NZ) (H' : Hp),Bq H H'→(∀ b,O b→H b=none)→NumAt P w C H' d O z→z.ss=vis s []→z.cnt≤10 * s.size→Q (.ref d.p) H')
theorem Tab.before {ss:List Sg}(h:Tab ss):∀ {i:Nat} {s:Sg},ss[i]?=some s→∀ b∈s.inner,b∈ss∧idx ss b<i:=by
 induction h with
 | nil=>intro i s a;simp at a
 | @snoc ss t h o k n =>
  intro i s a b g
  have c:Pre ss (ss++[t]):=⟨[t],rfl⟩
  by_cases l:i<ss.length
  ·rw[Zat l] at a
   obtain⟨d,j⟩:=n a b g
   exact⟨c.mem d,by rw[c.idx d];exact j⟩
  ·have f:=(Zj.mp a).1
   rw[Zv] at f
   have e:i=ss.length:=by simp at f;lia
   subst e
   rw[Zag (Zd _),Nat.sub_self] at a
   have m:t=s:=Zm a
   subst m
   have d:=k b g
   exact⟨c.mem d,by rw[c.idx d];exact Hk d⟩
theorem Bu {α β:Type}{F:α→β→Prop}:∀ {xs:List α} {ys:List β} {i:Nat} {x:α},Paired F xs ys→xs[i]?=some x→∃ y,ys[i]?=some y∧F x y
 | _,_,_,_,.nil,e=>by simp at e
 | _,_,0,_,.cons h _,e=>⟨_,rfl,by rw[← Zm e];exact h⟩
 | _,_,i+1,_,.cons _ t,e=>Bu (i:=i) t e
section
variable {P:Program} {w:World} {K:PySem.W.Frag} {mg:Str→Option Value} {base:Heap}
theorem ok_num {f C:Addr}{fd:FuncData}(F:Fun K "number" "Numbering.number" sNum f fd)(T:Txt K w.params mg)(TC:TxC K mg C)(GN:Dm P w K mg base CX0 33 C "number_within" ["self","saying","apart_joins","most_work"] (spNw P w C)) :
  FnOk P w K mg base CX0 34 f fd ["self","saying"] (spNum P w C):=by
 obtain⟨e,j,l⟩:=T.ap
 refine Bs F ["self","saying"] fun n m A g r H o Q E k h=>?_
 obtain⟨d,O,z,v,s,rfl,N,i,c,b,q⟩:=h
 refine⟨_,Ah (Ap (Cq (pv 0) TC.cl GN k A6 (Aa (pv 1) (Aa (A3 A0 (by rfl) T.len Zax (Aa (Ch (by rfl) j (v:=.ref e) rfl) Ac)) (Aa (Au Ca (Bh (pv 0) rfl) (Au op_pow Ad Ad)) Ac))))),?_⟩
 dsimp only [Di,Cx.nox,Cx.wish]
 have a:((10:Int) ^ (60:Int).toNat)=1000000000000000000000000000000000000000000000000000000000000:=by decide
 refine⟨_,rfl,d.p,d.dx,_,rfl,N.ob,rfl,_,rfl,e,_,rfl,.inr (l.sq _),_,rfl,d.p,C,d.dx,_,_,rfl,N.ob,TC.cl,TC.n14,rfl,_,_,rfl,rfl,⟨by decide,by decide,by decide⟩,_,_,rfl,rfl,?_⟩
 refine⟨d,O,z,v,s,7,_,rfl,N,i,c,by decide,b,?_,q⟩
 rw[a]
 lia
theorem ok_nd {f fI C:Addr}{fd fdI:FuncData}(F:Fun K "numbered" "numbered" sNd f fd)(TC:TxC K mg C)(M:Mk K C fI)(GI:FnOk P w K mg base CX0 1 fI fdI ["self"] (spInit P w C))(bI:Da K fdI ["self"] [])(GN:Dm P w K mg base CX0 34 C "number" ["self","saying"] (spNum P w C)) :
  FnOk P w K mg base CX0 35 f fd ["saying"] (spNd P w C):=by
 refine Bs F ["saying","numbering"] fun R Y A J s0 H vs Q E B h=>?_
 obtain⟨v,s,rfl,O,t,q⟩:=h
 have I:Room 2 _:=B.mono (by decide)
 refine⟨_,Ab (An (i:=1) R.nd rfl (Or.inl rfl) (pe_make0 M GI I rfl TC.mgC bI .nil A6))
  (Ab (Bj (Cq (pv 1) TC.cl GN B A6 (Aa (pv 0) Ac))) (Ah (Ap (pv 1)))),?_⟩
 intro x n l u Z
 refine⟨x,n,rfl,upd_same,fun d z T S D aa r frs L=>⟨rfl,?_⟩⟩
 subst S
 have g:Bq H (upd (upd H n (.own d.p)) d.p (.ins C n [])):=fun b o e=>by
  rw[Ai (Ae e l),Ai (Ae e u)]
  exact e
 have a:Bq H T:=fun b o e=>L b o (g b o e) (Ae e l)
 have j:∀ b,b∈(cells P w C d z).map (·.1)→H b=none:=fun b m=>by
  obtain⟨c,N,e⟩:=Zar.mp m
  rw[← e]
  rcases frs c N with h | h
  ·rw[h];exact l
  ·exact g.free h
 refine⟨_,rfl,d.p,d.dx,_,rfl,r.ob,rfl,_,rfl,d,_,z,v,s,rfl,r,O.stay (Al a),t.1,by lia,fun U W G k V X c2=>?_⟩
 have y:Bq H G:=fun b o e=>k.but b o (fun z=>by rw[j b z] at e;cases e) (a b o e)
 refine⟨_,rfl,q d U W G y (fun b m=>?_) V (by rw[X,D]) (by lia)⟩
 rcases k.nw b m with h | h
 ·exact j b h
 ·exact a.free h
end
def GP:Int:=1000000000000000000000000000000000000000000000000000000000000
theorem GP_pos:0<GP:=by decide
def spGp:Sp:=fun vs H Q _=>vs=[]∧Q (.int GP) H
def RkAt (ss:List Sg)(rs:List V)(rk:Sg→Int)(s:Sg):Prop:=rs[idx ss s]?=some (.int (rk s))
inductive spRd (vs:List V) (H:Hp) (Q:VK) (_:XK):Prop
 | mk (a lr:Addr) (ss:List Sg) (s:Sg) (rs:List V) (rk:Sg→Int) (_:vs=[.ref a,.ref lr]) (_:H a=some (.tup ((E5 ss s).map kV))) (_:H lr=some (.lst rs)) (_:(∀ b∈s.inner,RkAt ss rs rk b)) (_:∀ (c:Addr) (H' : Hp),Bq H H'→H' c=some (.tup ((keyR rk s).map kV))→Q (.ref c) H')
inductive spSp (vs:List V) (H:Hp) (Q:VK) (_:XK):Prop
 | mk (c lo lf lr:Addr) (fs rs:List V) (ss os:List Sg) (s:Sg) (rk:Sg→Int) (_:vs=[.ref c,.ref lo,.ref lf,.ref lr]) (_:H c=some (.tup ((keyR rk s).map kV))) (_:H lo=some (.lst (iL (os.map (idx ss))))) (_:H lf=some (.lst fs)) (_:H lr=some (.lst rs)) (_:Paired (FoR ss H) fs ss) (_:Srt os) (_:Mono rk os) (_:os.length≤90000) (_:(∀ t∈os,t∈ss∧RkAt ss rs rk t∧∀ b∈t.inner,b∈os)) (_:(∀ b∈s.inner,b∈os)) (_:∀ (k:Nat) (H' : Hp),Bq H H'→k≤os.length→Bel os s k→Abv os s k→Q (.int (k:Nat)) H')
inductive spRa (vs:List V) (H:Hp) (Q:VK) (_:XK):Prop
 | mk (k:Nat) (lo lr:Addr) (rs:List V) (ss os:List Sg) (rk:Sg→Int) (_:vs=[.int (k:Nat),.ref lo,.ref lr]) (_:H lo=some (.lst (iL (os.map (idx ss))))) (_:H lr=some (.lst rs)) (_:Srt os) (_:Mono rk os) (_:k≤os.length) (_:(∀ t∈os,RkAt ss rs rk t)) (_:∀ r:Int,(∀ t,0<k→os[k - 1]?=some t→rk t≤r)→(∀ t,os[k]?=some t→r<rk t)→Q (.int r) H)
theorem iL_at {f:Sg→Nat}{os:List Sg}{i:Nat}(h:os[i]?=some t):(iL (os.map f))[i]?=some (V.int (f t:Nat)):=by
 show (List.map _ (List.map f os))[i]?=_
 rw[Zp,Zp,h]
 rfl
theorem Hl {f:Sg→Nat}{os:List Sg}:(iL (os.map f)).length=os.length:=by
 show (List.map _ (List.map f os)).length=_
 rw[Zl,Zl]
section
variable {P:Program} {w:World} {K:PySem.W.Frag} {mg:Str→Option Value} {base:Heap}
theorem ok_gp (F:Fun K "gap" "gap" sGp f fd):FnOk P w K mg base CX0 1 f fd [] spGp:=by
 refine Bs F [] fun e b A a g H c Q E d h=>?_
 obtain⟨rfl,q⟩:=h
 exact⟨_,Ah (Ap (Au op_pow Ad Ad)),_,_,rfl,rfl,⟨by decide,by decide,by decide⟩,q⟩
theorem ok_rd (F:Fun K "ranked" "ranked" sRd f fd)(T:Txt K w.params mg)(GI:Df P w K mg base CX0 1 "inner_of" ["saying"] (spIn K)) :
  FnOk P w K mg base CX0 2 f fd ["form","ranks"] spRd:=by
 refine Bs F ["form","ranks","inner"] fun sc ag A ae s0 H vs Q E hr h=>?_
 obtain⟨a,lr,g,s,rs,W,rfl,Z,ac,aa,q⟩:=h
 refine⟨_,Ab (An (i:=2) sc.nd rfl (Or.inl rfl) (Ak GI hr A6 (Aa (pv 0) Ac)))
  (Ab (Bo (Er (Bw (pv 2) (fun _=>rfl))) (Ah (Ap (pv 0))) Av)
  (Ah (Ap (Au op_catT (Bg (Aa (Ar Az (pv 0) Ad (fun _ _=>rfl)) Ac)) (Dr I9 (by rfl) T.tup PyProof.Rows.boot_tuple (Aa (Ej rfl [("ranks", 1)] (C3 (pv 2)) (fun _ _ _ _=>Ep)
   (fun C s₀ H₀ ex=>Ar (show IxR _ (rIxL K) from Ax) (pv 1) (pv 0) (fun _ _=>rfl))) Ac)))))),?_⟩
 dsimp only [Di,Cx.nox,Cx.wish]
 obtain⟨r,N,ab,ad⟩:=Jk Z
 refine⟨_,rfl,a,s.word,r,rfl,SqT.of N,ab,fun li I t af l=>?_⟩
 rw[ad] at l
 have X:=t _ _ Z
 have U:(iL (Cz g s)).length=s.inner.length:=by
  show (List.map _ (Cz g s)).length=_
  rw[Zl];unfold Cz;rw[Zl]
 have ah:=Fd s
 by_cases v:s.inner=[]
 ·have S:iL (Cz g s)=[]:=by unfold Cz;rw[v];rfl
  refine⟨_,rfl,false,.inl ⟨_,SqL.of l,by rw[S];rfl⟩,Eg ⟨_,rfl,?_⟩⟩
  have ek:keyR W s=E5 g s:=by
   cases s with
   | no=>rfl
   | lt x=>rfl
   | _=>cases v
  exact q a I t (by rw[ek];exact X)
 ·have S:true = !(iL (Cz g s)).isEmpty:=by
   cases h0:iL (Cz g s) with
   | nil=>rw[h0] at U;exact absurd (Zai U.symm) v
   | cons x y=>rfl
  refine⟨_,rfl,true,.inl ⟨_,SqL.of l,S⟩,Cv ?_⟩
  refine⟨_,rfl,a,_,_,_,rfl,rfl,SqT.of (t _ _ N),at0,small (Za rfl),fun u R=>?_⟩
  have B:=t.trans (Aj (o:=.tup [.str s.word]) R)
  have p:upd I u (.tup [.str s.word]) u=some (.tup [.str s.word]):=upd_same
  have m:upd I u (.tup [.str s.word]) li=some (.lst (iL (Cz g s))):=by rw[Ai (Ae l R)];exact l
  generalize upd I u (.tup [.str s.word])=H4 at B p m ⊢
  refine⟨_,rfl,li,rfl,⟨_,SqL.of m⟩,fun D L=>?_⟩
  have O:=B _ _ ac
  refine B6 (xs:=iL (Cz g s)) (fun j J=>J=upd H4 D (.lst ((s.inner.take j).map fun b=>V.int (W b)))) rfl (fun j J _ e=>by rw[e];exact SqL.of (by rw[Ai (Ae m L)];exact m)) ?_ ?_
  ·rintro j x J hx rfl
   obtain⟨b,G,rfl⟩:∃ b,s.inner[j]?=some b∧x=V.int (idx g b:Nat):=by
    have k : (List.map (fun (n:Nat)=>V.int (n:Int)) (s.inner.map (idx g)))[j]?=some x:=hx
    rw[Zp,Zp] at k
    cases G:s.inner[j]? with
    | none=>rw[G] at k;cases k
    | some b=>rw[G] at k;exact⟨b,rfl,(Zm k).symm⟩
   refine cpY ?_
   refine⟨_,rfl,_,rfl,lr,rs,_,_,rfl,rfl,SqL.of (by rw[Ai (Ae O L)];exact O),Be (aa b (Ze G)),_,upd_same,Bf (by rw[Zl,Z6];lia),?_⟩
   rw[C4,Zao,G,Zac]
   rfl
  ·rintro J rfl
   rw[U,Zaz]
   refine⟨D,_,rfl,.inl ⟨SqL.of upd_same,fun t2 M=>?_⟩⟩
   have Y:=B.trans (Aj (o:=.lst (s.inner.map fun b=>V.int (W b))) L)
   have nt:u≠D:=Ae p L
   refine⟨u,t2,[.str s.word],_,rfl,rfl,SqT.of (by rw[Ai (Ae (by rw[Ai nt];exact p) M),Ai nt];exact p),SqT.of upd_same,(fun z=>nomatch z),small (by rw[Zl];show 1+_≤_;lia),fun z=>?_,fun _ c hc=>?_⟩
   ·exact absurd (List.map_eq_nil_iff.mp z) v
   ·refine q c _ ((Y.trans (Aj M)).trans (Aj hc)) ?_
    rw[upd_same]
    cases s with
    | no=>exact absurd rfl v
    | lt x=>exact absurd rfl v
    | not b=>rfl
    | shown b=>rfl
    | bin j b d=>rfl
theorem ok_sp (F:Fun K "spot_of" "spot_of" sSp f fd)(T:Txt K w.params mg)(GI:Df P w K mg base CX0 2 "ranked" ["form","ranks"] spRd) :
  FnOk P w K mg base CX0 3 f fd ["key","order","forms","ranks"] spSp:=by
 refine Bs F ["key","order","forms","ranks","low","high","middle"] fun v aj A ag s0 H vs Q E Z h=>?_
 obtain⟨c,z,L,J,fs,rs,ss,k,s,rk,rfl,hc,I,ad,ac,pf,Y,mo,ai,G,ae,q⟩:=h
 have hu:=hu_of Z
 refine⟨_,Ab (An (i:=4) v.nd rfl (Or.inl rfl) Ad)
  (Ab (An (i:=5) v.nd rfl (Or.inl rfl) (A3 A0 (by rfl) T.len Zax (Aa (pv 1) Ac)))
  (Ab (Dc Za0 (Ao Jt (pv 4) (pv 5) (Aq _))
   (Ab (An (i:=6) v.nd rfl (Or.inl rfl) (Au Fo (Au Ca (pv 4) (pv 5)) Ad))
   (Ah (Bo (Ao (op_ltK (Nat.lt_of_succ_lt hu)) (Ak GI Z A6 (Aa (Ar Ax (pv 2) (Ar Ax (pv 1) (pv 6) (fun _ _=>rfl)) (fun _ _=>rfl)) (Aa (pv 3) Ac))) (pv 0) (Aq _))
    (Ah (An (i:=4) v.nd rfl (Or.inl rfl) (Au Ca (pv 6) Ad)))
    (Ah (An (i:=5) v.nd rfl (Or.inl rfl) (pv 6)))))))
  (Ah (Ap (pv 4))))),?_⟩
 dsimp only [Di,Cx.nox,Cx.wish]
 refine Am fun U0 W D0 n0=>n0 _ _ ?_
 clear n0 D0
 rw[W]
 refine Am fun U1 p1 D1 n1=>⟨_,rfl,z,_,rfl,.inl (SqL.of I),n1 _ _ ?_⟩
 clear n1 D1
 rw[Hl,p1]
 refine Am fun U2 p2 D2 N=>?_
 have fin:∀ (g:Nat) (R M:Option V) (l:Hp),Bq H l→g≤k.length→Bel k s g→Abv k s g→D2.nx [some (.ref c),some (.ref z),some (.ref L),some (.ref J),some (.int (g:Nat)),R,M] l:=fun g R M l n p r y=>by
  refine N _ _ ?_
  rw[p2]
  exact⟨_,rfl,q g l n p r y⟩
 clear N p2 q W p1
 refine Hj (fun m σ l=>∃ (g j:Nat) (v6:Option V),σ=[some (.ref c),some (.ref z),some (.ref L),some (.ref J),some (.int (g:Nat)),some (.int (j:Nat)),v6]∧Bq H l∧g≤j∧j≤k.length∧Bel k s g∧Abv k s j∧m=j - g)
  ⟨_,0,k.length,none,rfl,Bq.refl H,Zt _,Zd _,fun i t h=>absurd h (Nat.not_lt_zero i),fun i t h e=>absurd (Zj.mp e).1 (Nat.not_lt.mpr h),rfl⟩ ?_
 intro B qB m σ l hI Kw S kF
 obtain⟨g,j,v6,rfl,n,ak,p,r,y,rfl⟩:=hI
 refine⟨_,rfl,_,rfl,_,_,rfl,rfl,_,rfl,kd_two (fun U=>S _ ?_) (fun U=>kF _ ?_)⟩
 ·clear S kF fin
  obtain⟨md,af⟩:∃ md:Nat,md=(g+j) / 2:=⟨_,rfl⟩
  have C:((g:Int)+(j:Int)) / 2=(md:Nat):=by omega
  have h1:g≤md:=by lia
  have h2:md<j:=by lia
  clear af
  have o:k[md]?=some k[md]:=Zi (by lia)
  generalize k[md]=t at o
  obtain⟨aa,ah,D⟩:=G t (Ze o)
  obtain⟨x,hx,a,rfl,O⟩:=Bx pf (Cd aa)
  refine Hq fun E1 en=>?_
  rw[qB]
  refine Am fun U3 p3 D3 X=>⟨_,rfl,_,rfl,_,_,rfl,rfl,_,_,rfl,rfl,⟨by decide,by decide⟩,?_⟩
  try dsimp only
  rw[C]
  refine X _ _ ?_
  clear X D3 C
  rw[p3]
  refine if_cut fun A1 B1 qa qb K1 lT lF=>?_
  refine⟨_,rfl,_,rfl,_,rfl,z,_,_,_,rfl,rfl,SqL.of (n _ _ I),Be (iL_at o),L,_,_,_,rfl,rfl,SqL.of (n _ _ ad),Be hx,_,rfl,a,J,ss,t,rs,rk,rfl,n _ _ O,n _ _ ac,fun b r=>(G b (D b r)).2.1,fun d H3 ab ed=>?_⟩
  have u:=n.trans ab
  refine⟨_,rfl,d,c,_,_,rfl,rfl,SqT.of ed,SqT.of (u _ _ hc),cmp_key,_,rfl,?_⟩
  rw[lex_key mo D ae]
  cases e:t.ord s with
  | true =>
   refine lT _ ?_
   rw[qa]
   exact⟨_,rfl,_,_,rfl,rfl,en _ _ ⟨_,by lia,md+1,j,_,rfl,u,by lia,p,bel_step Y o e,y,rfl⟩⟩
  | false =>
   refine lF _ ?_
   rw[qb]
   exact⟨_,rfl,en _ _ ⟨_,by lia,g,md,_,rfl,u,h1,by lia,r,abv_step Y o e,rfl⟩⟩
 ·have e:g=j:=by lia
  subst e
  exact fin g _ _ l n p r y
theorem ok_ra (F:Fun K "rank_at" "rank_at" sRa f fd)(T:Txt K w.params mg)(GG:Df P w K mg base CX0 1 "gap" [] spGp) :
  FnOk P w K mg base CX0 2 f fd ["spot","order","ranks"] spRa:=by
 refine Bs F ["spot","order","ranks"] fun sc aa A I s0 H vs Q E G h=>?_
 obtain⟨k,l,o,N,g,a,X,rfl,b,d,W,Z,hk,C,q⟩:=h
 refine⟨_,Ab (Bo (Er (Bw (pv 1) (fun _=>rfl))) (Ah (Ap Ad)) Av)
  (Ab (Bo (Ao Cw (pv 0) Ad (Aq _)) (Ah (Ap (Au Fw (Ar Ax (pv 2) (Ar Ax (pv 1) Ad (fun _ _=>rfl)) (fun _ _=>rfl)) (Hr GG G A6)))) Av)
  (Ab (Bo (Ao Cw (pv 0) (A3 A0 (by rfl) T.len Zax (Aa (pv 1) Ac)) (Aq _)) (Ah (Ap (Au Ca (Ar Ax (pv 2) (Ar Ax (pv 1) (Dl Cm Ad) (fun _ _=>rfl)) (fun _ _=>rfl)) (Hr GG G A6)))) Av)
  (Ah (Ap (Au Fo (Au Ca (Ar Ax (pv 2) (Ar Ax (pv 1) (Au Fw (pv 0) Ad) (fun _ _=>rfl)) (fun _ _=>rfl)) (Ar Ax (pv 2) (Ar Ax (pv 1) (pv 0) (fun _ _=>rfl)) (fun _ _=>rfl))) Ad))))),?_⟩
 dsimp only [Di,Cx.nox,Cx.wish]
 have rat:∀ {i:Nat} {t:Sg},a[i]?=some t→RkAt g N X t:=fun e=>C _ (Ze e)
 have c:∀ i,i<a.length→∃ t,a[i]?=some t:=fun i hi=>⟨_,Zi hi⟩
 refine Co fun R B=>?_
 by_cases r:a=[]
 ·subst r
  exact⟨_,rfl,false,.inl ⟨_,SqL.of b,rfl⟩,Eg (q 0 (fun t _ e=>by cases e) (fun t e=>by cases e))⟩
 have Y:0<a.length:=List.length_pos_iff.mpr r
 have v:true = !(iL (a.map (idx g))).isEmpty:=by
  cases a with
  | nil=>exact absurd rfl r
  | cons x y=>rfl
 refine⟨_,rfl,true,.inl ⟨_,SqL.of b,v⟩,Cv (show R _ _ _ from ?_)⟩
 clear v
 rw[B]
 clear B
 refine Co fun J D=>?_
 refine⟨_,rfl,rfl,_,rfl,?_⟩
 by_cases s:k=0
 ·obtain⟨t,ht⟩:=c 0 Y
  subst s
  refine ifT rfl ⟨_,rfl,_,rfl,l,_,_,_,rfl,rfl,SqL.of b,Be (j:=0) (iL_at ht),o,_,_,_,rfl,rfl,SqL.of d,Be (rat ht),rfl,_,_,rfl,rfl,?_⟩
  refine q _ (fun t h=>absurd h (Za3 0)) (fun u e=>?_)
  rw[ht] at e
  cases e
  have O:=GP_pos
  lia
 refine ifF (fun z=>s (by have:=V.int.inj z;lia)) (show J _ _ _ from ?_)
 rw[D]
 clear D
 refine Co fun U3 U=>?_
 refine⟨_,rfl,_,rfl,l,_,rfl,.inl (SqL.of b),rfl,_,rfl,?_⟩
 rw[Hl]
 by_cases n:k=a.length
 ·obtain⟨t,ht⟩:=c (a.length - 1) (by lia)
  have p:iL (a.map (idx g))=iL (a.dropLast.map (idx g))++[V.int (idx g t:Nat)]:=by
   have S:a=a.dropLast++[t]:=by
    have L:a.getLast r=t:=by rw[List.getLast_eq_getElem];exact (Zj.mp ht).2
    rw[← L,List.dropLast_concat_getLast]
   show List.map _ (List.map _ a)=_
   rw[S,Zac,Zac,List.dropLast_concat]
   rfl
  refine ifT (by rw[n]) ⟨_,rfl,_,rfl,_,rfl,l,_,_,V.int (idx g t:Nat),rfl,rfl,SqL.of b,by rw[p];exact Gp _ _,o,_,_,_,rfl,rfl,SqL.of d,Be (rat ht),rfl,_,_,rfl,rfl,?_⟩
  refine q _ (fun u _ e=>?_) (fun u e=>?_)
  ·rw[n,ht] at e
   cases e
   have O:=GP_pos
   lia
  ·have:=(Zj.mp e).1
   lia
 obtain⟨t,ht⟩:=c (k - 1) (by lia)
 obtain⟨u,m⟩:=c k (by lia)
 refine ifF (fun z=>n (by have:=V.int.inj z;lia)) (show U3 _ _ _ from ?_)
 rw[U]
 have M:((k:Nat):Int) - 1=((k - 1:Nat):Int):=by lia
 refine⟨_,rfl,_,rfl,_,rfl,_,_,rfl,rfl,l,_,_,_,rfl,rfl,SqL.of b,by rw[M];exact Be (iL_at ht),o,_,_,_,rfl,rfl,SqL.of d,Be (rat ht),?_⟩
 refine⟨_,rfl,_,rfl,_,rfl,l,_,_,_,rfl,rfl,SqL.of b,Be (iL_at m),o,_,_,_,rfl,rfl,SqL.of d,Be (rat m),_,_,rfl,rfl,_,_,rfl,rfl,⟨by decide,by decide⟩,?_⟩
 have ab:=Z t (Ze ht) u (Ze m) (Fy W ht m (by lia))
 refine q _ (fun x _ e=>?_) (fun x e=>?_)
 ·rw[ht] at e
  cases e
  lia
 ·rw[m] at e
  cases e
  lia
end
theorem Tab.front {ss:List Sg}(h:Tab ss):∀ i,Tab (ss.take i):=by
 induction h with
 | nil=>intro i;rw[List.take_nil];exact .nil
 | @snoc ss s h a c d =>
  intro i
  by_cases b:i≤ss.length
  ·rw[List.take_append_of_le_length b];exact d i
  ·rw[Zcc (by rw[Zv];show ss.length+1≤i;lia)];exact .snoc h a c
theorem Tab.at {ss:List Sg}(h:Tab ss):∀ {i:Nat} {s:Sg},ss[i]?=some s→idx ss s=i:=by
 induction h with
 | nil=>intro i s a;cases a
 | @snoc ss t h c g f =>
  intro i s a
  by_cases d:i<ss.length
  ·rw[Zat d] at a
   rw[Pre.idx ⟨[t],rfl⟩ (Ze a)]
   exact f a
  ·have b:=(Zj.mp a).1
   rw[Zv] at b
   have b:i<ss.length+1:=b
   have e:i=ss.length:=by lia
   subst e
   rw[Zag (Zd _),Nat.sub_self] at a
   cases a
   exact Gq c
theorem srt_idx {os:List Sg}(h:Srt os){i:Nat}(e:os[i]?=some t):idx os t=i:=by
 have a:=Cd (Ze e)
 rcases Nat.lt_trichotomy (idx os t) i with q | q | q
 ·have:=Fy h a e q;rw[A9] at this;cases this
 ·exact q
 ·have:=Fy h e a q;rw[A9] at this;cases this
structure Om (os tt:List Sg):Prop where
 len:os.length=tt.length
 mem:∀ t,t∈os↔t∈tt
 srt:Srt os
 tab:Tab tt
def plA (os tt:List Sg)(i:Nat):List V:=tt.map fun t=>if idx os t<i then V.int (idx os t:Nat) else V.int 0
theorem pl_step {os tt:List Sg}(O:Om os tt){i:Nat}(e:os[i]?=some t):(plA os tt i).set (idx tt t) (V.int (i:Nat))=plA os tt (i+1):=by
 have b:=(O.mem t).mp (Ze e)
 refine Zcr fun j=>?_
 unfold plA
 rw[List.getElem?_set,Zl,Zp,Zp]
 by_cases a:idx tt t=j
 ·rw[Zw a,Zw (Hk b),← a,Cd b]
  show _=some (if idx os t<i+1 then _ else _)
  rw[srt_idx O.srt e,Zw (Zbk i)]
 ·rw[Zs a]
  cases f:tt[j]? with
  | none=>rfl
  | some u =>
   show some (if _ then _ else _)=some (if _ then _ else _)
   have ne:idx os u≠i:=fun q=>by
    have d:=Cd ((O.mem u).mpr (Ze f))
    rw[q,e] at d
    cases d
    exact a (O.tab.at f)
   by_cases c:idx os u<i
   ·rw[Zw c,Zw (by lia)]
   ·rw[Zs c,Zs (by lia)]
theorem rep_flat (n:Nat)(x:V):(List.replicate n [x]).flatten=List.replicate n x:=by
 induction n with
 | zero=>rfl
 | succ n a=>rw[Zb7,Zde,a];rfl
theorem ixN_nat {n j:Nat}(h:j<n):ixN n (j:Int)=some j:=by
 have:=Be (xs:=List.range n) (j:=j) (v:=j) (List.getElem?_range h)
 unfold atI at this
 rw[List.length_range] at this
 cases e:ixN n (j:Int) with
 | none=>rw[e] at this;cases this
 | some k =>
  rw[e] at this
  have b:(List.range n)[k]?=some j:=this
  obtain⟨c,a⟩:=Zj.mp b
  rw[List.getElem_range] at a
  rw[a]
inductive spPl (vs:List V) (H:Hp) (Q:VK) (_:XK):Prop
 | mk (lo:Addr) (os tt:List Sg) (_:vs=[.ref lo]) (_:H lo=some (.lst (iL (os.map (idx tt))))) (_:Om os tt) (_:os.length≤90000) (_:∀ (l:Addr) (H' : Hp),Bq H H'→H l=none→H' l=some (.lst (tt.map fun t=>V.int (idx os t:Nat)))→Q (.ref l) H')
inductive spSd (vs:List V) (H:Hp) (Q:VK) (_:XK):Prop
 | mk (lo:Addr) (os tt:List Sg) (_:vs=[.ref lo]) (_:H lo=some (.lst (iL (os.map (idx tt))))) (_:Om os tt) (_:os.length≤90000) (_:∀ (l:Addr) (H' : Hp),Bq H H'→H l=none→H' l=some (.lst (tt.map fun t=>V.int ((idx os t:Nat) * GP)))→Q (.ref l) H')
inductive spSn (vs:List V) (H:Hp) (Q:VK) (_:XK):Prop
 | mk (lf:Addr) (fs:List V) (ss:List Sg) (_:vs=[.ref lf]) (_:H lf=some (.lst fs)) (_:Paired (FoR ss H) fs ss) (_:Tab ss) (_:ss.length≤90000) (_:∀ (l:Addr) (os:List Sg) (H' : Hp),Bq H H'→H l=none→H' l=some (.lst (iL (os.map (idx ss))))→Om os ss→Q (.ref l) H')
section
variable {P:Program} {w:World} {K:PySem.W.Frag} {mg:Str→Option Value} {base:Heap}
theorem ok_pl (F:Fun K "places_of" "places_of" sPl f fd)(T:Txt K w.params mg):FnOk P w K mg base CX0 1 f fd ["order"] spPl:=by
 refine Bs F ["order","places","place","number"] fun D Y A S s0 H vs Q E hr h=>?_
 obtain⟨C,c,a,rfl,m,O,Z,q⟩:=h
 refine⟨_,Ab (An (i:=1) D.nd rfl (Or.inl rfl) (Au op_rep (Bp (Aa Ad Ac)) (A3 A0 (by rfl) T.len Zax (Aa (pv 0) Ac))))
  (Ab (Fu Za0 rfl (pi_enumL (by rfl) T.enum (Aa (pv 0) Ac)) (Hy rfl (Br (Bn (i:=2) D.nd rfl (Or.inl rfl)) (Br (Bn (i:=3) D.nd rfl (Or.inl rfl)) Fm)))
   (Ah (ps_asg (pv 2) (pg_sub (pv 1) (pv 3) set_list))))
  (Ah (Ap (pv 1)))),?_⟩
 try dsimp only [Di,Cx.nox,Cx.wish]
 refine⟨small (Za rfl),fun z L=>?_⟩
 have k:=Aj (o:=.lst [V.int 0]) L
 have I:upd H z (.lst [V.int 0]) z=some (.lst [V.int 0]):=upd_same
 have r:=k _ _ m
 generalize upd H z (.lst [V.int 0])=M at k I r ⊢
 refine⟨_,rfl,C,_,rfl,.inl (SqL.of r),?_⟩
 rw[Hl]
 refine⟨z,_,_,rfl,rfl,I,by lia,by lia,small (by show 1 * _≤_;lia),fun d B=>?_⟩
 rw[rep_flat,Int.toNat_natCast]
 have U:List.replicate c.length (V.int 0)=plA c a 0:=by
  unfold plA
  rw[O.len,← List.map_const']
  exact Zcz fun t _=>by rw[Zs (Nat.not_lt_zero _)]
 rw[U]
 have p:=k.trans (Aj (o:=.lst (plA c a 0)) B)
 have l:=k.free B
 have R:upd M d (.lst (plA c a 0)) d=some (.lst (plA c a 0)):=upd_same
 generalize upd M d (.lst (plA c a 0))=H2 at p R ⊢
 refine⟨_,rfl,C,_,rfl,SqL.of (p _ _ m),for_enumL (xs:=iL (c.map (idx a))) (fun i σ j=>∃ s v,σ=[some (.ref C),some (.ref d),s,v]∧Bq H j∧j d=some (.lst (plA c a i))) ?_ ?_ ?_ ?_⟩
 ·exact⟨none,none,rfl,p,R⟩
 ·rintro i σ j _ ⟨s,v,rfl,g,_⟩
  exact SqL.of (g _ _ m)
 ·rintro i x t σ j X ht ⟨s,v,rfl,g,y⟩
  obtain⟨u,G,rfl⟩:∃ u,c[i]?=some u∧x=V.int (idx a u:Nat):=by
   have e : (List.map (fun (n:Nat)=>V.int (n:Int)) (c.map (idx a)))[i]?=some x:=X
   rw[Zp,Zp] at e
   cases N:c[i]? with
   | none=>rw[N] at e;cases e
   | some b=>rw[N] at e;exact⟨b,rfl,(Zm e).symm⟩
  have W:upd j t (.tup [V.int i,V.int (idx a u:Nat)]) d=some (.lst (plA c a i)):=by rw[Ai (Ae y ht)];exact y
  refine⟨t,_,rfl,SqT.of upd_same,rfl,_,_,rfl,_,_,rfl,rfl,?_⟩
  have J:ixN (plA c a i).length ((idx a u:Nat):Int)=some (idx a u):=ixN_nat (by unfold plA;rw[Zl];exact Hk ((O.mem u).mp (Ze G)))
  refine⟨_,rfl,_,rfl,_,rfl,d,_,_,idx a u,rfl,rfl,W,J,?_⟩
  rw[pl_step O G]
  exact⟨_,_,rfl,Ci (g.trans (Aj ht)) l,upd_same⟩
 ·rintro σ j ⟨s,v,rfl,g,y⟩
  refine⟨_,rfl,q d j g l ?_⟩
  rw[y,Hl]
  unfold plA
  refine congrArg some (congrArg HO.lst (Zcz fun t ht=>?_))
  rw[Zw (Hk ((O.mem t).mpr ht))]
theorem ok_sd (F:Fun K "spread" "spread" sSd f fd)(GL:Df P w K mg base CX0 1 "places_of" ["order"] spPl)(GG:Df P w K mg base CX0 1 "gap" [] spGp) :
  FnOk P w K mg base CX0 2 f fd ["order"] spSd:=by
 refine Bs F ["order"] fun B y A p L H J Q E n h=>?_
 obtain⟨r,c,a,rfl,m,O,o,q⟩:=h
 refine⟨_,Ah (Ap (Ej rfl [] (C3 (Ak GL n A6 (Aa (pv 0) Ac))) (fun _ _ _ _=>Ep) (fun C z M G=>Au G0 (pv 0) (Hr GG n A6)))),?_⟩
 try dsimp only [Di,Cx.nox,Cx.wish]
 refine⟨_,rfl,r,c,a,rfl,m,O,o,fun l v g N i=>⟨l,rfl,⟨_,SqL.of i⟩,fun D k=>?_⟩⟩
 have s:(a.map fun t=>V.int (idx c t:Nat)).length=a.length:=by rw[Zl]
 have u:=O.len
 refine B6 (xs:=a.map fun t=>V.int (idx c t:Nat)) (fun j d=>d=upd v D (.lst ((a.take j).map fun t=>V.int ((idx c t:Nat) * GP)))) rfl (fun j d _ e=>by rw[e];exact SqL.of (by rw[Ai (Ae i k)];exact i)) ?_ ?_
 ·rintro j x d b rfl
  rw[Zp] at b
  cases ht:a[j]? with
  | none=>rw[ht] at b;cases b
  | some t =>
   rw[ht] at b
   cases b
   have I:=Hk ((O.mem t).mpr (Ze ht))
   refine cpY ⟨_,rfl,rfl,_,_,rfl,rfl,.inl ⟨by lia,by lia⟩,_,upd_same,Bf (by rw[Zl,Z6];lia),?_⟩
   rw[C4,Zao,ht,Zac]
   rfl
 ·rintro d rfl
  rw[s,Zaz]
  exact q D _ (g.trans (Aj k)) (g.free k) upd_same
structure SnI (H H2:Hp) (ss:List Sg) (lo lr:Addr) (i:Nat) (os:List Sg) (rk:Sg→Int):Prop where
 sm:Bq H H2
 no:H lo=none
 nr:H lr=none
 ne:lo≠lr
 eo:H2 lo=some (.lst (iL (os.map (idx ss))))
 er:H2 lr=some (.lst ((ss.take i).map fun t=>V.int (rk t)))
 om:Om os (ss.take i)
 mo:Mono rk os
theorem SnI.same {H H2 H3:Hp}{ss os:List Sg}{lo lr:Addr}{i:Nat}{rk:Sg→Int}(h:SnI H H2 ss lo lr i os rk)(s:Bq H2 H3):SnI H H3 ss lo lr i os rk:=⟨h.sm.trans s,h.no,h.nr,h.ne,s _ _ h.eo,s _ _ h.er,h.om,h.mo⟩
theorem SnI.rat {H H2:Hp}{ss os:List Sg}{lo lr:Addr}{i:Nat}{rk:Sg→Int}(h:SnI H H2 ss lo lr i os rk){t:Sg}(ht:t∈os):t∈ss∧RkAt ss ((ss.take i).map fun t=>V.int (rk t)) rk t:=by
 have a:=(h.om.mem t).mp ht
 have b:Pre (ss.take i) ss:=⟨ss.drop i,(Zav i ss).symm⟩
 refine⟨b.mem a,?_⟩
 unfold RkAt
 rw[b.idx a,Zp,Cd a]
 rfl
theorem iL_ins {f:Sg→Nat}{os:List Sg}{k:Nat}:(iL (os.map f)).take k++V.int (f s:Nat)::(iL (os.map f)).drop k=iL ((insA os k s).map f):=by
 unfold insA
 show (List.map _ (List.map f os)).take k++_::(List.map _ (List.map f os)).drop k=List.map _ (List.map f _)
 rw[Zac,Zac,Za8,Za8,← List.map_take,← List.map_take,← List.map_drop,← List.map_drop]
theorem om_ins {ss os:List Sg}{i k:Nat}(O:Om os (ss.take i))(T:Tab ss)(hs:ss[i]?=some s)(hn:s∉os)(hb:Bel os s k)(ha:Abv os s k):Om (insA os k s) (ss.take (i+1)):=by
 have e:ss.take (i+1)=ss.take i++[s]:=by rw[Zao,hs];rfl
 refine⟨?_,fun t=>?_,srt_ins O.srt hn hb ha,T.front _⟩
 ·rw[ins_len,e,Zv,O.len];rfl
 ·rw[Gw,e,Zaa,O.mem t,Zg]
theorem iL_pre {ss os:List Sg}{i:Nat}(h:∀ t∈os,t∈ss.take i):iL (os.map (idx ss))=iL (os.map (idx (ss.take i))):=by
 have e:os.map (idx ss)=os.map (idx (ss.take i)):=Zcz fun t ht=>Pre.idx ⟨ss.drop i,(Zav i ss).symm⟩ (h t ht)
 show List.map _ _=List.map _ _
 rw[e]
theorem ok_sn (F:Fun K "sorted_numbers" "sorted_numbers" sSn f fd)(T:Txt K w.params mg)(GD:Df P w K mg base CX0 2 "ranked" ["form","ranks"] spRd)(GQ:Df P w K mg base CX0 3 "spot_of" ["key","order","forms","ranks"] spSp)(GA:Df P w K mg base CX0 2 "rank_at" ["spot","order","ranks"] spRa)(GS:Df P w K mg base CX0 2 "spread" ["order"] spSd) :
  FnOk P w K mg base CX0 4 f fd ["forms"] spSn:=by
 refine Bs F ["forms","order","ranks","number","form","spot","rank","crowded"] fun N aw A au s0 H vs Q E hr h=>?_
 obtain⟨lf,fs,d,rfl,ac,pf,L,av,q⟩:=h
 refine⟨_,Ab (An (i:=1) N.nd rfl (Or.inl rfl) (Bp Ac)) (Ab (An (i:=2) N.nd rfl (Or.inl rfl) (Bp Ac))
  (Ab (Fu Za0 rfl (pi_enumL (by rfl) T.enum (Aa (pv 0) Ac)) (Hy rfl (Br (Bn (i:=3) N.nd rfl (Or.inl rfl)) (Br (Bn (i:=4) N.nd rfl (Or.inl rfl)) Fm)))
   (Ab (An (i:=5) N.nd rfl (Or.inl rfl) (Ak GQ hr A6 (Aa (Ak GD hr A6 (Aa (pv 4) (Aa (pv 2) Ac))) (Aa (pv 1) (Aa (pv 0) (Aa (pv 2) Ac))))))
   (Ab (An (i:=6) N.nd rfl (Or.inl rfl) (Ak GA hr A6 (Aa (pv 5) (Aa (pv 1) (Aa (pv 2) Ac)))))
   (Ab (An (i:=7) N.nd rfl (Or.inl rfl) (pe_and (C1 Ht (pv 5) Ad (Aq _)) (Ih (C1 Cw (pv 6) (Ar Ax (pv 2) (Ar Ax (pv 1) (Au Fw (pv 5) Ad) (fun _ _=>rfl)) (fun _ _=>rfl)) (Aq _)))))
   (Ab (Bj (Cy Zq PySem.F.slot_list_insert PySem.F.type_list_insert mt_insert (pv 1) (Aa (pv 5) (Aa (pv 3) Ac))))
   (Ab (Bj (Cy Zq Zx Zy Ba (pv 2) (Aa (pv 6) Ac)))
   (Ah (Bo (Bw (pv 7) (fun _=>rfl)) (Ah (An (i:=2) N.nd rfl (Or.inl rfl) (Ak GS hr A6 (Aa (pv 1) Ac)))) Av))))))))
  (Ah (Ap (pv 1))))),?_⟩
 try dsimp only [Di,Cx.nox,Cx.wish]
 refine⟨small (Za rfl),fun y ai=>?_⟩
 refine⟨small (Za rfl),fun n aa=>?_⟩
 have ao:=pf.length
 have I0:SnI H (upd (upd H y (.lst [])) n (.lst [])) d y n 0 [] (fun _=>0):=by
  have s1:=Aj (o:=.lst []) ai
  have ne:y≠n:=Ae (H:=upd H y (.lst [])) (o:=.lst []) upd_same aa
  refine⟨s1.trans (Aj aa),ai,s1.free aa,ne,by rw[Ai ne];exact upd_same,upd_same,⟨rfl,fun t=>?_,List.Pairwise.nil,.nil⟩,fun a h=>(by cases h)⟩
  rw[List.take_zero]
 generalize upd (upd H y (.lst [])) n (.lst [])=H1 at I0 ⊢
 refine⟨_,rfl,lf,_,rfl,SqL.of (I0.sm _ _ ac),for_enumL (xs:=fs) (fun i σ U=>∃ n v3 v4 v5 v6 v7 g p,σ=[some (.ref lf),some (.ref y),some (.ref n),v3,v4,v5,v6,v7]∧SnI H U d y n i g p) ?_ ?_ ?_ ?_⟩
 ·exact⟨n,none,none,none,none,none,[],_,rfl,I0⟩
 ·rintro i σ U _ ⟨_,v3,v4,v5,v6,v7,g,p,rfl,I⟩
  exact SqL.of (I.sm _ _ ac)
 ·rintro i x t σ U hx ht ⟨n,v3,v4,v5,v6,v7,g,p,rfl,I⟩
  obtain⟨s,R,a,rfl,ha⟩:=Bu pf hx
  have az:=(Zj.mp R).1
  have D:=I.same (Aj (o:=.tup [.int i,.ref a]) ht)
  refine⟨t,_,rfl,SqT.of upd_same,rfl,_,_,rfl,_,_,rfl,rfl,?_⟩
  generalize upd U t (.tup [.int i,.ref a])=H3 at D ⊢
  have ax:g.length=i:=by rw[D.om.len,Z6];lia
  have O:∀ {j:Nat} {u:Sg},j≤i→d[j]?=some u→∀ b∈u.inner,b∈g:=fun B C b X=>by
   obtain⟨h1,h2⟩:=L.before C b X
   exact (D.om.mem b).mpr (Zak.mpr ⟨idx d b,by rw[Zc6,Zw (by lia)];exact Cd h1⟩)
  have ab:s∉g:=fun h=>by
   obtain⟨j,B⟩:=Zak.mp ((D.om.mem s).mp h)
   rw[Zc6] at B
   split at B
   ·have e1:=L.at B
    have e2:=L.at R
    lia
   ·cases B
  have as:∀ u∈g,∀ b∈u.inner,b∈g:=fun u C=>by
   obtain⟨j,B⟩:=Zak.mp ((D.om.mem u).mp C)
   rw[Zc6] at B
   split at B
   ·rename_i hji;exact O (by lia) B
   ·cases B
  -- spot
  refine Am fun U1 q1 D1 n1=>?_
  refine⟨_,rfl,_,rfl,a,n,d,s,_,p,rfl,D.sm _ _ ha,D.er,fun b X=>(D.rat (O (Zd _) R b X)).2,fun c H4 am ec=>?_⟩
  have G:=D.same am
  have ar:Paired (FoR d H4) fs d:=Paired.mapP pf fun v u ⟨a,e,h⟩=>⟨a,e,G.sm _ _ h⟩
  refine⟨_,rfl,_,rfl,_,rfl,c,y,lf,n,fs,_,d,g,s,p,rfl,ec,G.eo,G.sm _ _ ac,G.er,ar,G.om.srt,G.mo,by lia,fun u C=>⟨(G.rat C).1,(G.rat C).2,as u C⟩,O (Zd _) R,fun k W an hk X aj=>n1 _ _ ?_⟩
  clear n1 D1
  have m:=G.same an
  rw[q1]
  -- rank
  refine Am fun U2 q2 D2 n2=>?_
  refine⟨_,rfl,_,rfl,_,rfl,k,y,n,_,d,g,p,rfl,m.eo,m.er,m.om.srt,m.mo,hk,fun u C=>(m.rat C).2,fun r ak ap=>n2 _ _ ?_⟩
  clear n2 D2
  rw[q2]
  -- crowded
  refine Am fun U3 q3 D3 n3=>?_
  have Z:∀ c:Bool,(c=false→∀ u,0<k→g[k - 1]?=some u→p u<r)→D3.nx [some (.ref lf),some (.ref y),some (.ref n),some (.int i),some (.ref a),some (.int (k:Nat)),some (.int r),some (.bl c)] W:=fun c hc=>by
   refine n3 _ _ ?_
   clear n3 D3
   rw[q3]
   refine Am fun U4 q4 D4 n4=>?_
   refine⟨_,rfl,.inl ⟨rfl,_,SqL.of m.eo⟩,_,rfl,_,rfl,y,_,k,_,rfl,rfl,m.eo,by rw[Hl];exact hk,Bf (by rw[Hl];lia),n4 _ _ ?_⟩
   clear n4 D4
   have ei:V.int (i:Nat)=V.int (idx d s:Nat):=by rw[L.at R]
   rw[ei,iL_ins]
   have ag:upd W y (.lst (iL ((insA g k s).map (idx d)))) n=some (.lst ((d.take i).map fun t=>V.int (p t))):=by rw[Ai m.ne.symm];exact m.er
   have ay:((d.take i).map fun t=>V.int (p t)).length≤90000:=by rw[Zl,Z6];lia
   rw[q4]
   refine Am fun U5 q5 D5 n5=>?_
   refine⟨_,rfl,.inl ⟨rfl,_,SqL.of ag⟩,_,rfl,n,_,_,rfl,rfl,ag,Bf (by lia),n5 _ _ ?_⟩
   clear n5 D5
   have Y:=om_ins m.om L R ab X aj
   have e7:((d.take i).map fun t=>V.int (p t))++[V.int r]=(d.take (i+1)).map fun t=>V.int (rkA p s r t):=by
    rw[Zao,R,Zac]
    have e8:(d.take i).map (fun t=>V.int (rkA p s r t))=(d.take i).map fun t=>V.int (p t):=Zcz fun t ht=>by
     unfold rkA
     rw[Zs (fun z=>ab ((m.om.mem s).mpr (by rw[← z];exact ht)))]
    rw[e8]
    show _=_++[V.int (rkA p s r s)]
    unfold rkA
    rw[Zw rfl]
   rw[e7,q5]
   have S:Bq H (upd (upd W y (.lst (iL ((insA g k s).map (idx d))))) n (.lst ((d.take (i+1)).map fun t=>V.int (rkA p s r t)))):=Ci (Ci m.sm m.no) m.nr
   have J:upd (upd W y (.lst (iL ((insA g k s).map (idx d))))) n (.lst ((d.take (i+1)).map fun t=>V.int (rkA p s r t))) y=some (.lst (iL ((insA g k s).map (idx d)))):=by rw[Ai m.ne];exact upd_same
   have ae:upd (upd W y (.lst (iL ((insA g k s).map (idx d))))) n (.lst ((d.take (i+1)).map fun t=>V.int (rkA p s r t))) n=some (.lst ((d.take (i+1)).map fun t=>V.int (rkA p s r t))):=upd_same
   generalize upd (upd W y (.lst (iL ((insA g k s).map (idx d))))) n (.lst ((d.take (i+1)).map fun t=>V.int (rkA p s r t)))=H6 at S J ae ⊢
   have al:(insA g k s).length≤90000:=by rw[ins_len];lia
   refine⟨_,rfl,c,rfl,?_⟩
   cases c with
   | true =>
    refine Eg ⟨_,rfl,y,insA g k s,d.take (i+1),rfl,by rw[← iL_pre (fun t ht=>(Y.mem t).mp ht)];exact J,Y,al,fun l H7 ad hl el=>?_⟩
    exact⟨l,_,_,_,_,_,_,_,rfl,S.trans ad,m.no,S.free hl,Ae J hl,ad _ _ J,el,Y,spread_mono Y.srt _ GP_pos⟩
   | false =>
    refine Cv ?_
    exact⟨n,_,_,_,_,_,_,_,rfl,S,m.no,m.nr,m.ne,J,ae,Y,rkA_mono m.mo m.om.srt ab hk X aj (hc rfl) ap⟩
  refine⟨_,rfl,_,_,rfl,rfl,_,rfl,?_⟩
  by_cases af:0<k
  ·have M:g[k - 1]?=some g[k - 1]:=Zi (by lia)
   generalize g[k - 1]=u at M
   have ek:((k:Nat):Int) - 1=((k - 1:Nat):Int):=by lia
   refine ifT (by lia) ?_
   refine⟨_,rfl,_,rfl,_,rfl,_,rfl,_,_,rfl,rfl,y,_,_,_,rfl,rfl,SqL.of m.eo,by rw[ek];exact Be (iL_at M),n,_,_,_,rfl,rfl,SqL.of m.er,Be (m.rat (Ze M)).2,rfl,Z _ fun hc u' _ ah=>?_⟩
   rw[M] at ah
   cases ah
   have h1:=ak _ af M
   have h2:¬ V.int r=V.int (p u):=Zcg hc
   have h3:¬ r=p u:=fun z=>h2 (by rw[z])
   lia
  ·refine ifF (by lia) (Z false fun _ u aq=>absurd aq af)
 ·rintro σ U ⟨n,v3,v4,v5,v6,v7,g,p,rfl,I⟩
  have h:=I.om
  rw[ao,Zaz] at h
  exact⟨_,rfl,q y g U I.sm I.no I.eo h⟩
end
inductive spPo (vs:List V) (H:Hp) (Q:VK) (_:XK):Prop
 | mk (v:V) (s:Sg) (_:vs=[v]) (_:SyO H v s) (_:s.high≤300) (_:s.size≤1500) (_:∀ (l:Addr) (us:List V) (os:List Sg) (H' : Hp),Bq H H'→H l=none→H' l=some (.lst us)→Fh H' us os→Om os (vis s [])→Q (.ref l) H')
def shw (os:List Sg):List Sg:=os.filter fun t=>decide (t.word = "shown")
inductive spSw (vs:List V) (H:Hp) (Q:VK) (_:XK):Prop
 | mk (v:V) (s:Sg) (_:vs=[v]) (_:SyO H v s) (_:s.high≤300) (_:s.size≤1500) (_:∀ (l:Addr) (us:List V) (os:List Sg) (H' : Hp),Bq H H'→H l=none→H' l=some (.lst us)→Fh H' us (shw os)→Om os (vis s [])→Q (.ref l) H')
def ltr:List Sg→List Str
 | []=>[]
 | .lt x::r=>x::ltr r
 | _::r=>ltr r
theorem Cn:∀ a b:List Sg,ltr (a++b)=ltr a++ltr b
 | [],b=>rfl
 | .lt x::r,b=>by show x::ltr (r++b)=x::ltr r++ltr b;rw[Cn r b];rfl
 | .no::r,b=>Cn r b
 | .not _::r,b=>Cn r b
 | .shown _::r,b=>Cn r b
 | .bin _ _ _::r,b=>Cn r b
theorem Dn {x:Str}:∀ {a:List Sg},x∈ltr a ↔ .lt x∈a
 | []=>by simp[ltr]
 | .lt y::r=>by show x∈y::ltr r↔_;rw[Zr,Zr,Dn (a:=r)];simp
 | .no::r=>by show x∈ltr r↔_;rw[Zr,Dn (a:=r)];simp
 | .not _::r=>by show x∈ltr r↔_;rw[Zr,Dn (a:=r)];simp
 | .shown _::r=>by show x∈ltr r↔_;rw[Zr,Dn (a:=r)];simp
 | .bin _ _ _::r=>by show x∈ltr r↔_;rw[Zr,Dn (a:=r)];simp
theorem ltr_one {s:Sg}(h:¬ s.word = "letter"):ltr [s]=[]:=by
 cases s with
 | lt x=>exact absurd rfl h
 | _=>rfl
theorem word_letter {s:Sg}(h:s.word = "letter"):∃ x,s = .lt x:=by
 cases s with
 | no=>exact absurd h (by decide +kernel)
 | lt x=>exact⟨x,rfl⟩
 | not a=>exact absurd h (show ¬ ("not" : Str) = "letter" by decide +kernel)
 | shown a=>exact absurd h (show ¬ ("shown" : Str) = "letter" by decide +kernel)
 | bin j a b=>exact absurd h (show ¬ j.word = "letter" by cases j <;> decide +kernel)
abbrev SrtL (xs:List Str):Prop:=xs.Pairwise fun a b=>sL a b=true
theorem Ha:∀ {xs ys:List Str},SrtL xs→SrtL ys→(∀ t,t∈xs↔t∈ys)→xs=ys
 | [],[],_,_,_=>rfl
 | [],y::_,_,_,h=>by have:=(h y).mpr (Z0 ..);cases this
 | x::_,[],_,_,h=>by have:=(h x).mp (Z0 ..);cases this
 | x::xs,y::ys,hx,hy,h=>by
  obtain⟨hx1,hx2⟩:=Zbh.mp hx
  obtain⟨hy1,hy2⟩:=Zbh.mp hy
  have e:x=y:=by
   rcases Zr.mp ((h x).mp (Z0 ..)) with e | e
   ·exact e
   ·rcases Zr.mp ((h y).mpr (Z0 ..)) with e' | e'
    ·exact e'.symm
    ·have h1:=Jb (hx1 y e') (hy1 x e)
     rw[Db] at h1
     cases h1
  subst e
  have ne:∀ {l:List Str},(∀ t∈l,sL x t=true)→∀ t∈l,t≠x:=fun hl t ht q=>by
   have:=hl t ht
   rw[q,Db] at this
   cases this
  rw[Ha hx2 hy2 fun t=>⟨fun ht=>(Zr.mp ((h t).mp (Zz _ ht))).resolve_left (ne hx1 t ht),fun ht=>(Zr.mp ((h t).mpr (Zz _ ht))).resolve_left (ne hy1 t ht)⟩]
theorem Jx {α:Type}[DecidableEq α]:∀ {xs ys:List α},xs.Nodup→(∀ x∈xs,x∈ys)→xs.length≤ys.length
 | [],_,_,_=>Zt _
 | x::xs,ys,hn,h=>by
  obtain⟨h1,h2⟩:=Zbs.mp hn
  have hx:=h x (Z0 ..)
  have:=Jx (xs:=xs) (ys:=ys.erase x) h2 fun y hy=>(List.mem_erase_of_ne (fun e=>h1 (by rw[← e];exact hy))).mpr (h y (Zz _ hy))
  rw[List.length_erase_of_mem hx] at this
  have:0<ys.length:=List.length_pos_of_mem hx
  rw[Zab]
  omega
theorem srtL_of {zs:List Str}(h:sortedS zs=true)(hn:zs.Nodup):SrtL zs:=by
 have g:∀ (r:List Str) (x:Str),risingS x r=true→(x::r).Nodup→SrtL (x::r):=fun r=>by
  induction r with
  | nil=>intro x _ _;exact List.pairwise_singleton ..
  | cons y r j =>
   intro x h hn
   rw[risingS,Zay,Bool.not_eq_true',← lt_meets] at h
   obtain⟨f,i⟩:=Zbs.mp hn
   have d:=j y h.2 i
   have b:sL x y=true:=by
    rcases sL_total (x:=x) (y:=y) (fun e=>f (by rw[e];exact Z0 ..)) with a | a
    ·exact a
    ·rw[show sL y x=false from h.1] at a;cases a
   refine Zbh.mpr ⟨fun z c=>?_,d⟩
   rcases Zr.mp c with rfl | c
   ·exact b
   ·exact Jb b ((Zbh.mp d).1 z c)
 cases zs with
 | nil=>exact .nil
 | cons x r=>exact g r x h hn
theorem ltr_nodup {ss:List Sg}(h:Tab ss):(ltr ss).Nodup:=by
 induction h with
 | nil=>exact List.nodup_nil
 | @snoc ss s h d i c =>
  rw[Cn]
  cases s with
  | lt x =>
   refine List.nodup_append.mpr ⟨c,Zbs.mpr ⟨Zcd,List.nodup_nil⟩,fun a g b f e=>d ?_⟩
   rw[Zg.mp (show b∈[x] from f)] at e
   rw[← e]
   exact Dn.mp g
  | _=>show (ltr ss++[]).Nodup;rw[Zbr];exact c
theorem vis_wf:∀ (s:Sg) (ss:List Sg) (t:Sg),s.Wf→t∈vis s ss→t∈ss∨t.Wf
 | .no,ss,t,h,ht=>(add_mem ht).imp id fun e=>by rw[e];exact h
 | .lt x,ss,t,h,ht=>(add_mem ht).imp id fun e=>by rw[e];exact h
 | .not a,ss,t,h,ht=>by
  rcases add_mem ht with e | e
  ·exact vis_wf a ss t h e
  ·rw[e];exact .inr h
 | .shown a,ss,t,h,ht=>by
  rcases add_mem ht with e | e
  ·exact vis_wf a ss t h e
  ·rw[e];exact .inr h
 | .bin j a b,ss,t,h,ht=>by
  rcases add_mem ht with e | e
  ·rcases vis_wf b _ t h.2 e with e | e
   ·exact vis_wf a ss t h.1 e
   ·exact .inr e
  ·rw[e];exact .inr h
inductive spLf (vs:List V) (H:Hp) (Q:VK) (_:XK):Prop
 | mk (l:Addr) (fs:List V) (ss:List Sg) (_:vs=[.ref l]) (_:H l=some (.lst fs)) (_:Paired (FoR ss H) fs ss) (_:Tab ss) (_:(∀ t∈ss,t.Wf)) (_:ss.length≤90000) (_:∀ (r:Addr) (zs:List Str) (H' : Hp),Bq H H'→H r=none→H' r=some (.lst (zs.map V.str))→SrtL zs→(∀ x,x∈zs ↔ .lt x∈ss)→Q (.ref r) H')
inductive spLt (vs:List V) (H:Hp) (Q:VK) (_:XK):Prop
 | mk (v:V) (s:Sg) (_:vs=[v]) (_:SyO H v s) (_:s.Wf) (_:s.high≤300) (_:s.size≤1500) (_:∀ (r:Addr) (zs:List Str) (H' : Hp),Bq H H'→H r=none→H' r=some (.lst (zs.map V.str))→SrtL zs→(∀ x,x∈zs ↔ .lt x∈vis s [])→Q (.ref r) H')
section
variable {P:Program} {w:World} {K:PySem.W.Frag} {mg:Str→Option Value} {base:Heap}
theorem ok_po {f C:Addr}{fd:FuncData}(F:Fun K "parts_of" "parts_of" sPo f fd)(TC:TxC K mg C)(GN:Df P w K mg base CX0 35 "numbered" ["saying"] (spNd P w C))(GS:Df P w K mg base CX0 4 "sorted_numbers" ["forms"] spSn) :
  FnOk P w K mg base CX0 36 f fd ["saying"] spPo:=by
 refine Bs F ["saying","numbering"] fun sc aa A W s0 H vs Q E R h=>?_
 obtain⟨v,s,rfl,Z,hh,L,q⟩:=h
 refine⟨_,Ab (An (i:=1) sc.nd rfl (Or.inr rfl) (Ak GN R A6 (Aa (pv 0) Ac)))
  (Ah (Ap (Ej rfl [("numbering", 1)] (C3 (Ak GS R A6 (Aa (Bh (pv 1) rfl) Ac))) (fun _ _ _ _=>Ep)
   (fun C s₀ H₀ ex=>Ar (show IxR _ (rIxL K) from Ax) (show PE _ _ (tFld K _ _) from Bh (pv 1) rfl) (pv 0) (fun _ _=>rfl))))),?_⟩
 try dsimp only [Di,Cx.nox,Cx.wish]
 refine⟨_,rfl,v,s,rfl,Z,⟨hh,L⟩,fun d O z H1 U fr m S cz=>?_⟩
 have ad:z.ss.length≤0+s.size:=by rw[S];exact Eo s []
 refine⟨_,rfl,d.p,C,d.dx,_,_,rfl,m.ob,TC.cl,TC.n2,rfl,d.lf,z.fs,z.ss,rfl,m.raw.at 2 rfl,m.fo,m.tab,by omega,fun Y c y G ab l I=>⟨Y,rfl,⟨_,SqL.of l⟩,fun D k=>?_⟩⟩
 have J:=m.same G
 have ob:=J.ob
 have B:y d.ls=some (.lst z.vs):=J.raw.at 1 rfl
 have sa:=J.sa
 have M:∀ t∈c,∃ u,z.vs[idx z.ss t]?=some u∧SyO y u t:=fun t ht=>Bx sa (Cd ((I.mem t).mp ht))
 have ac:=I.len
 refine B6 (xs:=iL (c.map (idx z.ss))) (fun j r=>∃ g,r=upd y D (.lst g)∧Fh y g (c.take j)) ⟨[],rfl,.nil⟩ (fun j r _ ⟨g,e,_⟩=>by rw[e];exact SqL.of (by rw[Ai (Ae l k)];exact l)) ?_ ?_
 ·rintro j x r hx ⟨g,rfl,o⟩
  obtain⟨t,ht,rfl⟩:∃ t,c[j]?=some t∧x=V.int (idx z.ss t:Nat):=by
   have a : (List.map (fun (n:Nat)=>V.int (n:Int)) (c.map (idx z.ss)))[j]?=some x:=hx
   rw[Zp,Zp] at a
   cases T:c[j]? with
   | none=>rw[T] at a;cases a
   | some b=>rw[T] at a;exact⟨b,rfl,(Zm a).symm⟩
  obtain⟨u,hu,X⟩:=M t (Ze ht)
  have lst:=o.length
  refine cpY ?_
  refine⟨_,rfl,d.p,C,d.dx,_,_,rfl,by rw[Ai (Ae ob k)];exact ob,TC.cl,TC.n1,rfl,_,rfl,d.ls,_,_,_,rfl,rfl,SqL.of (by rw[Ai (Ae B k)];exact B),Be hu,_,upd_same,Bf (by rw[lst,Z6];omega),?_⟩
  rw[C4]
  exact⟨_,rfl,by rw[Zao,ht];exact o.snoc X⟩
 ·rintro r ⟨g,rfl,o⟩
  rw[Hl,Zaz] at o
  have N:=U.trans G
  exact q D g c _ (N.trans (Aj k)) (N.free k) upd_same (o.stay (TuO.new k)) (by rw[← S];exact I)
theorem ok_sw {f:Addr}{fd:FuncData}(F:Fun K "shown_parts" "shown_parts" sSw f fd)(GP:Df P w K mg base CX0 36 "parts_of" ["saying"] spPo) :
  FnOk P w K mg base CX0 37 f fd ["saying"] spSw:=by
 refine Bs F ["saying"] fun Y T A G s0 H Z Q E N h=>?_
 obtain⟨v,s,rfl,I,S,y,q⟩:=h
 refine⟨_,Ah (Ap (Ej rfl [] (C3 (Ak GP N A6 (Aa (pv 0) Ac))) (fun C L O M=>pts_one rfl (Ao Cw (Ar (show IxR _ (rIxT K) from Az) (pv 0) Ad (fun _ _=>rfl)) Aw (Aq _))) (fun C L O M=>pv 0))),?_⟩
 try dsimp only [Di,Cx.nox,Cx.wish]
 refine⟨_,rfl,v,s,rfl,I,S,y,fun l J b z m hl n B p=>⟨l,rfl,⟨_,SqL.of n⟩,fun D d=>?_⟩⟩
 have lst:=B.length
 have W:(vis s []).length≤0+s.size:=Eo s []
 have U:=p.len
 refine B6 (xs:=J) (fun j g=>∃ c,g=upd z D (.lst c)∧Fh z c (shw (b.take j))) ⟨[],rfl,.nil⟩ (fun j g _ ⟨c,e,_⟩=>by rw[e];exact SqL.of (by rw[Ai (Ae n d)];exact n)) ?_ ?_
 ·rintro j x g R ⟨c,rfl,sw⟩
  obtain⟨t,ht,o⟩:=Bu B R
  obtain⟨a,r,rfl,u⟩:=o.w0
  have lw:=sw.length
  have X:(shw (b.take j)).length≤b.length:=Zah (List.length_filter_le _ _) (by rw[Z6];omega)
  have i:shw (b.take (j+1))=shw (b.take j)++(if decide (t.word = "shown")=true then [t] else []):=by
   unfold shw
   rw[Zao,ht,List.filter_append]
   show _++List.filter _ [t]=_
   rw[List.filter_cons]
   rfl
  refine⟨_,rfl,a,_,_,_,rfl,rfl,SqT.of (by rw[Ai (Ae u d)];exact u),at0,rfl,_,rfl,?_⟩
  by_cases k:t.word = "shown"
  ·rw[Z2 k,Zw rfl] at i
   refine ifT (congrArg V.str k) ⟨_,rfl,_,upd_same,Bf (by omega),?_⟩
   rw[C4]
   exact⟨_,rfl,by rw[i];exact sw.snoc o⟩
  ·rw[Z9 k,Zs Zu,Zbr] at i
   exact ifF (Ev k) ⟨_,rfl,by rw[i];exact sw⟩
 ·rintro g ⟨c,rfl,sw⟩
  rw[lst,Zaz] at sw
  exact q D c b _ (m.trans (Aj d)) (m.free d) upd_same (sw.stay (TuO.new d)) p
theorem ok_lf {f:Addr}{fd:FuncData}(F:Fun K "letters_by_forms" "letters_by_forms" sLf f fd)(T:Txt K w.params mg):FnOk P w K mg base CX0 1 f fd ["forms"] spLf:=by
 refine Bs F ["forms"] fun sc Z A S s0 H vs Q E hr h=>?_
 obtain⟨l,fs,b,rfl,t,G,N,I,aa,q⟩:=h
 refine⟨_,Ah (Ap (A3 call_sortedS (by rfl) T.sorted PyProof.Rows.boot_sorted (Aa (Ej rfl [] (C3 (pv 0)) (fun C U X W=>pts_one rfl (Ao Cw (Ar (show IxR _ (rIxT K) from Az) (pv 0) Ad (fun _ _=>rfl)) Aw (Aq _))) (fun C U X W=>Ar (show IxR _ (rIxT K) from Az) (pv 0) Ad (fun _ _=>rfl))) Ac))),?_⟩
 try dsimp only [Di,Cx.nox,Cx.wish]
 have L:=G.length
 have R:∀ a:List Sg,(ltr a).length≤a.length:=fun a=>by
  induction a with
  | nil=>exact Zd _
  | cons s r ih=>cases s <;> simp only[ltr,Zab] <;> omega
 refine⟨_,rfl,l,rfl,⟨_,SqL.of t⟩,fun D g=>?_⟩
 refine B6 (xs:=fs) (fun j c=>c=upd H D (.lst ((ltr (b.take j)).map V.str))) rfl (fun j c _ e=>by rw[e];exact SqL.of (by rw[Ai (Ae t g)];exact t)) ?_ ?_
 ·rintro j x c n rfl
  obtain⟨v,u,a,rfl,z⟩:=Bu G n
  obtain⟨r,k,_,_⟩:=Jk z
  have M:ltr (b.take (j+1))=ltr (b.take j)++ltr [v]:=by rw[Zao,u,Cn];rfl
  refine⟨_,rfl,a,_,_,_,rfl,rfl,SqT.of (by rw[Ai (Ae k g)];exact k),at0,rfl,_,rfl,?_⟩
  by_cases d:v.word = "letter"
  ·obtain⟨y,rfl⟩:=word_letter d
   have m:H a=some (.tup [.str "letter", .str y]):=z
   refine ifT (congrArg V.str d) ⟨_,rfl,a,_,_,_,rfl,rfl,SqT.of (by rw[Ai (Ae m g)];exact m),at1,_,upd_same,Bf (by have:=R (b.take j);rw[Z6] at this;rw[Zl];omega),?_⟩
   rw[C4,M,Zac]
   rfl
  ·refine ifF (Ev d) ?_
   rw[M,ltr_one d,Zbr]
 ·rintro c rfl
  rw[L,Zaz]
  have O:=ltr_nodup N
  refine⟨D,_,rfl,SqL.of upd_same,?_,fun r Y i B sz=>?_⟩
  ·have:=Jx (ys:=(["p","q","r"]:List Str)) O fun x n=>by
    rcases (I _ (Dn.mp n):x = "p" ∨ x = "q" ∨ x = "r") with rfl | rfl | rfl <;> simp
   have h3:(["p","q","r"]:List Str).length=3:=rfl
   omega
  ·have J:=Aj (o:=.lst ((ltr b).map V.str)) g
   exact q r Y _ (J.trans (Aj i)) (J.free i) upd_same (srtL_of sz (B.nodup_iff.mpr O)) fun x=>by rw[B.mem_iff,Dn]
theorem ok_lt {f C:Addr}{fd:FuncData}(F:Fun K "letters_of" "letters_of" sLt f fd)(TC:TxC K mg C)(GN:Df P w K mg base CX0 35 "numbered" ["saying"] (spNd P w C))(GL:Df P w K mg base CX0 1 "letters_by_forms" ["forms"] spLf) :
  FnOk P w K mg base CX0 36 f fd ["saying"] spLt:=by
 refine Bs F ["saying"] fun G B A l L H J Q E j h=>?_
 obtain⟨v,s,rfl,m,e,y,g,q⟩:=h
 refine⟨_,Ah (Ap (Ak GL j A6 (Aa (Bh (Ak GN j A6 (Aa (pv 0) Ac)) rfl) Ac))),?_⟩
 try dsimp only [Di,Cx.nox,Cx.wish]
 refine⟨_,rfl,v,s,rfl,m,⟨y,g⟩,fun d O z I b N a c M=>?_⟩
 have D:z.ss.length≤0+s.size:=by rw[c];exact Eo s []
 refine⟨d.p,C,d.dx,_,_,rfl,a.ob,TC.cl,TC.n2,rfl,d.lf,z.fs,z.ss,rfl,a.raw.at 2 rfl,a.fo,a.tab,fun t ht=>?_,by omega,fun r x u i k n sz o=>?_⟩
 ·rw[c] at ht
  exact (vis_wf s [] t e ht).resolve_left Zcd
 ·exact q r x u (b.trans i) (b.free k) n sz (by rw[← c];exact o)
end
theorem seq_use {t u:TS}{D:Ends}{σ:L2.St}{H:Hp}(P:L2.St→Hp→Prop)(h:∀ N:L2.St→Hp→Prop,(∀ σ1 H1,P σ1 H1→N σ1 H1)→t { D with nx:=N } σ H)(k:∀ σ1 H1,P σ1 H1→u D σ1 H1):Fk t u D σ H:=h _ k
theorem gN {i:Nat}{v:V}{σ:L2.St}{H:Hp}{Q:L2.St→Hp→Prop}(h:Q (List.set σ i (some v)) H):Hs i v σ H Q:=h
theorem qT:(0:Int)<10 ^ (30:Int).toNat:=by decide +kernel
inductive spCa (K:PySem.W.Frag) (vs:List V) (H:Hp) (Q:VK) (_:XK):Prop
 | mk (a:Addr) (ns:List Int) (k:Int) (_:vs=[.ref a,.int k]) (_:SqL K H a (ns.map V.int)) (_:0≤k) (_:∀ z:Int,Q (.int z) H)
inductive spMx (K:PySem.W.Frag) (vs:List V) (H:Hp) (Q:VK) (_:XK):Prop
 | mk (a:Addr) (ns:List Int) (k:Int) (_:vs=[.ref a,.int k]) (_:SqL K H a (ns.map V.int)) (_:∀ z:Int,0≤z→Q (.int z) H)
section
variable {P:Program} {w:World} {K:PySem.W.Frag} {mg:Str→Option Value} {base:Heap}
theorem scCa:FnScope ["_law_script","_law_k"] ["_law_script","_law_k"] (Bd sCa):=⟨rfl,rfl,rfl,by decide +kernel,rfl,by decide +kernel,by decide +kernel⟩
theorem ok_ca {f:Addr}{fd:FuncData}(F:Fun K "_law_cell_at" "_law_cell_at" sCa f fd)(T:Txt K w.params mg):FnOk P w K mg base CX0 1 f fd ["_law_script","_law_k"] (spCa K):=by
 refine F.ok scCa (fun m H Q E h=>?_) (fun n A d s H m Q E o h=>?_)
 ·obtain⟨a,c,k,rfl,_⟩:=h
  rfl
 ·obtain⟨a,c,k,rfl,b,j,q⟩:=h
  refine⟨_,Ab (Bo (Ao Jt (pv 1) (A3 A0 (by rfl) T.len Zax (Aa (pv 0) Ac)) (Aq _)) (Ah (Ap (Ar Ax (pv 0) (pv 1) (fun _ _=>rfl)))) Av) (Ah (Ap Ad)),?_⟩
  dsimp only [Di,Cx.nox,Cx.wish]
  refine⟨_,rfl,_,rfl,a,_,rfl,.inl b,_,_,rfl,rfl,_,rfl,Gv (fun e=>?_) (fun _=>q 0)⟩
  have g:k<((c.map V.int).length:Int):=Zaf e
  obtain⟨v,i,l⟩:=atI_lt j g
  obtain⟨z,_,rfl⟩:=Zar.mp l
  exact⟨_,rfl,_,rfl,a,_,_,_,rfl,rfl,b,i,q z⟩
theorem scMx:FnScope ["_law_script","_law_k","_law_cell"] ["_law_script","_law_k"] (Bd sMx):=⟨rfl,rfl,rfl,by decide +kernel,rfl,by decide +kernel,by decide +kernel⟩
theorem ok_mx {f:Addr}{fd:FuncData}(F:Fun K "_law_mixed" "_law_mixed" sMx f fd)(GC:Df P w K mg base CX0 1 "_law_cell_at" ["_law_script","_law_k"] (spCa K)):FnOk P w K mg base CX0 2 f fd ["_law_script","_law_k"] (spMx K):=by
 refine F.ok scMx (fun g H Q E h=>?_) (fun l A d s H g Q E j h=>?_)
 ·obtain⟨a,b,k,rfl,_⟩:=h
  rfl
 ·obtain⟨a,b,k,rfl,e,q⟩:=h
  refine⟨_,Ab (An (i:=2) scMx.nd rfl (Or.inl rfl) (Ak GC j A6 (Aa (pv 0) (Aa (Au B9 (pv 1) Ad) Ac))))
   (Ah (Ap (Au B9 (Au G0 (Au B9 (Au G0 (Au Ca (Au Ca (Au B9 (pv 2) (Au op_pow Ad Ad)) (Au G0 Ad (pv 1))) Ad) Ad) Ad) Ad) Ad))),?_⟩
  refine⟨_,rfl,_,rfl,_,_,rfl,rfl,(by decide:(0:Int)<59),a,b,_,rfl,e,Zct _ (by decide),fun c=>?_⟩
  refine⟨_,rfl,_,_,rfl,rfl,⟨by decide,by decide,by decide⟩,_,_,rfl,rfl,qT,_,rfl,_,_,rfl,rfl,.inl ⟨by decide,by decide⟩,_,_,rfl,rfl,_,_,rfl,rfl,_,_,rfl,rfl,.inr ⟨by decide,by decide⟩,_,_,rfl,rfl,(by decide:(0:Int)<2147483647),_,_,rfl,rfl,.inr ⟨by decide,by decide⟩,_,_,rfl,rfl,(by decide:(0:Int)<999999937),?_⟩
  exact q _ (Zct _ (by decide))
end
end
end My
namespace PySem
set_option maxRecDepth 100000
namespace F
theorem my_lri_no_len:typeLookup (.type "list_reverseiterator") "__len__" = pure none:=by rw[typeLookup_type,builtinLookup_eq_fast];kernel_rfl
theorem my_lri_hint:typeLookup (.type "list_reverseiterator") "__length_hint__" = pure (some (.builtin "list_reverseiterator.__length_hint__")):=by rw[typeLookup_type,builtinLookup_eq_fast];kernel_rfl
end F
section
variable {prog:Program} {w:World} {A:Around} {E:Value→Shared→Prop} {s:Shared}
theorem my_hint_rev {it l:Addr}{i:Int}{Q:Bool→Shared→Prop}(hit:s.heap.IsRevIter it l i)(h:Q false s):wpAny (model prog w) A (Builtin.List.listLengthHint (.ref it)) Q E s:=by
 unfold Builtin.List.listLengthHint
 refine Zb (Zcp hit.typeIs F.my_lri_no_len ?_)
 show wpAny _ A (specialOf (Value.ref it) (Str.ofString "__length_hint__") >>= _) _ _ _
 refine Zb (Zcp hit.typeIs F.my_lri_hint ?_)
 generalize c:("list_reverseiterator.__length_hint__" : String)=d
 wp_delta
 rw[show splitId d=some ("list_reverseiterator","__length_hint__") from by subst c;decide +kernel]
 subst c
 refine Zb (Zdh (T := "list_reverseiterator") (b:=true) hit.typeIs (by rw[isSubtype_type];kernel_rfl) ?_)
 refine wpAny_ite_split (fun a=>absurd a (by decide)) (fun _=>?_)
 refine wpAny_ite_split (fun _=>?_) (fun a=>absurd (by decide +kernel) a)
 refine wpAny_ite_split (fun a=>absurd a (by decide +kernel)) (fun _=>?_)
 exact Zk h
end
section
variable {prog:Program} {w:World} {A:Around} {s:Shared} {R:Result→Shared→Prop}
theorem Jl {it l:Addr}{items:Array Value}(hh:A.handled=none)(hit:s.heap.IsRevIter it l ((items.size:Int) - 1))(hl:s.heap.IsList l items)(hne:l≠it)(S:Addr)(res:Value)(c₀:Nat)(hS:s.heap.get? S=some { cls:=.type "list", data:=.seq #[] c₀ })(hSi:S≠it)(hSl:S≠l)(hn:items.size≤sizeLine)(hR:∀ h' tk acc' c',(∀ b o,b≠S→b≠it→s.heap.get? b=some o→h'.get? b=some o)→h'.get? S=some { cls:=.type "list", dict:=none,data:=.seq acc' c',slots:=#[] } →
   ItemsOf (fun i v=>items[items.size - 1 - i]?=some v) acc' items.size→R (.ok (.ret res)) { s with heap:=h',toks:=tk }) :
  wpAny (model prog w) A.in1 (Builtin.List.listExtendWith (.ref S) (.ref it) res)
   (fun fin s'=>match fin with | .done f=>R (.ok f) s' | .again c'=>c'.quiet=true∧codeAny (model prog w) A c' R s') (fun e s'=>R (.error e) s') s:=by
 have W:=(Walks.listRev (prog:=prog) (w:=w) (A:=A.in1) hh it l hne items).toS
 have j:S∉[it,l]:=fun c=>by
  rcases Zr.mp c with e | c
  ·exact hSi e
  ·exact hSl (Zg.mp c)
 unfold Builtin.List.listExtendWith
 refine Zb (wpAny_typeOf hit.typeIs ?_)
 have n:Builtin.List.listSameRef (.ref S) (.ref it)=false:=by simp[Builtin.List.listSameRef,hSi]
 have p:(Value.type "list_reverseiterator" == Value.type "list")=false:=by decide
 have m:(Value.type "list_reverseiterator" == Value.type "tuple")=false:=by decide
 simp only[n,p,m,Bool.or_false,Za6,Zc3]
 refine Zb (wpAny_pyIter_revIter hit ?_)
 refine Zb (Zbc (my_hint_rev hit ?_))
 rw[Zs (by decide)]
 refine Zk ⟨Zcf F.plain_extend_loop _,codeAny_extend_loopS W hn _ j _ items.size 0 _ _ _ rfl (Zt _)
  (show (0≤items.size∧s.heap.IsRevIter it l ((items.size:Int) - 1 - ((0:Nat):Int))∧s.heap.IsList l items) from ⟨Zt _,by simpa using hit,hl⟩) hS (ItemsOf.nil _) fun s' acc' c' c g d=>?_⟩
 rw[Moved.eq_with c]
 refine hR s'.heap s'.toks acc' c' (fun b ob k h e=>c.heap b ob (fun a=>?_) e) g d
 rcases Zr.mp a with q | a
 ·exact k q
 ·exact h (Zg.mp a)
theorem F0 {it l:Addr}{items:Array Value}(hh:A.handled=none)(hit:s.heap.IsRevIter it l ((items.size:Int) - 1))(hl:s.heap.IsList l items)(hne:l≠it)(S:Addr)(hS:s.heap.get? S=some { cls:=.type "list", data:=.seq #[] })(hSi:S≠it)(hSl:S≠l)(hn:items.size≤sizeLine)(hR:∀ h' tk acc' c',(∀ b o,b≠S→b≠it→s.heap.get? b=some o→h'.get? b=some o)→h'.get? S=some { cls:=.type "list", dict:=none,data:=.seq acc' c',slots:=#[] } →
   ItemsOf (fun i v=>items[items.size - 1 - i]?=some v) acc' items.size→R (.ok (.ret .none)) { s with heap:=h',toks:=tk }) :
  wpAny (model prog w) A.in1 (Builtin.«list.__init__» ⟨[.ref S,.ref it],[]⟩)
   (fun fin s'=>match fin with | .done f=>R (.ok f) s' | .again c'=>c'.quiet=true∧codeAny (model prog w) A c' R s') (fun e s'=>R (.error e) s') s:=by
 show wpAny _ _ (do let k ← Builtin.List.listItems (.ref S);Builtin.List.listUpdate (.ref S) (fun _=>#[]);letGo k.toList.reverse;Builtin.List.listExtendWith (.ref S) (.ref it) .none) _ _ s
 refine Zb ?_
 unfold Builtin.List.listItems
 refine Zb (Zbj hS rfl (Zk ?_))
 show wpAny _ _ (updateSeq S (fun _=>#[]) >>= fun _=>letGo (#[]:Array Value).toList.reverse >>= fun _=>Builtin.List.listExtendWith (.ref S) (.ref it) .none) _ _ s
 refine Zb (wpAny_updateSeq hS rfl ?_)
 have j:=Zce (Obj.mapSeq (fun _=>(#[]:Array Value))) hS rfl
 have a:∀ b o,b≠S→s.heap.get? b=some o→(s.heap.update S (Obj.mapSeq (fun _=>(#[]:Array Value)))).get? b=some o :=
  fun b o c e=>(Za7 _ _ (Zdi c)).trans e
 refine Zb (wpAny_letGo ?_)
 refine Jl hh (hit.at fun o e=>a it o (Zdi hSi) e) (hl.at fun o e=>a l o (Zdi hSl) e) hne S .none _ j hSi hSl hn fun h' tk acc' c' m g d=>?_
 exact hR h' tk acc' c' (fun b o c h e=>m b o c h (a b o c e)) g d
end
section
variable {prog:Program} {w:World} {A:Around} {E:Value→Shared→Prop} {s:Shared}
theorem Gb {Q:Value→Shared→Prop}{it l:Addr}{items:Array Value}(hh:A.handled=none)(hit:s.heap.IsRevIter it l ((items.size:Int) - 1))(hl:s.heap.IsList l items)(hne:l≠it)(hn:items.size≤sizeLine)(hQ:∀ h' tk acc' c',(∀ b o,b≠it→s.heap.get? b=some o→h'.get? b=some o) →
   h'.get? s.heap.objs.size=some { cls:=.type "list", dict:=none,data:=.seq acc' c',slots:=#[] }→ItemsOf (fun i v=>items[items.size - 1 - i]?=some v) acc' items.size→Q (.ref s.heap.objs.size) { s with heap:=h',toks:=tk }) :
  wpAny (model prog w) A (call (.type "list") [.ref it]) Q E s:=by
 refine callType_codes (Q₁:=fun a f=>a = .ref s.heap.objs.size∧f={ s with heap:=s.heap.push { cls:=.type "list", data:=.seq #[] } }) F.called_list (F.typeCall_list_1 _) F.entry_list_init
  (code_list_new _ ⟨rfl,rfl⟩) fun a f p=>?_
 obtain⟨rfl,rfl⟩:=p
 have g:(s.heap.push { cls:=.type "list", data:=.seq #[] }).get? s.heap.objs.size=some { cls:=.type "list", data:=.seq #[] }:=Zn _ rfl
 have j:s.heap.objs.size≠it:=fun e=>by
  obtain⟨o,c,_⟩:=hit
  exact Za3 _ (e ▸ Zo c)
 have m:s.heap.objs.size≠l:=fun e=>by
  obtain⟨o,c,_⟩:=hl
  exact Za3 _ (e ▸ Zo c)
 refine⟨⟨_,g,rfl⟩,F.args_list_init_2 _ _,F0 (A:=A.in1) hh (hit.at fun o e=>Zc _ e) (hl.at fun o e=>Zc _ e) hne _ g j m hn fun h' tk acc' c' k h d=>?_⟩
 exact⟨rfl,hQ h' tk acc' c' (fun b o n e=>k b o (Z5 (Zo e)) n (Zc _ e)) h d⟩
end
end PySem
namespace My
noncomputable section
open PySem PySem.Spec PyProof.Rows L2
theorem rev_items {items:Array Value}{acc:Array Value}(h:ItemsOf (fun i v=>items[items.size - 1 - i]?=some v) acc items.size):acc.toList=items.toList.reverse:=by
 obtain⟨b,c⟩:=h
 apply Zcr
 intro i
 by_cases a:i<items.size
 ·have e:=c i acc[i] (Z3 (by omega))
  have d:acc.toList[i]?=some acc[i]:=by
   rw[Zaj]
   exact Z3 (by omega)
  rw[d,List.getElem?_reverse (by simpa using a),Zaj]
  simpa using e.symm
 ·rw[Zb0 (by simpa [b] using Nat.le_of_not_lt a),Zb0 (by simpa using Nat.le_of_not_lt a)]
section
variable {X:Cx} {e:Expr} {te:TE} {p1 p2 p3 p4:Pos}
def tLRev (K:PySem.W.Frag)(te:TE):TE:=fun σ H Q=>te σ H fun x H1=>∃ l ys,x = .ref l∧SqL K H1 l ys∧∀ p,H1 p=none→Q (.ref p) (upd H1 p (.lst ys.reverse))
theorem pe_listrev (hc:X.calm=true)(hg:Gl X "list")(hm:X.mg "list" = none)(hg2:Gl X "reversed")(hm2:X.mg "reversed" = none)(he:PE X e te)(hs1:starEach [.Call (.Name "reversed" p2) [e] [] p3] X.env=[(false,eval (.Call (.Name "reversed" p2) [e] [] p3) X.env)]:=by rfl)(hs2:starEach [e] X.env=[(false,eval e X.env)]:=by rfl) :
  PE X (.Call (.Name "list" p1) [.Call (.Name "reversed" p2) [e] [] p3] [] p4) (tLRev X.K te):=by
 refine⟨?_⟩
 intro g s σ H Q I h
 have L:(Str.ofString "list") ≠ "__name__" := by decide
 have m:(Str.ofString "reversed") ≠ "__name__" := by decide
 refine Zbg (Dj I hg hm PyProof.Rows.boot_list ?_ L (by decide))
 refine Zaw ?_ hs1 rfl
 rw[hs1]
 show wpAny _ _ (spliced ((false,eval (.Call (.Name "reversed" p2) [e] [] p3) X.env)::backTo p4 [])) _ _ s
 refine Zb1 ?_
 refine Zbg (Dj I hg2 hm2 PyProof.Rows.boot_reversed ?_ m (by decide))
 refine Zaw ?_ hs2 rfl
 rw[hs2]
 show wpAny _ _ (spliced ((false,eval e X.env)::backTo p3 [])) _ _ s
 refine Zb1 (thn (he g s σ H _ I h) fun u c ⟨x,S,i,M,B⟩=>?_)
 refine Zdd ?_
 obtain⟨l,G,rfl,N,q⟩:=B
 cases M
 obtain⟨a,r,k,n⟩:=i.list N
 refine call_reversed_list k.isList ?_
 refine Zdd ?_
 have t:=r.length
 have O:X.A.handled=none:=I.ok.hd hc
 have F:l≠c.heap.objs.size:=fun e=>by
  obtain⟨o,C,_⟩:=k.isList
  exact Za3 _ (e ▸ Zo C)
 refine Gb (s:={ c with heap:=c.heap.push (revObj l ((a.toArray.size:Int) - 1)) }) (it:=c.heap.objs.size) (l:=l) (items:=a.toArray) O ⟨_,Zn _ rfl,rfl,rfl⟩
  (k.isList.at fun o e=>Zc _ e) F (by rw[Zh,← t];exact n) fun P J d E w p j=>?_
 have y:∀ b u,c.heap.get? b=some u→P.get? b=some u:=fun b u v=>w b u (fun z=>Za3 _ (z ▸ Zo v)) (Zc _ v)
 have f:c.heap.objs.size≤(c.heap.push (revObj l ((a.toArray.size:Int) - 1))).objs.size:=by
  show c.heap.objs.size≤(c.heap.objs.push _).size
  rw[Zas]
  exact Zbp _
 refine⟨.ref _,_,i.laid (t':=J) (o:=.lst G.reverse) y f ?_,rfl,q _ (i.hok.fresh f)⟩
 refine⟨by rw[Zca];exact n,a.reverse,E,Bi.reverse r,?_⟩
 rw[p]
 have D:=rev_items j
 have R:d=a.reverse.toArray:=by
  rw[show a.reverse=d.toList from by rw[D]]
 rw[R]
end
inductive spPc (K:PySem.W.Frag) (vs:List V) (H:Hp) (Q:VK) (_:XK):Prop
 | mk (v:V) (s:Sg) (_:vs=[v]) (_:Sy K H v s) (_:∀ (l:Addr) (ws:List V),H l=none→Paired (PcR K H) ws s.pcs→Q (.ref l) (upd H l (.lst ws)))
inductive spWr (K:PySem.W.Frag) (vs:List V) (H:Hp) (Q:VK) (_:XK):Prop
 | mk (v:V) (s:Sg) (_:vs=[v]) (_:Sy K H v s) (_:s.wt≤50000) (_:∀ H',Bq H H'→Q (.str s.txt) H')
structure TxtW (K:PySem.W.Frag) (pr:Params) (mg:Str→Option Value):Prop where
 js:∃ d,mg "JOIN_SIGNS" = some (.ref d)∧GD K pr d∧∀ j:Jn,∃ t,PySem.W.nsIn K d j.word=some (some (.str j.sign t))
 rev:mg "reversed" = none
section
variable {P:Program} {w:World} {K:PySem.W.Frag} {mg:Str→Option Value} {base:Heap}
theorem ok_pc {f:Addr}{fd:FuncData}(F:Fun K "pieces_of" "pieces_of" sPc f fd)(TW:TxtW K w.params mg):FnOk P w K mg base CX0 1 f fd ["saying"] (spPc K):=by
 obtain⟨d,md,gd,r⟩:=TW.js
 refine Bs F ["saying","word"] fun p u A k C H z Q E B h=>?_
 obtain⟨v,s,rfl,n,q⟩:=h
 refine⟨_,Ab (An (i:=1) p.nd rfl (Or.inl rfl) (Ar Az (pv 0) Ad (fun _ _=>rfl)))
  (Ab (Bo (Ao Cw (pv 1) Aw (Aq _)) (Ah (Ap (Bp (Aa Aw Ac)))) Av)
  (Ab (Bo (Ao Cw (pv 1) Aw (Aq _)) (Ah (Ap (Bp (Aa (Ar Az (pv 0) Ad (fun _ _=>rfl)) Ac)))) Av)
  (Ab (Bo (Ao Cw (pv 1) Aw (Aq _)) (Ah (Ap (Bp (Aa Aw (Aa (Ar Az (pv 0) Ad (fun _ _=>rfl)) Ac))))) Av)
  (Ab (Bo (Ao Cw (pv 1) Aw (Aq _)) (Ah (Ap (Bp (Aa Aw (Aa (Ar Az (pv 0) Ad (fun _ _=>rfl)) (Aa Aw Ac)))))) Av)
  (Ah (Ap (Bp (Aa Aw (Aa (Ar Az (pv 0) Ad (fun _ _=>rfl)) (Aa (Ar Gj (Ch rfl md (v:=.ref d) rfl) (pv 1) (fun _ _=>rfl)) (Aa (Ar Az (pv 0) Ad (fun _ _=>rfl)) (Aa Aw Ac)))))))))))),?_⟩
 cases n with
 | @no a h =>
  refine⟨_,rfl,a,_,_,_,rfl,rfl,h,at0,?_⟩
  refine⟨_,rfl,rfl,_,rfl,ifT rfl ?_⟩
  exact⟨small (Za rfl),fun l b=>q l _ b (.cons rfl .nil)⟩
 | @lt a x h =>
  refine⟨_,rfl,a,_,_,_,rfl,rfl,h,at0,?_⟩
  refine⟨_,rfl,rfl,_,rfl,ifF w_ln ?_⟩
  refine⟨_,rfl,rfl,_,rfl,ifT rfl ?_⟩
  exact⟨_,rfl,a,_,_,_,rfl,rfl,h,at1,small (Za rfl),fun l b=>q l _ b (.cons rfl .nil)⟩
 | @not a e g h c =>
  refine⟨_,rfl,a,_,_,_,rfl,rfl,h,at0,?_⟩
  refine⟨_,rfl,rfl,_,rfl,ifF w_nn ?_⟩
  refine⟨_,rfl,rfl,_,rfl,ifF w_nl ?_⟩
  refine⟨_,rfl,rfl,_,rfl,ifT rfl ?_⟩
  exact⟨_,rfl,a,_,_,_,rfl,rfl,h,at1,small (Za rfl),fun l b=>q l _ b (.cons rfl (.cons c .nil))⟩
 | @shown a e g h c =>
  refine⟨_,rfl,a,_,_,_,rfl,rfl,h,at0,?_⟩
  refine⟨_,rfl,rfl,_,rfl,ifF w_sn ?_⟩
  refine⟨_,rfl,rfl,_,rfl,ifF w_sl ?_⟩
  refine⟨_,rfl,rfl,_,rfl,ifF w_st ?_⟩
  refine⟨_,rfl,rfl,_,rfl,ifT rfl ?_⟩
  exact⟨_,rfl,a,_,_,_,rfl,rfl,h,at1,small (Za rfl),fun l b=>q l _ b (.cons rfl (.cons c (.cons rfl .nil)))⟩
 | @bin a e y j g D h c m =>
  obtain⟨t,o⟩:=r j
  refine⟨_,rfl,a,_,_,_,rfl,rfl,h,at0,?_⟩
  refine⟨_,rfl,rfl,_,rfl,ifF (w_jn j) ?_⟩
  refine⟨_,rfl,rfl,_,rfl,ifF (w_jl j) ?_⟩
  refine⟨_,rfl,rfl,_,rfl,ifF (w_jt j) ?_⟩
  refine⟨_,rfl,rfl,_,rfl,ifF (w_js j) ?_⟩
  refine⟨_,rfl,a,_,_,_,rfl,rfl,h,at1,_,rfl,d,j.word,.str j.sign,_,rfl,rfl,gd,o,⟨t,rfl⟩,_,rfl,a,_,_,_,rfl,rfl,h,at2,small (Za rfl),fun l b=>?_⟩
  exact q l _ b (.cons rfl (.cons c (.cons rfl (.cons m (.cons rfl .nil)))))
theorem ok_wr {f:Addr}{fd:FuncData}(F:Fun K "written" "written" sWr f fd)(T:Txt K w.params mg)(TW:TxtW K w.params mg)(GP:Df P w K mg base CX0 1 "pieces_of" ["saying"] (spPc K)):FnOk P w K mg base CX0 2 f fd ["saying"] (spWr K):=by
 refine Bs F ["saying","pending","signs","piece"] fun W ai A ae Y H vs Q E hr h=>?_
 obtain⟨v,s,rfl,hy,hw,q⟩:=h
 refine⟨_,Ab (An (i:=1) W.nd rfl (Or.inl rfl) (Bp (Aa (pv 0) Ac)))
  (Ab (An (i:=2) W.nd rfl (Or.inl rfl) (Bp Ac))
  (Ab (Dc Za0 (Bw (pv 1) (fun _=>rfl))
   (Ab (An (i:=3) W.nd rfl (Or.inl rfl) (Ib Zq Zch Zci mt_pop (pv 1)))
   (Ah (Bo (Fx (A3 Iv (by rfl) T.isi Za9 (Aa (pv 3) (Aa (Fe rfl T.str PyProof.Rows.boot_str (v:=.ty "str") rfl) Ac))))
    (Ah (Bj (Cy Zq Zx Zy Ba (pv 2) (Aa (pv 3) Ac))))
    (Ah (Bj (Cy Zq PySem.F.slot_list_extend PySem.F.type_list_extend mt_extend (pv 1)
     (Aa (pe_listrev rfl rfl T.list rfl TW.rev (Ak GP hr A6 (Aa (pv 3) Ac))) Ac))))))))
  (Ah (Ap (Cy PySem.F.plainAttrs_str PySem.F.slot_str_join PySem.F.type_str_join mt_join Aw (Aa (pv 2) Ac)))))),?_⟩
 refine⟨_,rfl,small (Za rfl),fun d y=>⟨small (Za rfl),fun r C=>?_⟩⟩
 have Y:Bq H (upd (upd H d (.lst [v])) r (.lst [])):=(Aj y).trans (Aj C)
 have ab:H r=none:=(Aj y).free C
 have t:d≠r:=Ae (H:=upd H d (.lst [v])) upd_same C
 refine⟨fun m σ j=>∃ (n:List V) (B:List Pc) (e:List Str) (v3:Option V),σ=[some v,some (.ref d),some (.ref r),v3]∧Bq H j∧j d=some (.lst n)∧j r=some (.lst (e.map V.str))∧Paired (PcR K j) n B ∧
  m=wts B∧cat e++out B.reverse=s.txt∧e.length+wts B≤s.wt,?_,?_⟩
 ·refine⟨s.wt,[v],[.g s],[],none,rfl,Y,by rw[Ai t,upd_same],upd_same,.cons (hy.stay (Same_ts Y)) .nil,rfl,?_,?_⟩
  ·show Str.empty++(s.txt++Str.empty)=s.txt
   rw[Str.empty_append,Zbn]
  ·show 0+(s.wt+0)≤s.wt
   lia
 ·rintro m σ j ⟨n,B,e,v3,rfl,s2,J,e2,pr,rfl,M,U⟩
  have lx:=pr.length
  have lw:=He B
  refine⟨_,rfl,!n.isEmpty,.inl ⟨n,SqL.of J,rfl⟩,?_⟩
  by_cases S:n=[]
  ·-- the end
   subst S
   cases pr
   refine Cv ?_
   have O : cat e=s.txt:=by
    rw[← M]
    exact (Zbn _).symm
   have tl:=s.txt_le
   refine⟨rfl,_,rfl,("" : Str),r,e,rfl,rfl,SqL.of e2,?_,?_⟩
   ·rw[cat_len,O,show ((Str.ofString "").length)=0 from by decide +kernel]
    lia
   ·rw[show (Str.ofString "")=Str.empty from by decide +kernel,join_cat,O]
    exact q j s2
  ·have ac:1≤n.length:=by
    cases n with
    | nil=>exact absurd rfl S
    | cons _ _=>exact Zbm (Zt _)
   have he:(!n.isEmpty)=true:=by
    cases n with
    | nil=>exact absurd rfl S
    | cons _ _=>rfl
   rw[he]
   refine Eg ?_
   obtain⟨a,x,c,p,rfl,rfl,D,rp⟩:=psnoc_inv pr ac
   refine⟨_,fun _ _ h=>h,?_⟩
   refine⟨_,rfl,.inl ⟨rfl,_,SqL.of J⟩,d,_,x,rfl,rfl,J,last_of _ _,?_⟩
   rw[drop_of]
   have I:upd j d (.lst a) d=some (.lst a):=upd_same
   have G:upd j d (.lst a) r=some (.lst (e.map V.str)):=by rw[Ai t.symm];exact e2
   have s3:Bq H (upd j d (.lst a)):=Ci s2 y
   have u:=TuS.lst (o:=.lst a) J
   rw[wts_append] at lw U ⊢
   have X:out (c++[p]).reverse=p.txt++out c.reverse:=by
    rw[List.reverse_append]
    rfl
   rw[X] at M
   cases p with
   | s z =>
    cases (show x=V.str z from rp)
    have aa : e.length+(wts c+(1+0))≤s.wt:=U
    refine⟨_,rfl,_,rfl,.inl ⟨z,rfl,true,rfl,Eg ?_⟩⟩
    refine⟨_,rfl,.inl ⟨rfl,_,SqL.of G⟩,_,rfl,r,_,_,rfl,rfl,G,Bf (by rw[Zl];lia),?_⟩
    refine⟨wts c,(by show wts c<wts c+(1+0);lia),a,c,e++[z],_,rfl,Ci s3 ab,(by rw[Ai t];exact I),?_,Js (u.trans (TuS.lst G)) D,rfl,?_,?_⟩
    ·rw[Zac]
     exact upd_same
    ·rw[Id,← M,Zb2]
     show cat e++((z++Str.empty)++_)=_
     rw[Zbn]
     rfl
    ·rw[Zv]
     show e.length+1+wts c≤s.wt
     lia
   | g b =>
    have hb:Sy K j x b:=rp
    obtain⟨ax,ix,rfl,ad⟩:=hb.ref
    have aa : e.length+(wts c+(b.wt+0))≤s.wt:=U
    have wp:=wts_pcs b
    have wl:=He b.pcs
    refine⟨_,rfl,_,rfl,.inr ⟨ax,ix,rfl,u.sq ad,false,rfl,Cv ?_⟩⟩
    refine⟨_,rfl,.inl ⟨rfl,_,SqL.of I⟩,_,rfl,_,b,rfl,hb.stay u,fun l k N pw=>?_⟩
    have af:=pw.length
    refine⟨l,k,rfl,SqL.of upd_same,fun p L=>?_⟩
    have nl:d≠l:=Ae I N
    have Z:upd (upd j d (.lst a)) l (.lst k) d=some (.lst a):=by rw[Ai nl];exact I
    have e6:upd (upd (upd j d (.lst a)) l (.lst k)) p (.lst k.reverse) d=some (.lst a):=by rw[Ai (Ae Z L)];exact Z
    have f4:upd (upd j d (.lst a)) l (.lst k) r=some (.lst (e.map V.str)):=by rw[Ai (Ae G N)];exact G
    have f5:upd (upd (upd j d (.lst a)) l (.lst k)) p (.lst k.reverse) r=some (.lst (e.map V.str)):=by rw[Ai (Ae f4 L)];exact f4
    have ah:=D.length
    have ag:=He c
    refine⟨d,p,_,_,rfl,rfl,e6,upd_same,small (by rw[Zca];lia),?_⟩
    have R:=(TuS.new (o:=.lst k) N).trans ((TuS.new (o:=.lst k.reverse) L).trans (TuS.lst (o:=.lst (a++k.reverse)) e6))
    refine⟨wts c+wts b.pcs,(by show _<wts c+(b.wt+0);lia),a++k.reverse,c++b.pcs.reverse,e,_,rfl,Ci ((s3.trans (Aj N)).trans (Aj L)) y,upd_same,(by rw[Ai t.symm];exact f5),papp (Js (u.trans R) D) (Js R (prevs pw)),?_,?_,?_⟩
    ·rw[wts_append,Eh]
    ·rw[List.reverse_append,List.reverse_reverse,out_append,out_pcs]
     exact M
    ·rw[wts_append,Eh]
     lia
end
def WhO (K:PySem.W.Frag)(H:Hp)(v:V)(o:Option Sg):Prop:=match o with
 | none=>v = .non
 | some s=>Sy K H v s
def WaR (K:PySem.W.Frag)(H:Hp)(v:V)(f:Wt):Prop:=match f with
 | .neg=>∃ a,v = .ref a∧SqT K H a [.str "not"]
 | .sh=>∃ a,v = .ref a∧SqT K H a [.str "shown"]
 | .op=>∃ a,v = .ref a∧SqT K H a []
 | .jn j s=>∃ a u,v = .ref a∧SqT K H a [.str j.word,u]∧Sy K H u s
theorem WaR.stay {K:PySem.W.Frag}{H H' : Hp}(e:TuS H H'){v:V}{f:Wt}(h:WaR K H v f):WaR K H' v f:=by
 cases f with
 | neg=>obtain⟨a,r,h⟩:=h;exact⟨a,r,e.sq h⟩
 | sh=>obtain⟨a,r,h⟩:=h;exact⟨a,r,e.sq h⟩
 | op=>obtain⟨a,r,h⟩:=h;exact⟨a,r,e.sq h⟩
 | jn j s=>obtain⟨a,u,r,h,y⟩:=h;exact⟨a,u,r,e.sq h,y.stay e⟩
abbrev WaS (K:PySem.W.Frag) (H:Hp) (xs:List V) (W:List Wt):Prop:=Paired (WaR K H) xs W.reverse
theorem WaS.stay {K:PySem.W.Frag}{H H' : Hp}(e:TuS H H'){xs:List V}{W:List Wt}(h:WaS K H xs W):WaS K H' xs W:=Paired.imp' (fun _ _=>WaR.stay e) h
theorem WaS.len {K:PySem.W.Frag}{H:Hp}{xs:List V}{W:List Wt}(h:WaS K H xs W):xs.length=W.length:=by
 have:=Paired.length h
 rw[Zca] at this
 exact this
theorem WaS.top {K:PySem.W.Frag}{H:Hp}{xs:List V}{f:Wt}{W:List Wt}(h:WaS K H xs (f::W)):∃ xs' v,xs=xs'++[v]∧WaS K H xs' W∧WaR K H v f:=by
 have b:=WaS.len h
 obtain⟨xs',x,i,y,e,a,p,r⟩:=psnoc_inv h (by rw[b];exact Zbm (Zt _))
 rw[Zbd] at a
 obtain⟨d,g⟩:=List.append_inj' a rfl
 have c:f=y:=by injection g
 subst c
 subst d
 exact⟨xs',x,e,p,r⟩
theorem WaS.push {K:PySem.W.Frag}{H:Hp}{xs:List V}{v:V}{f:Wt}{W:List Wt}(h:WaS K H xs W)(r:WaR K H v f):WaS K H (xs++[v]) (f::W):=by
 show Paired _ _ (f::W).reverse
 rw[Zbd]
 exact Zc9 h r
theorem WaS.nil {K:PySem.W.Frag}{H:Hp}{xs:List V}(h:WaS K H xs []):xs=[]:=Zai (WaS.len h)
def Ei (l:Addr)(H H' : Hp):Prop:=∀ b o,b≠l→H b=some o→H' b=some o
theorem Ei.refl {l:Addr}{H:Hp}:Ei l H H:=fun _ _ _ e=>e
theorem Ei.trans {l:Addr}{H H1 H2:Hp}(a:Ei l H H1)(b:Ei l H1 H2):Ei l H H2:=fun c o n e=>b c o n (a c o n e)
theorem Ei.new {l t:Addr}{H H1:Hp}{o:HO}(a:Ei l H H1)(ht:H1 t=none):Ei l H (upd H1 t o):=fun c u n e=>by rw[Ai (Ae (a c u n e) ht)];exact a c u n e
theorem Ei.at {l:Addr}{H H1:Hp}{o:HO}(a:Ei l H H1):Ei l H (upd H1 l o):=fun c u n e=>by rw[Ai n];exact a c u n e
theorem Ei.same {l:Addr}{H H1 H' : Hp}(s:Bq H H1)(hl:H l=none)(a:Ei l H1 H'):Bq H H':=fun b o e=>a b o (Ae e hl) (s b o e)
inductive spDn (K:PySem.W.Frag) (vs:List V) (H:Hp) (Q:VK) (_:XK):Prop
 | mk (v:V) (l:Addr) (s:Sg) (xs:List V) (W:List Wt) (_:vs=[v,.ref l]) (_:Sy K H v s) (_:H l=some (.lst xs)) (_:WaS K H xs W) (_:∀ (v' : V) (H' : Hp) (xs' : List V),Ei l H H'→H' l=some (.lst xs')→Sy K H' v' (dn s W).1→WaS K H' xs' (dn s W).2→Q v' H')
inductive spBg (K:PySem.W.Frag) (vs:List V) (H:Hp) (Q:VK) (_:XK):Prop
 | mk (c:Nat) (k:Int) (l:Addr) (xs:List V) (W:List Wt) (st:RdSt) (_:vs=[.str ⟨#[c]⟩,.int k,.ref l]) (_:H l=some (.lst xs)) (_:WaS K H xs W) (_:xs.length≤50000) (_:Hx c W=some st) (_:∀ (v' : V) (H' : Hp) (xs' : List V),Ei l H H'→H' l=some (.lst xs')→WhO K H' v' st.1→WaS K H' xs' st.2→Q v' H')
inductive spGo (K:PySem.W.Frag) (vs:List V) (H:Hp) (Q:VK) (_:XK):Prop
 | mk (v:V) (s:Sg) (c:Nat) (k:Int) (l:Addr) (xs:List V) (W:List Wt) (st:RdSt) (_:vs=[v,.str ⟨#[c]⟩,.int k,.ref l]) (_:Sy K H v s) (_:H l=some (.lst xs)) (_:WaS K H xs W) (_:xs.length≤50000) (_:goOn c s W=some st) (_:∀ (v' : V) (H' : Hp) (xs' : List V),Ei l H H'→H' l=some (.lst xs')→WhO K H' v' st.1→WaS K H' xs' st.2→Q v' H')
inductive spRead (K:PySem.W.Frag) (vs:List V) (H:Hp) (Q:VK) (_:XK):Prop
 | mk (s:Sg) (_:vs=[.str s.txt]) (_:s.Wf) (_:s.wt≤50000) (_:∀ (v:V) (H' : Hp),Bq H H'→Sy K H' v s→Q v H')
def LtP (x:Str):Prop:=x = "p" ∨ x = "q" ∨ x = "r"
structure Txt6 (K:PySem.W.Frag) (pr:Params) (mg:Str→Option Value):Prop where
 le:∃ d,mg "LEAVES_texts" = some (.ref d)∧GD K pr d∧(d == sysModules)=false∧(∃ a,PySem.W.nsIn K d "0" = some (some (.ref a))∧TK K a [.str "no"])∧∀ x,LtP x→∃ a,PySem.W.nsIn K d x=some (some (.ref a))∧TK K a [.str "letter", .str x]
 bg:∃ d,mg "BEGINNINGS" = some (.ref d)∧GD K pr d∧(d == sysModules)=false∧(∃ a,PySem.W.nsIn K d "~" = some (some (.ref a))∧TK K a [.str "not"])∧(∃ a,PySem.W.nsIn K d "[" = some (some (.ref a))∧TK K a [.str "shown"]) ∧
  (∃ a,PySem.W.nsIn K d "(" = some (some (.ref a))∧TK K a [])∧PySem.W.nsIn K d "0" = some none∧∀ x,LtP x→PySem.W.nsIn K d x=some none
 jo:∃ d,mg "JOINS" = some (.ref d)∧GD K pr d∧(d == sysModules)=false∧∀ j:Jn,∃ t,PySem.W.nsIn K d j.sign=some (some (.str j.word t))
 enu:mg "enumerate" = none
 all:mg "all" = none
 tup:mg "tuple" = none
theorem ch126:(⟨#[126]⟩:Str) = "~" := by decide +kernel
theorem ch91:(⟨#[91]⟩:Str) = "[" := by decide +kernel
theorem ch93:(⟨#[93]⟩:Str) = "]" := by decide +kernel
theorem ch40:(⟨#[40]⟩:Str) = "(" := by decide +kernel
theorem ch41:(⟨#[41]⟩:Str) = ")" := by decide +kernel
theorem ch48:(⟨#[48]⟩:Str) = "0" := by decide +kernel
theorem ch112:(⟨#[112]⟩:Str) = "p" := by decide +kernel
theorem ch113:(⟨#[113]⟩:Str) = "q" := by decide +kernel
theorem ch114:(⟨#[114]⟩:Str) = "r" := by decide +kernel
theorem chJ {c:Nat}{j:Jn}(h:Iw c=some j):(⟨#[c]⟩:Str)=j.sign:=by
 unfold Iw at h
 split at h
 ·rename_i e
  cases h;subst e;decide +kernel
 ·split at h
  ·rename_i e
   cases h;subst e;decide +kernel
  ·split at h
   ·rename_i e
    cases h;subst e;decide +kernel
   ·cases h
theorem begin_cases {c:Nat}{W:List Wt}{st:RdSt}(h:Hx c W=some st):(c=126∧st=(none,.neg::W))∨(c=91∧st=(none,.sh::W))∨(c=40∧st=(none,.op::W))∨(c=48∧st=dn' .no W)∨∃ x,LtP x∧(⟨#[c]⟩:Str)=x∧st=dn' (.lt x) W:=by
 unfold Hx at h
 split at h
 ·rename_i e;exact .inl ⟨e,(Zm h).symm⟩
 ·split at h
  ·rename_i e;exact .inr (.inl ⟨e,(Zm h).symm⟩)
  ·split at h
   ·rename_i e;exact .inr (.inr (.inl ⟨e,(Zm h).symm⟩))
   ·split at h
    ·rename_i e;exact .inr (.inr (.inr (.inl ⟨e,(Zm h).symm⟩)))
    ·refine .inr (.inr (.inr (.inr ?_)))
     split at h
     ·rename_i e;subst e;exact⟨"p", .inl rfl,ch112,(Zm h).symm⟩
     ·split at h
      ·rename_i e;subst e;exact⟨"q", .inr (.inl rfl),ch113,(Zm h).symm⟩
      ·split at h
       ·rename_i e;subst e;exact⟨"r", .inr (.inr rfl),ch114,(Zm h).symm⟩
       ·cases h
theorem ne_snoc {α:Type}(xs:List α)(x:α):(!(xs++[x]).isEmpty)=true:=by cases xs <;> rfl
section
variable {P:Program} {w:World} {K:PySem.W.Frag} {mg:Str→Option Value} {base:Heap}
theorem e_nn:Fg [V.str "not"] [V.str "not"]=true:=by decide +kernel
theorem e_sn:Fg [V.str "shown"] [V.str "not"]=false:=by decide +kernel
theorem e_on:Fg [] [V.str "not"]=false:=rfl
theorem e_jn (j:Jn)(u:V):Fg [V.str j.word,u] [V.str "not"]=false:=by
 show (eqV (V.str j.word) (V.str "not") && false)=false
 rw[Bool.and_false]
theorem ok_dn {f:Addr}{fd:FuncData}(F:Fun K "denied" "denied" sDn f fd):FnOk P w K mg base CX0 1 f fd ["whole","waiting"] (spDn K):=by
 refine Bs F ["whole","waiting"] fun sc aa A X s0 H vs Q E hr h=>?_
 obtain⟨v,l,s,xs,W,rfl,Y,hl,hw,q⟩:=h
 have Z:=hr.units0
 refine⟨_,Ab (Dc Za0 (PW.pt (Ds (Bw (pv 1) (fun _=>rfl)) (Dg (Ao (op_eqT Z) (Ar Ax (pv 1) (Dl Cm Ad) (fun _ _=>rfl)) (Bg (Aa Aw Ac)) (Aq _)))))
   (Ab (Bj (Ib Zq Zch Zci mt_pop (pv 1))) (Ah (An (i:=0) sc.nd rfl (Or.inl rfl) (Bg (Aa Aw (Aa (pv 0) Ac)))))))
  (Ah (Ap (pv 0))),?_⟩
 refine⟨fun m σ d=>∃ (z:V) (y:Sg) (n:List V) (k:List Wt),σ=[some z,some (.ref l)]∧Ei l H d∧d l=some (.lst n)∧WaS K d n k∧Sy K d z y∧dn y k=dn s W∧m=k.length,⟨_,v,s,xs,W,rfl,Ei.refl,hl,hw,Y,rfl,rfl⟩,?_⟩
 rintro m σ d ⟨z,y,n,k,rfl,L,D,J,S,R,rfl⟩
 have e:∀ B:Hp,TuS d B→Ei l H B→B l=some (.lst n)→dn y k=(y,k)→Q z B:=fun B c C p dd=>by
  have O:dn s W=(y,k):=R.symm.trans dd
  refine q z B n C p ?_ ?_
  ·rw[O];exact S.stay c
  ·rw[O];exact WaS.stay c J
 cases k with
 | nil =>
  have ex:=WaS.nil J
  subst ex
  exact⟨_,rfl,false,.inl ⟨[],SqL.of D,rfl⟩,Cv (Cv ⟨_,rfl,e d (TuS.refl _) L D rfl⟩)⟩
 | cons g N =>
  obtain⟨r,T,rfl,w',rf⟩:=WaS.top J
  refine⟨_,rfl,true,.inl ⟨_,SqL.of D,(ne_snoc _ _).symm⟩,Eg ?_⟩
  refine⟨_,rfl,_,rfl,l,_,_,T,rfl,rfl,SqL.of D,Gp _ _,small (Za rfl),fun t ht=>?_⟩
  have c:=TuS.new (o:=.tup [.str "not"]) ht
  have C:Ei l H (upd d t (.tup [.str "not"])):=L.new ht
  have p:upd d t (.tup [.str "not"]) l=some (.lst (r++[T])):=by rw[Ai (Ae D ht)];exact D
  cases g with
  | neg =>
   obtain⟨a,rfl,x⟩:=rf
   refine⟨a,t,_,_,rfl,rfl,c.sq x,SqT.of upd_same,rfl,true,congrArg V.bl e_nn,Eg ⟨_,fun _ _ h=>h,?_⟩⟩
   refine⟨_,rfl,.inl ⟨rfl,_,SqL.of p⟩,l,_,_,rfl,rfl,p,last_of _ _,?_⟩
   rw[drop_of]
   have U:=c.trans (TuS.lst (o:=.lst r) p)
   refine⟨_,rfl,small (Za rfl),fun t2 G=>?_⟩
   have I:=U.trans (TuS.new (o:=.tup [.str "not", z]) G)
   have M:upd (upd d t (.tup [.str "not"])) l (.lst r) l=some (.lst r):=upd_same
   exact⟨N.length,Zbk _,.ref t2,.not y,r,N,rfl,(Ei.at C).new G,by rw[Ai (Ae M G)];exact M,WaS.stay I w',.not (SqT.of upd_same) (S.stay I),R,rfl⟩
  | sh =>
   obtain⟨a,rfl,x⟩:=rf
   exact⟨a,t,_,_,rfl,rfl,c.sq x,SqT.of upd_same,rfl,false,congrArg V.bl e_sn,Cv ⟨_,rfl,e _ c C p rfl⟩⟩
  | op =>
   obtain⟨a,rfl,x⟩:=rf
   exact⟨a,t,_,_,rfl,rfl,c.sq x,SqT.of upd_same,rfl,false,congrArg V.bl e_on,Cv ⟨_,rfl,e _ c C p rfl⟩⟩
  | jn j b =>
   obtain⟨a,u,rfl,x,_⟩:=rf
   exact⟨a,t,_,_,rfl,rfl,c.sq x,SqT.of upd_same,rfl,false,congrArg V.bl (e_jn j u),Cv ⟨_,rfl,e _ c C p rfl⟩⟩
theorem ok_bg {f:Addr}{fd:FuncData}(F:Fun K "begun" "begun" sBg f fd)(T:Txt6 K w.params mg)(GN:Df P w K mg base CX0 1 "denied" ["whole","waiting"] (spDn K)) :
  FnOk P w K mg base CX0 2 f fd ["sign","place","waiting"] (spBg K):=by
 obtain⟨n,D,u,S,l0,Z⟩:=T.le
 obtain⟨j,y,p,G,X,U,b3,N,Y⟩:=T.bg
 refine Bs F ["sign","place","waiting"] fun sc aa A M s0 H vs Q E hr h=>?_
 obtain⟨c,k,l,L,W,B,rfl,o,C,hz,hb,q⟩:=h
 have t:(∃ (g:Wt) (a:Addr),PySem.W.nsIn K j ⟨#[c]⟩=some (some (.ref a))∧(∀ b,WaR K b (.ref a) g)∧B=(none,g::W)) ∨
   (PySem.W.nsIn K j ⟨#[c]⟩=some none∧∃ (a:Addr) (s:Sg),PySem.W.nsIn K n ⟨#[c]⟩=some (some (.ref a))∧(∀ b,Sy K b (.ref a) s)∧B=dn' s W):=by
  rcases begin_cases hb with ⟨rfl,e⟩ | ⟨rfl,e⟩ | ⟨rfl,e⟩ | ⟨rfl,e⟩ | ⟨x,I,z,e⟩
  ·obtain⟨a,d,i⟩:=X
   exact .inl ⟨.neg,a,by rw[ch126];exact d,fun b=>⟨a,rfl,i.sq _⟩,e⟩
  ·obtain⟨a,d,i⟩:=U
   exact .inl ⟨.sh,a,by rw[ch91];exact d,fun b=>⟨a,rfl,i.sq _⟩,e⟩
  ·obtain⟨a,d,i⟩:=b3
   exact .inl ⟨.op,a,by rw[ch40];exact d,fun b=>⟨a,rfl,i.sq _⟩,e⟩
  ·obtain⟨a,d,i⟩:=l0
   exact .inr ⟨by rw[ch48];exact N,a,.no,by rw[ch48];exact d,fun b=>.no (i.sq _),e⟩
  ·obtain⟨a,d,i⟩:=Z x I
   exact .inr ⟨by rw[z];exact Y x I,a,.lt x,by rw[z];exact d,fun b=>.lt (i.sq _),e⟩
 refine⟨_,Ab (Bo (Ao Jj (pv 0) (Ch rfl y (v:=.ref j) rfl) rfl)
   (Ab (Bj (Cy Zq Zx Zy Ba (pv 2) (Aa (Ar Gj (Ch rfl y (v:=.ref j) rfl) (pv 0) (fun _ _=>rfl)) Ac))) (Ah (Ap Ed))) Av)
  (Ab (Bo (Ao Jj (pv 0) (Ch rfl D (v:=.ref n) rfl) rfl)
   (Ah (Ap (Ak GN hr A6 (Aa (Ar Gj (Ch rfl D (v:=.ref n) rfl) (pv 0) (fun _ _=>rfl)) (Aa (pv 2) Ac))))) Av)
  (Ah Gm)),?_⟩
 rcases t with ⟨g,a,m,r,rfl⟩ | ⟨R,a,s1,m,r,rfl⟩
 ·refine⟨_,rfl,j,_,_,rfl,rfl,p,G,m,true,rfl,Eg ?_⟩
  refine⟨_,rfl,.inl ⟨rfl,_,SqL.of o⟩,_,rfl,j,_,.ref a,_,rfl,rfl,p,m,rfl,l,_,_,rfl,rfl,o,Bf (by lia),?_⟩
  exact q .non _ (L++[.ref a]) (Ei.at Ei.refl) upd_same rfl ((WaS.stay (TuS.lst o) C).push (r _))
 ·refine⟨_,rfl,j,_,_,rfl,rfl,p,G,R,false,rfl,Cv ?_⟩
  refine⟨_,rfl,n,_,_,rfl,rfl,u,S,m,true,rfl,Eg ?_⟩
  refine⟨_,rfl,n,_,.ref a,_,rfl,rfl,u,m,rfl,_,rfl,_,l,s1,L,W,rfl,r _,o,C,fun O b J b' V y' w'=>?_⟩
  exact q O b J b' V y' w'
theorem f_ss:Fg [V.str "shown"] [V.str "shown"]=true:=by decide +kernel
theorem f_js (j:Jn)(u:V):Fg [V.str j.word,u] [V.str "shown"]=false:=by
 show (eqV (V.str j.word) (V.str "shown") && false)=false
 rw[Bool.and_false]
theorem ok_go {f:Addr}{fd:FuncData}(F:Fun K "gone_on" "gone_on" sGo f fd)(T:Txt K w.params mg)(T6:Txt6 K w.params mg)(GN:Df P w K mg base CX0 1 "denied" ["whole","waiting"] (spDn K)) :
  FnOk P w K mg base CX0 2 f fd ["whole","sign","place","waiting"] (spGo K):=by
 obtain⟨L,mJ,gJ,oJ,jx⟩:=T6.jo
 refine Bs F ["whole","sign","place","waiting","outer"] fun sc ac A ab s0 H vs Q E hr h=>?_
 obtain⟨v,s,c,k,l,xs,W,st,rfl,hy,Y,hw,hz,U,q⟩:=h
 have hu:=hr.units0
 refine⟨_,Ab (Bo (Er (Bw (pv 3) (fun _=>rfl))) (Ah Gm) Av)
  (Ab (An (i:=4) sc.nd rfl (Or.inl rfl) (Ib Zq Zch Zci mt_pop (pv 3)))
  (Ab (Bo (PW.pt (Ds (Ao (op_eqT hu) (pv 4) (Bg Ac) (Aq _)) (Dg (Ao Jj (pv 1) (Ch rfl mJ (v:=.ref L) rfl) rfl))))
   (Ab (Bj (Cy Zq Zx Zy Ba (pv 3) (Aa (Bg (Aa (Ar Gj (Ch rfl mJ (v:=.ref L) rfl) (pv 1) (fun _ _=>rfl)) (Aa (pv 0) Ac))) Ac))) (Ah (Ap Ed))) Av)
  (Ab (Bo (PW.pt (Ds (Ao (op_eqT hu) (pv 4) (Bg (Aa Aw Ac)) (Aq _)) (Dg (Ao Cw (pv 1) Aw (Aq _)))))
   (Ah (Ap (Ak GN hr A6 (Aa (Bg (Aa Aw (Aa (pv 0) Ac))) (Aa (pv 3) Ac))))) Av)
  (Ab (Bo (PW.pt (Ds (Ao Cw (A3 A0 (by rfl) T.len Zax (Aa (pv 4) Ac)) Ad (Aq _)) (Dg (Ao Cw (pv 1) Aw (Aq _)))))
   (Ah (Ap (Ak GN hr A6 (Aa (Au op_catT (pv 4) (Bg (Aa (pv 0) Ac))) (Aa (pv 3) Ac))))) Av)
  (Ah Gm))))),?_⟩
 cases W with
 | nil=>cases U
 | cons g S =>
  obtain⟨d,vf,rfl,w',rf⟩:=WaS.top hw
  refine⟨_,rfl,true,.inl ⟨_,SqL.of Y,(ne_snoc _ _).symm⟩,Cv ?_⟩
  refine⟨_,rfl,.inl ⟨rfl,_,SqL.of Y⟩,l,_,vf,rfl,rfl,Y,last_of _ _,?_⟩
  rw[drop_of]
  have aa:=TuS.lst (o:=.lst d) Y
  have e1:upd H l (.lst d) l=some (.lst d):=upd_same
  have b1:Ei l H (upd H l (.lst d)):=Ei.at Ei.refl
  have lx:(d++[vf]).length=d.length+1:=by rw[Zv];rfl
  refine⟨_,rfl,small (Za rfl),fun x O=>?_⟩
  have y:=aa.trans (TuS.new (o:=.tup []) O)
  have G:upd (upd H l (.lst d)) x (.tup []) l=some (.lst d):=by rw[Ai (Ae e1 O)];exact e1
  have b2:Ei l H (upd (upd H l (.lst d)) x (.tup [])):=b1.new O
  cases g with
  | neg=>cases U
  | op =>
   obtain⟨a,rfl,C⟩:=rf
   obtain⟨j,ej,rfl⟩:=Zbw.mp (show (Iw c).map (fun j=>((none,.jn j s::S):RdSt))=some st from U)
   obtain⟨tk,nj⟩:=jx j
   have Z : PySem.W.nsIn K L ⟨#[c]⟩=some (some (.str j.word tk)):=by rw[chJ ej];exact nj
   refine⟨a,x,_,_,rfl,rfl,y.sq C,SqT.of upd_same,rfl,true,rfl,Eg ?_⟩
   refine⟨_,rfl,L,_,_,rfl,rfl,gJ,oJ,Z,true,rfl,Eg ?_⟩
   refine⟨_,rfl,.inl ⟨rfl,_,SqL.of G⟩,_,rfl,L,_,.str j.word,_,rfl,rfl,gJ,Z,⟨tk,rfl⟩,_,rfl,small (Za rfl),fun r m=>?_⟩
   have B:upd (upd (upd H l (.lst d)) x (.tup [])) r (.tup [.str j.word,v]) l=some (.lst d):=by rw[Ai (Ae G m)];exact G
   refine⟨l,_,_,rfl,rfl,B,Bf (by lia),?_⟩
   have p:=(y.trans (TuS.new (o:=.tup [.str j.word,v]) m)).trans (TuS.lst (o:=.lst (d++[.ref r])) B)
   refine q .non _ (d++[.ref r]) (Ei.at (b2.new m)) upd_same rfl ((WaS.stay p w').push ⟨r,v,rfl,(TuS.lst B).sq (SqT.of upd_same),hy.stay p⟩)
  | sh =>
   obtain⟨a,rfl,C⟩:=rf
   have n : (if c=93 then some (dn' (.shown s) S) else none)=some st:=U
   have hc:c=93:=by
    by_cases e:c=93
    ·exact e
    ·rw[Zs e] at n;cases n
   subst hc
   rw[Zw rfl] at n
   cases n
   refine⟨a,x,_,_,rfl,rfl,y.sq C,SqT.of upd_same,rfl,false,rfl,Cv (Cv ?_)⟩
   refine⟨_,rfl,small (Za rfl),fun r m=>?_⟩
   have p:=y.trans (TuS.new (o:=.tup [.str "shown"]) m)
   have B:upd (upd (upd H l (.lst d)) x (.tup [])) r (.tup [.str "shown"]) l=some (.lst d):=by rw[Ai (Ae G m)];exact G
   have b3:=b2.new (o:=.tup [.str "shown"]) m
   refine⟨a,r,_,_,rfl,rfl,p.sq C,SqT.of upd_same,rfl,true,congrArg V.bl f_ss,Eg ?_⟩
   refine⟨_,rfl,rfl,_,rfl,ifT (congrArg V.str ch93) ?_⟩
   refine⟨_,rfl,small (Za rfl),fun I t=>?_⟩
   have D:=p.trans (TuS.new (o:=.tup [.str "shown", v]) t)
   have X:upd (upd (upd (upd H l (.lst d)) x (.tup [])) r (.tup [.str "shown"])) I (.tup [.str "shown", v]) l=some (.lst d):=by rw[Ai (Ae B t)];exact B
   have b4:=b3.new (o:=.tup [.str "shown", v]) t
   exact⟨_,rfl,.ref I,l,.shown s,d,S,rfl,.shown (SqT.of upd_same) (hy.stay D),X,WaS.stay D w',fun v' H' R b' e' y' N=>q v' H' R (b4.trans b') e' y' N⟩
  | jn j b =>
   obtain⟨a,u,rfl,C,yb⟩:=rf
   have n : (if c=41 then some (dn' (.bin j b s) S) else none)=some st:=U
   have hc:c=41:=by
    by_cases e:c=41
    ·exact e
    ·rw[Zs e] at n;cases n
   subst hc
   rw[Zw rfl] at n
   cases n
   refine⟨a,x,_,_,rfl,rfl,y.sq C,SqT.of upd_same,rfl,false,rfl,Cv (Cv ?_)⟩
   refine⟨_,rfl,small (Za rfl),fun r m=>?_⟩
   have p:=y.trans (TuS.new (o:=.tup [.str "shown"]) m)
   have B:upd (upd (upd H l (.lst d)) x (.tup [])) r (.tup [.str "shown"]) l=some (.lst d):=by rw[Ai (Ae G m)];exact G
   have b3:=b2.new (o:=.tup [.str "shown"]) m
   refine⟨a,r,_,_,rfl,rfl,p.sq C,SqT.of upd_same,rfl,false,congrArg V.bl (f_js j u),Cv (Cv ?_)⟩
   refine⟨_,rfl,a,_,rfl,.inr (p.sq C),rfl,_,rfl,ifT rfl ?_⟩
   refine⟨_,rfl,rfl,_,rfl,ifT (congrArg V.str ch41) ?_⟩
   refine⟨_,rfl,_,rfl,small (Za rfl),fun I t=>?_⟩
   have D:=p.trans (TuS.new (o:=.tup [v]) t)
   have X:upd (upd (upd (upd H l (.lst d)) x (.tup [])) r (.tup [.str "shown"])) I (.tup [v]) l=some (.lst d):=by rw[Ai (Ae B t)];exact B
   have b4:=b3.new (o:=.tup [v]) t
   refine⟨a,I,_,_,rfl,rfl,D.sq C,SqT.of upd_same,(by simp),small (Za rfl),(fun z=>by cases z),fun _ t4 M=>?_⟩
   have J:=D.trans (TuS.new (o:=.tup [.str j.word,u,v]) M)
   have e5:upd (upd (upd (upd (upd H l (.lst d)) x (.tup [])) r (.tup [.str "shown"])) I (.tup [v])) t4 (.tup [.str j.word,u,v]) l=some (.lst d):=by rw[Ai (Ae X M)];exact X
   have b5:=b4.new (o:=.tup [.str j.word,u,v]) M
   exact⟨_,rfl,.ref t4,l,.bin j b s,d,S,rfl,.bin (SqT.of upd_same) (yb.stay J) (hy.stay J),e5,WaS.stay J w',fun v' H' R b' e' y' N=>q v' H' R (b5.trans b') e' y' N⟩
end
theorem drop_at {α:Type}{l:List α}{i:Nat}{c:α}(h:l[i]?=some c):l.drop i=c::l.drop (i+1):=by
 obtain⟨a,e⟩:=Zj.mp h
 rw[List.drop_eq_getElem_cons a,e]
section
variable {P:Program} {w:World} {K:PySem.W.Frag} {mg:Str→Option Value} {base:Heap}
theorem ok_re {f:Addr}{fd:FuncData}(F:Fun K "read" "read" sRe f fd)(T6:Txt6 K w.params mg)(GB:Df P w K mg base CX0 2 "begun" ["sign","place","waiting"] (spBg K))(GG:Df P w K mg base CX0 2 "gone_on" ["whole","sign","place","waiting"] (spGo K)) :
  FnOk P w K mg base CX0 3 f fd ["text"] (spRead K):=by
 refine Bs F ["text","waiting","whole","place","sign"] fun n ab A aa s0 H vs Q E Z h=>?_
 obtain⟨s,rfl,hf,hw,q⟩:=h
 refine⟨_,Ab (An (i:=1) n.nd rfl (Or.inl rfl) (Bp Ac))
  (Ab (An (i:=2) n.nd rfl (Or.inl rfl) Ed)
  (Ab (Fu Za0 rfl (pi_enum rfl T6.enu (Aa (pv 0) Ac)) (Hy rfl (Br (Bn (i:=3) n.nd rfl (Or.inl rfl)) (Br (Bn (i:=4) n.nd rfl (Or.inl rfl)) Fm)))
   (Ah (Bo (Ao op_isN (pv 2) Ed (Aq _))
    (Ah (An (i:=2) n.nd rfl (Or.inl rfl) (Ak GB Z A6 (Aa (pv 4) (Aa (pv 3) (Aa (pv 1) Ac))))))
    (Ah (An (i:=2) n.nd rfl (Or.inl rfl) (Ak GG Z A6 (Aa (pv 2) (Aa (pv 4) (Aa (pv 3) (Aa (pv 1) Ac))))))))))
  (Ab (Bo (PW.pt (Jf (Ao op_isN (pv 2) Ed (Aq _)) (Il (Bw (pv 1) (fun _=>rfl))))) (Ah Gm) Av)
  (Ah (Ap (pv 2)))))),?_⟩
 refine⟨small (Za rfl),fun l M=>?_⟩
 have tl:=s.txt_le
 have sz:s.txt.cps.size=s.txt.length:=rfl
 refine⟨_,rfl,s.txt,rfl,for_enum (fun i σ b=>∃ (k:V) (D O:Option V) (j:RdSt) (e:List V),σ=[some (.str s.txt),some (.ref l),some k,D,O]∧Bq H b∧b l=some (.lst e)∧WhO K b k j.1∧WaS K b e j.2 ∧
  run (s.txt.cps.toList.drop i) j=some (some s,[])∧e.length≤i) ?_ ?_ ?_⟩
 ·exact⟨.non,none,none,(none,[]),[],rfl,Aj M,upd_same,rfl,Paired.nil,run_whole s hf,Zd _⟩
 ·rintro i c t σ b S ht ⟨k,D,O,j,e,rfl,L,B,y,r,d,hx⟩
  have hi:i<s.txt.cps.size:=(Array.getElem?_eq_some_iff.mp S).1
  have Y:s.txt.cps.toList[i]?=some c:=by rw[Zaj];exact S
  rw[drop_at Y] at d
  obtain⟨g,u,m⟩:=Option.bind_eq_some_iff.mp (show (step c j).bind (run (s.txt.cps.toList.drop (i+1)))=some (some s,[]) from d)
  have p:=step_len u
  have C:=WaS.len r
  have I:=TuS.new (o:=.tup [.int (i:Int),.str ⟨#[c]⟩]) ht
  have X:upd b t (.tup [.int (i:Int),.str ⟨#[c]⟩]) l=some (.lst e):=by rw[Ai (Ae B ht)];exact B
  have s3:Bq H (upd b t (.tup [.int (i:Int),.str ⟨#[c]⟩])):=L.trans (Aj ht)
  refine⟨t,_,rfl,SqT.of upd_same,rfl,_,_,rfl,_,_,rfl,rfl,?_⟩
  obtain⟨o,W⟩:=j
  cases o with
  | none =>
   cases (show k = .non from y)
   refine⟨_,rfl,rfl,_,rfl,ifT rfl ?_⟩
   refine⟨_,rfl,_,rfl,_,rfl,c,_,l,e,W,g,rfl,X,WaS.stay I r,by lia,u,fun G H' x N J R v=>?_⟩
   have U:=WaS.len v
   exact⟨G,_,_,g,x,rfl,Ei.same s3 M N,J,R,v,m,by have h1:e.length=W.length:=C;have h2:g.2.length≤W.length+1:=p;lia⟩
  | some a =>
   have wy:Sy K b k a:=y
   obtain⟨a2,ix,rfl,T⟩:=wy.ref
   refine⟨_,rfl,rfl,_,rfl,ifF (fun z=>by cases z) ?_⟩
   refine⟨_,rfl,_,rfl,_,rfl,_,rfl,_,a,c,_,l,e,W,g,rfl,wy.stay I,X,WaS.stay I r,by lia,u,fun G H' x N J R v=>?_⟩
   have U:=WaS.len v
   exact⟨G,_,_,g,x,rfl,Ei.same s3 M N,J,R,v,m,by have h1:e.length=W.length:=C;have h2:g.2.length≤W.length+1:=p;lia⟩
 ·rintro σ b ⟨k,D,O,j,e,rfl,L,B,y,r,d,hx⟩
  rw[List.drop_of_length_le (by rw[Zad];exact Zd _)] at d
  cases (show j=(some s,[]) from Zm d)
  have ex:=WaS.nil r
  subst ex
  have wy:Sy K b k s:=y
  obtain⟨a2,ix,rfl,T⟩:=wy.ref
  refine⟨_,rfl,rfl,_,rfl,ifF (fun z=>by cases z) ?_⟩
  refine⟨_,rfl,false,.inl ⟨[],SqL.of B,rfl⟩,Cv ?_⟩
  exact⟨_,rfl,q _ b L wy⟩
end
def pq (i:Int):Str:=if i=0 then "p" else if i=1 then "q" else "r"
theorem pq_wf (i:Int):Sg.Wf (.lt (pq i)):=by
 unfold pq
 split
 ·exact .inl rfl
 ·split
  ·exact .inr (.inl rfl)
  ·exact .inr (.inr rfl)
theorem pq_len (i:Int):(pq i).length=1:=by
 unfold pq
 split
 ·decide +kernel
 ·split <;> decide +kernel
theorem pq_ix {i:Int}(h0:0≤i)(h1:i<3):∃ c,atI ("pqr" : Str).cps.toList i=some c∧(⟨#[c]⟩:Str)=pq i:=by
 have e:i=0∨i=1∨i=2:=by lia
 rcases e with rfl | rfl | rfl
 ·exact⟨112,by decide +kernel,by decide +kernel⟩
 ·exact⟨113,by decide +kernel,by decide +kernel⟩
 ·exact⟨114,by decide +kernel,by decide +kernel⟩
def stp (k:Int)(x:Str)(s:Sg):Sg:=if k=0 then .not s else if k=1 then .shown s else if k=2 then .bin .and s (.lt x) else if k=3 then .bin .or (.lt x) s else if k=4 then .bin .if_ s (.lt x) else .bin .if_ (.lt x) s
inductive spWhl (vs:List V) (H:Hp) (Q:VK) (_:XK):Prop
 | mk (i:Int) (_:vs=[.int i]) (_:Q (.bl true) H)
inductive spNm (K:PySem.W.Frag) (vs:List V) (H:Hp) (Q:VK) (_:XK):Prop
 | mk (a:Addr) (ns:List Int) (k:Int) (_:vs=[.ref a,.int k]) (_:SqL K H a (ns.map V.int)) (_:0≤k) (_:∀ z:Int,Q (.int z) H)
inductive spStp (vs:List V) (H:Hp) (Q:VK) (_:XK):Prop
 | mk (v:V) (s:Sg) (n:Int) (_:vs=[v,.str s.txt,.int n]) (_:SyO H v s) (_:s.txt.length≤1000) (_:∀ (t:Addr) (v' : V) (H' : Hp),Bq H H'→H' t=some (.tup [v',.str (stp (n % 6) (pq (n / 6 % 3)) s).txt])→SyO H' v' (stp (n % 6) (pq (n / 6 % 3)) s)→Q (.ref t) H')
section
variable {P:Program} {w:World} {K:PySem.W.Frag} {mg:Str→Option Value} {base:Heap}
theorem ok_wh {f:Addr}{fd:FuncData}(F:Fun K "_law_whole" "_law_whole" sWh f fd)(T:Txt K w.params mg)  :
  FnOk P w K mg base CX0 1 f fd ["_law_found"] spWhl:=by
 refine Bs F ["_law_found"] fun e b A a g H c Q E d h=>?_
 obtain⟨i,rfl,q⟩:=h
 refine⟨_,Ah (Ap (pe_and (A3 Ii (by rfl) T.isi Za9 (Aa (pv 0) (Aa (Fe (by rfl) T.int Zdb (v:=.ty "int") rfl) Ac))) (Ih (pe_not (A3 Ii (by rfl) T.isi Za9 (Aa (pv 0) (Aa (Fe (by rfl) T.bool PyProof.Rows.boot_bool (v:=.ty "bool") rfl) Ac))))))),?_⟩
 try dsimp only [Di,Cx.nox,Cx.wish]
 exact⟨_,rfl,i, "int", rfl,.inl ⟨rfl,true,rfl,Eg ⟨_,rfl,i, "bool", rfl,.inr ⟨rfl,false,rfl,q⟩⟩⟩⟩
theorem ok_nm {f:Addr}{fd:FuncData}(F:Fun K "_law_number" "_law_number" sNm f fd)(T:Txt K w.params mg)(GM:Df P w K mg base CX0 2 "_law_mixed" ["_law_script","_law_k"] (spMx K)) :
  FnOk P w K mg base CX0 3 f fd ["_law_script","_law_k"] (spNm K):=by
 refine Bs F ["_law_script","_law_k"] fun n m A d r H o Q E l h=>?_
 obtain⟨a,c,k,rfl,b,p,q⟩:=h
 refine⟨_,Ab (Bo (Ao Jt (Au Ca Ad (pv 1)) (A3 A0 (by rfl) T.len Zax (Aa (pv 0) Ac)) (Aq _))
  (Ah (Ap (Ar Ax (pv 0) (Au Ca Ad (pv 1)) (fun _ _=>rfl))))
  Av)
  (Ah (Ap (Ak GM l A6 (Aa (pv 0) (Aa (pv 1) Ac))))),?_⟩
 try dsimp only [Di,Cx.nox,Cx.wish]
 refine⟨_,rfl,_,_,rfl,rfl,_,rfl,a,_,rfl,.inl b,_,_,rfl,rfl,_,rfl,Gv (fun e=>?_) (fun _=>?_)⟩
 ·have g:2+k<((c.map V.int).length:Int):=Zaf e
  obtain⟨v,i,j⟩:=atI_lt (show 0≤2+k by lia) g
  obtain⟨z,_,rfl⟩:=Zar.mp j
  exact⟨_,rfl,_,rfl,_,_,rfl,rfl,a,_,_,_,rfl,rfl,b,i,q z⟩
 ·exact⟨_,rfl,_,rfl,a,c,k,rfl,b,fun z _=>q z⟩
theorem ok_stp {f:Addr}{fd:FuncData}(F:Fun K "_law_step" "_law_step" sStp f fd)(T:Txt K w.params mg)  :
  FnOk P w K mg base CX0 1 f fd ["_law_saying","_law_text","_law_number_here"] spStp:=by
 refine Bs F ["_law_saying","_law_text","_law_number_here","_law_letter","_law_other"] fun O aa A W s0 H vs Q E hr h=>?_
 obtain⟨v,s,n,rfl,hy,hx,q⟩:=h
 refine⟨_,Ab (An (i:=3) O.nd rfl (Or.inl rfl) (Ar ix_str Aw (Au B9 (Au Fo (pv 2) Ad) Ad) (fun _ _=>rfl)))
  (Ab (An (i:=4) O.nd rfl (Or.inl rfl) (Bg (Aa Aw (Aa (pv 3) Ac))))
  (Ab (Bo (Ao Cw (Au B9 (pv 2) Ad) Ad (Aq _))
  (Ah (Ap (Bg (Aa (Bg (Aa Aw (Aa (pv 0) Ac))) (Aa (Au A7 Aw (pv 1)) Ac)))))
  Av)
  (Ab (Bo (Ao Cw (Au B9 (pv 2) Ad) Ad (Aq _))
  (Ah (Ap (Bg (Aa (Bg (Aa Aw (Aa (pv 0) Ac))) (Aa (Au A7 (Au A7 Aw (pv 1)) Aw) Ac)))))
  Av)
  (Ab (Bo (Ao Cw (Au B9 (pv 2) Ad) Ad (Aq _))
  (Ah (Ap (Bg (Aa (Bg (Aa Aw (Aa (pv 0) (Aa (pv 4) Ac)))) (Aa (Au A7 (Au A7 (Au A7 (Au A7 Aw (pv 1)) Aw) (pv 3)) Aw) Ac)))))
  Av)
  (Ab (Bo (Ao Cw (Au B9 (pv 2) Ad) Ad (Aq _))
  (Ah (Ap (Bg (Aa (Bg (Aa Aw (Aa (pv 4) (Aa (pv 0) Ac)))) (Aa (Au A7 (Au A7 (Au A7 (Au A7 Aw (pv 3)) Aw) (pv 1)) Aw) Ac)))))
  Av)
  (Ab (Bo (Ao Cw (Au B9 (pv 2) Ad) Ad (Aq _))
  (Ah (Ap (Bg (Aa (Bg (Aa Aw (Aa (pv 0) (Aa (pv 4) Ac)))) (Aa (Au A7 (Au A7 (Au A7 (Au A7 Aw (pv 1)) Aw) (pv 3)) Aw) Ac)))))
  Av)
  (Ah (Ap (Bg (Aa (Bg (Aa Aw (Aa (pv 4) (Aa (pv 0) Ac)))) (Aa (Au A7 (Au A7 (Au A7 (Au A7 Aw (pv 3)) Aw) (pv 1)) Aw) Ac))))))))))),?_⟩
 try dsimp only [Di,Cx.nox,Cx.wish]
 have k0:0≤n / 6 % 3:=Zct _ (by decide)
 have k1:n / 6 % 3<3:=Zc7 _ (by decide)
 obtain⟨c,Y,R⟩:=pq_ix k0 k1
 have hl:=pq_len (n / 6 % 3)
 generalize hL:pq (n / 6 % 3)=x at R hl q
 refine⟨_,rfl,_,_,rfl,rfl,⟨by decide,by decide⟩,_,_,rfl,rfl,(by decide:(0:Int)<3),_,_,c,rfl,rfl,small (by decide +kernel),Y,?_⟩
 rw[R]
 refine⟨_,rfl,small (Za rfl),fun J N=>?_⟩
 have L:=Aj (o:=.tup [.str "letter", .str x]) N
 have p:SyO (upd H J (.tup [.str "letter", .str x])) (.ref J) (.lt x):=.lt (Fz.of upd_same)
 have m:=hy.stay (Al L)
 generalize upd H J (.tup [.str "letter", .str x])=D at L p m
 have k:∀ a b:Str,(a++b).length=a.length+b.length:=fun a b=>Zan a b
 have c1:("~" : Str).length=1:=by decide +kernel
 have c2:("[" : Str).length=1:=by decide +kernel
 have c3:("]" : Str).length=1:=by decide +kernel
 have c4:("(" : Str).length=1:=by decide +kernel
 have c5:(")" : Str).length=1:=by decide +kernel
 have c6:("&" : Str).length=1:=by decide +kernel
 have c7:("|" : Str).length=1:=by decide +kernel
 have c8:(">" : Str).length=1:=by decide +kernel
 have as:=Zb2
 have fin:∀ (C : Sg) (l:Addr) (I:List V) (y:Str),D l=none→SyO (upd D l (.tup I)) (.ref l) C→C=stp (n % 6) x s→y=C.txt→∀ t,upd D l (.tup I) t=none→Q (.ref t) (upd (upd D l (.tup I)) t (.tup [.ref l,.str y])):=fun C l I y X Z h3 h4 t U=>by
  subst h3 h4
  exact q t (.ref l) _ ((L.trans (Aj X)).trans (Aj U)) upd_same (Z.stay (TuO.new U))
 have r:∀ {d:Int},decide (V.int (n % 6)=V.int d)=true→n % 6=d:=fun h=>by
  have:=Zaf h
  injection this
 have u:∀ {d:Int},¬ decide (V.int (n % 6)=V.int d)=true→¬ n % 6=d:=fun h z=>h (by rw[z];exact Z2 rfl)
 refine⟨_,rfl,_,_,rfl,rfl,(by decide:(0:Int)<6),rfl,_,rfl,Gv (fun h=>?_) (fun h=>?_)⟩
 ·have e:=r h
  exact⟨_,rfl,small (Za rfl),fun l g=>⟨_,rfl,_,_,rfl,rfl,small (by lia),small (Za rfl),fin (.not s) l _ _ g (.not (Fz.of upd_same) (m.stay (TuO.new g))) (by unfold stp;rw[Zw e]) rfl⟩⟩
 have B:=u h
 refine⟨_,rfl,_,_,rfl,rfl,(by decide:(0:Int)<6),rfl,_,rfl,Gv (fun h=>?_) (fun h=>?_)⟩
 ·have e:=r h
  refine⟨_,rfl,small (Za rfl),fun l g=>⟨_,rfl,_,_,rfl,rfl,small (by lia),_,_,rfl,rfl,small (by rw[k];lia),small (Za rfl),fin (.shown s) l _ _ g (.shown (Fz.of upd_same) (m.stay (TuO.new g))) (by unfold stp;rw[Zs B,Zw e]) rfl⟩⟩
 have G:=u h
 refine⟨_,rfl,_,_,rfl,rfl,(by decide:(0:Int)<6),rfl,_,rfl,Gv (fun h=>?_) (fun h=>?_)⟩
 ·have e:=r h
  exact⟨_,rfl,_,rfl,small (Za rfl),fun l g=>⟨_,rfl,_,_,rfl,rfl,small (by lia),_,_,rfl,rfl,small (by rw[k];lia),_,rfl,_,_,rfl,rfl,small (by rw[k,k];lia),_,_,rfl,rfl,small (by rw[k,k,k];lia),small (Za rfl),fin (.bin .and s (.lt x)) l _ _ g (.bin (j:=.and) (Fz.of upd_same) (m.stay (TuO.new g)) (p.stay (TuO.new g))) (by unfold stp;rw[Zs B,Zs G,Zw e]) rfl⟩⟩
 have M:=u h
 refine⟨_,rfl,_,_,rfl,rfl,(by decide:(0:Int)<6),rfl,_,rfl,Gv (fun h=>?_) (fun h=>?_)⟩
 ·have e:=r h
  exact⟨_,rfl,_,rfl,small (Za rfl),fun l g=>⟨_,rfl,_,_,rfl,rfl,small (by lia),_,_,rfl,rfl,small (by rw[k];lia),_,rfl,_,_,rfl,rfl,small (by rw[k,k];lia),_,_,rfl,rfl,small (by rw[k,k,k];lia),small (Za rfl),fin (.bin .or (.lt x) s) l _ _ g (.bin (j:=.or) (Fz.of upd_same) (p.stay (TuO.new g)) (m.stay (TuO.new g))) (by unfold stp;rw[Zs B,Zs G,Zs M,Zw e]) rfl⟩⟩
 have S:=u h
 refine⟨_,rfl,_,_,rfl,rfl,(by decide:(0:Int)<6),rfl,_,rfl,Gv (fun h=>?_) (fun h=>?_)⟩
 ·have e:=r h
  exact⟨_,rfl,_,rfl,small (Za rfl),fun l g=>⟨_,rfl,_,_,rfl,rfl,small (by lia),_,_,rfl,rfl,small (by rw[k];lia),_,rfl,_,_,rfl,rfl,small (by rw[k,k];lia),_,_,rfl,rfl,small (by rw[k,k,k];lia),small (Za rfl),fin (.bin .if_ s (.lt x)) l _ _ g (.bin (j:=.if_) (Fz.of upd_same) (m.stay (TuO.new g)) (p.stay (TuO.new g))) (by unfold stp;rw[Zs B,Zs G,Zs M,Zs S,Zw e]) rfl⟩⟩
 have g4:=u h
 exact⟨_,rfl,_,rfl,small (Za rfl),fun l g=>⟨_,rfl,_,_,rfl,rfl,small (by lia),_,_,rfl,rfl,small (by rw[k];lia),_,rfl,_,_,rfl,rfl,small (by rw[k,k];lia),_,_,rfl,rfl,small (by rw[k,k,k];lia),small (Za rfl),fin (.bin .if_ (.lt x) s) l _ _ g (.bin (j:=.if_) (Fz.of upd_same) (p.stay (TuO.new g)) (m.stay (TuO.new g))) (by unfold stp;rw[Zs B,Zs G,Zs M,Zs S,Zs g4]) rfl⟩⟩
end
end
end My
namespace My
noncomputable section
open PySem PySem.W PyProof.Rows
section
variable {f:Nat→Nat→Bool} {n:Nat}
def rvi (a b k:Nat):Nat:=if a≤k∧k<b then a+b - 1 - k else k
theorem rin {a b k:Nat}(h1:a≤k)(h2:k<b):a≤a+b - 1 - k∧a+b - 1 - k<b:=by lia
theorem rvi_in {a b k:Nat}(h1:a≤k)(h2:k<b):a≤rvi a b k∧rvi a b k<b:=by
 have e:rvi a b k=a+b - 1 - k:=Zw ⟨h1,h2⟩
 rw[e]
 exact rin h1 h2
theorem rvi_or {a b m i j:Nat}(hb:b≤m)(hij:i<j)(hj:j<m):(rvi a b i<rvi a b j∧rvi a b j<m)∨(a≤rvi a b i∧rvi a b i<b∧a≤rvi a b j∧rvi a b j<b):=by
 by_cases d:a≤i
 ·have n:=Zah d (Zcv hij)
  by_cases f:i<b
  ·have h:=rvi_in d f
   by_cases g:j<b
   ·have hj:=rvi_in n g
    exact .inr ⟨h.1,h.2,hj.1,hj.2⟩
   ·have e:rvi a b j=j:=Zs fun z=>g z.2
    rw[e]
    exact .inl ⟨Z7 h.2 (Nat.not_lt.mp g),hj⟩
  ·have k:rvi a b i=i:=Zs fun z=>f z.2
   have l:rvi a b j=j:=Zs fun z=>f (Nat.lt_trans hij z.2)
   rw[k,l]
   exact .inl ⟨hij,hj⟩
 ·have k:rvi a b i=i:=Zs fun z=>d z.1
  rw[k]
  by_cases c:a≤j∧j<b
  ·have hj:=rvi_in c.1 c.2
   exact .inl ⟨Z7 (Nat.not_le.mp d) hj.1,Z7 hj.2 hb⟩
  ·have l:rvi a b j=j:=Zs c
   rw[l]
   exact .inl ⟨hij,hj⟩
def bbi (k m i:Nat):Nat:=if i=m then k else if m<i∧i≤k then i - 1 else i
theorem bbi_lo {k m i:Nat}(h:i<m):bbi k m i=i:=by
 unfold bbi
 rw[Zs (Z5 h),Zs fun z=>Nat.lt_asymm h z.1]
theorem bbi_hi {k m i:Nat}(h1:m<i)(h2:i≤k):bbi k m i=i - 1:=by
 unfold bbi
 rw[Zs (Zc8 h1),Zw ⟨h1,h2⟩]
theorem bbi_or {k m i j:Nat}(hm:m≤k)(hij:i<j)(hj:j≤k):(bbi k m i=k∧m≤bbi k m j∧bbi k m j<k)∨(bbi k m j=k∧bbi k m i<m)∨(bbi k m i<bbi k m j∧bbi k m j<k):=by
 have a:m<j→m≤bbi k m j∧bbi k m j<k:=fun h=>by
  rw[bbi_hi h hj]
  exact⟨Nat.le_sub_one_of_lt h,Z7 (Nat.sub_lt (Nat.lt_of_le_of_lt (Zt _) h) Nat.one_pos) hj⟩
 rcases Nat.lt_trichotomy i m with h | h | h
 ·rw[bbi_lo h]
  rcases Nat.lt_trichotomy j m with g | g | g
  ·rw[bbi_lo g]
   exact .inr (.inr ⟨hij,Z7 g hm⟩)
  ·exact .inr (.inl ⟨Zw g,h⟩)
  ·exact .inr (.inr ⟨Z7 h (a g).1,(a g).2⟩)
 ·exact .inl ⟨Zw h,a (h ▸ hij)⟩
 ·have g:=Nat.lt_trans h hij
  refine .inr (.inr ⟨?_,(a g).2⟩)
  rw[bbi_hi h (Zah (Zcv hij) hj),bbi_hi g hj]
  exact Nat.sub_lt_sub_right (Nat.succ_le_of_lt (Nat.lt_of_le_of_lt (Zt _) h)) hij
end
section
variable {prog:Program} {w:World} {A:Around} {E:Value→Shared→Prop} {s:Shared} {vs:List Value} {f:Nat→Nat→Bool}
abbrev C6 (h:Heap) (a:Addr) (vs:List Value):Heap:=((h.update a (Obj.mapSeq fun _=>#[])).push (seqObj "tuple" vs.toArray 0)).push (seqObj "list" #[] 0)
theorem Fb {n:Nat}{P:PySem.Fin→Shared→Prop}(ho:s.heap.get? a=some (seqObj "list" vs.toArray n))(h2:vs.length<2)(h:P (Fin.done (Flow.ret Value.none)) { s with heap:=sortedHeap s.heap a vs vs.toArray }) :
  wpAny (model prog w) A (Builtin.«list.sort» { pos:=[Value.ref a] }) P E s:=by
 have c:=get?_update_seq ho (fun _=>(#[]:Array Value))
 have f:(64:Nat)≤sizeLine:=by decide
 rw[list_sort_plain a]
 refine Zb (listItems_at ho rfl (Zb (listUpdate_at ho rfl (Zb (seqEpoch_at c rfl (Zb (wpAny_newTuple (Zb (wpAny_newList (Zbc ?_) (Zt _))) (by show vs.length≤_;lia))))) (by show vs.length≤_;lia) (Zt _))))
 have b:vs.toArray.size<2:=by rw[Zh];lia
 show wpAny (model prog w) A (if vs.toArray.size<2 then _ else _) P E _
 rw[Zw b]
 refine Zb (Zk ?_)
 rw[Zw b]
 refine Zb (Zk ?_)
 have d:(C6 s.heap a vs).get? a=some (seqObj "list" #[] (if ((#[]:Array Value).size == vs.toArray.size)=true then n else n+1)):=Zc _ (Zc _ c)
 have e:Array.map (fun x=>x.snd) (arrOf (SortSt.mk' general' (vs.toArray.zip vs.toArray) #[] 7 none))=vs.toArray:=by
  show Array.map (fun x=>x.snd) (vs.toArray.zip vs.toArray)=vs.toArray
  simp
  exact List.map_snd_zip (Zd _)
 dsimp only
 rw[e]
 refine Zb (seqEpoch_at d rfl (Zb (listUpdate_at d rfl ?_ (Zt _) ?_)))
 ·rw[Zs (by simp)]
  exact Zk h
 ·rw[Zh]
  lia
theorem sorted_few {Q:Value→Shared→Prop}(hl:s.heap.IsList l vs.toArray)(h2:vs.length<2)(h:Q (Value.ref (s.heap.objs.size+1)) { s with heap:=sortedAll s.heap vs vs.toArray }) :
  wpAny (model prog w) A (call (Value.builtin "sorted") [Value.ref l]) Q E s:=by
 have c:(64:Nat)≤sizeLine:=by decide
 have b:((s.heap.push (seqObj "list" #[] 0)).update s.heap.objs.size (Obj.mapSeq fun x=>x++vs.toArray)).objs.size=s.heap.objs.size+1:=by
  rw[Heap.size_update,Za1]
 have a:(((s.heap.push (seqObj "list" #[] 0)).update s.heap.objs.size (Obj.mapSeq fun x=>x++vs.toArray)).push (seqObj "list" vs.toArray 0)).get? (s.heap.objs.size+1)=some (seqObj "list" vs.toArray 0):=by
  have:=Zn ((s.heap.push (seqObj "list" #[] 0)).update s.heap.objs.size (Obj.mapSeq fun x=>x++vs.toArray)) (o:=seqObj "list" vs.toArray 0) rfl
  rw[b] at this
  exact this
 refine Calls.call_function_entry kind_sorted plain_sorted entry_sorted (args_sorted1 (Value.ref l)) ?_
 show wpAny _ _ (Builtin.sorted _) _ _ _
 unfold Builtin.sorted
 refine Zb (Zk (Zb (collect_list hl (Zb (wpAny_newList ?_ (by lia))) (by lia))))
 show wpAny _ _ (do
  let _ ← holding [Value.ref _] (call (Value.builtin "list.sort") [Value.ref _] _)
  ret (Value.ref _)) _ _ _
 rw[b]
 refine Zb (Zbc (Zbu slot_list_sort ⟨_,a,rfl⟩ entry_list_sort (Fb a h2 ?_) (args_list_sort (Value.ref (s.heap.objs.size+1)))))
 exact⟨Value.none,rfl,Zk ⟨Value.ref (s.heap.objs.size+1),rfl,h⟩⟩
end
end
end My
local macro_rules
 | `(tactic| walk_at $s:str)=>if s.getString.startsWith "%" then `(tactic| unfold $(Lean.mkCIdent (Lean.Name.mkStr ((Lean.Name.mkNum (`_private ++ `PySem.Builtin.List.W1All) 0) ++ `PySem.Builtin) (String.ofList (s.getString.toList.drop 1)))):ident) else Lean.Macro.throwUnsupported
local macro_rules
 | `($s:str)=>if s.getString.startsWith "%" then pure (Lean.mkCIdent (Lean.Name.mkStr ((Lean.Name.mkNum (`_private ++ `PySem.Builtin.List.W1All) 0) ++ `PySem.Builtin) (String.ofList (s.getString.toList.drop 1)))) else Lean.Macro.throwUnsupported
namespace My
noncomputable section
open PySem PySem.W PyProof.Rows
abbrev gallop' := "%gallop"
abbrev mergeLo' := "%mergeLo"
abbrev mergeHi' := "%mergeHi"
abbrev Ey := "%setMinGallop"
abbrev Pd:=Array (Nat×Nat×Nat)
structure SE where
 prog:Program
 w:World
 A:Around
 E:Value→Shared→Prop
 R:Shared→Prop
 κ:SortKind
 gd:Keyed→Prop
 g:Keyed→Keyed→Bool
 as:∀ x y,g x y=true→g y x=false
 tr:∀ x y z,g y x=false→g z y=false→g z x=false
 hc:∀ x y s (C:Bool→Shared→Prop),gd x→gd y→R s→(∀ s',R s'→C (g x y) s')→wpAny (model prog w) A (keyLt' κ x.1 y.1) C (fun _ _=>False) s
def Go (e:SE){α:Type}(x:StateT SortSt Sem α)(a:Array Keyed)(d:Pd)(m:Nat)(Q:α→Array Keyed→Pd→Nat→Prop):Prop :=
 ∀ (P:α→SortSt→Shared→Prop) s,e.R s→(∀ v a' d' m' s',e.R s'→Q v a' d' m'→P v (SortSt.mk' e.κ a' d' m' none) s')→kasC (model e.prog e.w) e.A e.E x P (SortSt.mk' e.κ a d m none) s
section
variable {e:SE} {α β:Type} {a:Array Keyed} {d:Pd} {m:Nat}
theorem Ag {v:α}{Q:α→Array Keyed→Pd→Nat→Prop}(h:Q v a d m):Go e (pure v) a d m Q:=fun P s r k=>kasC_pure (k _ _ _ _ _ r h)
theorem Af {x:StateT SortSt Sem α}{f:α→StateT SortSt Sem β}{Q:β→Array Keyed→Pd→Nat→Prop}(h:Go e x a d m fun v a' d' m'=>Go e (f v) a' d' m' Q):Go e (x >>= f) a d m Q :=
 fun P s r k=>kasC_bind (h _ s r fun v a' d' m' b c q=>q P b c k)
theorem Bz {x:StateT SortSt Sem α}{Q Q' : α→Array Keyed→Pd→Nat→Prop}(h:Go e x a d m Q)(i:∀ v a' d' m',Q v a' d' m'→Q' v a' d' m'):Go e x a d m Q':=fun P s r k=>h P s r fun v a' d' m' b c q=>k v a' d' m' b c (i _ _ _ _ q)
theorem Dh {Q:SortSt→Array Keyed→Pd→Nat→Prop}(h:Q (SortSt.mk' e.κ a d m none) a d m):Go e get a d m Q:=fun P s r k=>kasC_get (k _ _ _ _ _ r h)
theorem Dt {f:SortSt→SortSt}{a' : Array Keyed}{d' : Pd}{m' : Nat}{Q:Unit→Array Keyed→Pd→Nat→Prop}(e1:f (SortSt.mk' e.κ a d m none)=SortSt.mk' e.κ a' d' m' none)(h:Q () a' d' m'):Go e (modify f) a d m Q:=fun P s r k=>kasC_modify (by rw[e1];exact k _ _ _ _ _ r h)
theorem Ee {t:String}{Q:Unit→Array Keyed→Pd→Nat→Prop}(h:Q () a d m):Go e (liftM (rule t)) a d m Q:=fun P s r k=>kasC_lift (Zdl (k _ _ _ _ _ r h))
theorem A8 {arr:Array Keyed}{i:Nat}{x:Keyed}{Q:Keyed→Array Keyed→Pd→Nat→Prop}(hi:arr[i]?=some x)(h:Q x a d m):Go e (elem' arr i) a d m Q:=by
 rw[elem'_eq,hi]
 exact Ag h
theorem go_lt {x y:Keyed}{Q:Option Bool→Array Keyed→Pd→Nat→Prop}(hx:e.gd x)(hy:e.gd y)(h:Q (some (e.g x y)) a d m):Go e (lt' x y) a d m Q:=fun P s r k=>by
 rw[lt'_eq]
 exact kasC_bind (kasC_get (kasC_bind (kasC_lift (wpAny_attempt (Zbt (e.hc x y s _ hx hy r fun b j=>(kasC_pure (k _ _ _ _ b j h):kasC _ _ _ (pure (some (e.g x y))) P (SortSt.mk' e.κ a d m none) b)) (fun c b i=>i) fun _ _ f=>f.elim)))))
theorem Ck {f:Nat→β→StateT SortSt Sem (ForInStep β)}{n i0:Nat}{b:β}{Q:β→Array Keyed→Pd→Nat→Prop}(I:Nat→β→Array Keyed→Pd→Nat→Prop)(hn:i0≤n)(h0:I i0 b a d m)(hs:∀ i b a d m,i0≤i→i<n→I i b a d m→Go e (f i b) a d m fun r a' d' m'=>match r with | .done b'=>Q b' a' d' m' | .yield b'=>I (i+1) b' a' d' m')(he:∀ b a d m,I n b a d m→Q b a d m):Go e (forIn [i0:n] b f) a d m Q:=fun P s r k=>by
 refine kasC_range ?_
 have:∀ (c i:Nat) (b:β) a d m s,i0≤i→i+c=n→I i b a d m→e.R s→kasC (model e.prog e.w) e.A e.E (forIn (List.range' i c) b f) P (SortSt.mk' e.κ a d m none) s:=fun c=>by
  induction c with
  | zero=>exact fun i b a d m s _ j h r=>kasC_nil (k _ _ _ _ _ r (he _ _ _ _ (by rw[← j];exact h)))
  | succ c p =>
   intro i b a d m s l j h r
   rw[List.range'_succ]
   refine kasC_cons (hs i b a d m l (by lia) h _ s r fun v a' d' m' o g q=>?_)
   cases v with
   | done b'=>exact k _ _ _ _ _ g q
   | yield b'=>exact p (i+1) b' a' d' m' o (by lia) (by lia) q g
 exact this (n - i0) i0 b a d m s (Zd _) (by lia) h0 r
def Sg_ (e:SE)(arr:Array Keyed)(b n:Nat)(c:Nat→Keyed):Prop:=∀ i,i<n→arr[b+i]?=some (c i)∧e.gd (c i)
def bey (e:SE)(left:Bool)(key x:Keyed):Bool:=if left then e.g x key else !e.g key x
theorem bey_mono {left:Bool}{key x y:Keyed}(h:e.g y x=false)(hb:bey e left key y=true):bey e left key x=true:=by
 cases left with
 | true =>
  have hb:e.g y key=true:=hb
  show e.g x key=true
  cases q:e.g x key with
  | true=>rfl
  | false=>rw[e.tr key x y q h] at hb;cases hb
 | false =>
  have hb:(!e.g key y)=true:=hb
  show (!e.g key x)=true
  cases q:e.g key x with
  | false=>rfl
  | true =>
   have:=e.tr x y key h (by simpa using hb)
   rw[q] at this;cases this
end
section
variable {e:SE} {a:Array Keyed} {d:Pd} {m:Nat}
theorem go_bey {left:Bool}{key x:Keyed}{arr:Array Keyed}{i:Nat}{Q:Option Bool→Array Keyed→Pd→Nat→Prop}(hx:arr[i]?=some x)(gx:e.gd x)(gk:e.gd key)(h:Q (some (bey e left key x)) a d m) :
  Go e (do
   let x ← elem' arr i
   if left=true then lt' x key else do
    let r ← lt' key x
    pure (r.map fun x=>!x)) a d m Q:=by
 refine Af (A8 hx ?_)
 cases left with
 | true=>exact go_lt gx gk h
 | false=>exact Af (go_lt gk gx (Ag h))
theorem Cr {left:Bool}{key:Keyed}{arr:Array Keyed}{base n hint:Nat}{c:Nat→Keyed}{Q:Option Nat→Array Keyed→Pd→Nat→Prop}(hs:Sg_ e arr base n c)(ho:∀ i j,i<j→j<n→e.g (c j) (c i)=false)(hk:e.gd key)(hh:hint<n)(h:∀ k,k≤n→(∀ i,i<k→bey e left key (c i)=true)→(∀ i,k≤i→i<n→bey e left key (c i)=false)→Q (some k) a d m):Go e (gallop' left key arr base n hint) a d m Q:=by
 have J:∀ {i j},i≤j→j<n→bey e left key (c j)=true→bey e left key (c i)=true:=fun {i j} I M B=>by
  rcases Nat.lt_or_eq_of_le I with q | q
  ·exact bey_mono (ho i j q M) B
  ·rw[q];exact B
 have L:∀ {i j},i≤j→j<n→bey e left key (c i)=false→bey e left key (c j)=false:=fun {i j} I M B=>by
  cases q:bey e left key (c j) with
  | false=>rfl
  | true=>rw[J I M q] at B;cases B
 have bs:∀ (F:Nat→Option (Option Nat)×Nat×Nat→StateT SortSt Sem (ForInStep (Option (Option Nat)×Nat×Nat))) (K:Option (Option Nat)×Nat×Nat→StateT SortSt Sem (Option Nat)),
   (∀ x f p (H : ForInStep (Option (Option Nat)×Nat×Nat)→Array Keyed→Pd→Nat→Prop),p≤n→(f≥p→H (.done (none,f,p)) a d m)→(f<p→bey e left key (c (f+(p - f) / 2))=true→H (.yield (none,f+(p - f) / 2+1,p)) a d m)→(f<p→bey e left key (c (f+(p - f) / 2))=false→H (.yield (none,f,f+(p - f) / 2)) a d m)→Go e (F x (none,f,p)) a d m H)→(∀ f p,K (none,f,p)=pure (some p)) →
   ∀ (f p:Nat),f≤p→p≤n→(∀ i,i<f→bey e left key (c i)=true)→(∀ i,p≤i→i<n→bey e left key (c i)=false)→Go e (forIn [:n] (none,f,p) F >>= K) a d m Q:=by
  intro F K S P f p w y s r
  refine Af (Ck (fun i b u t v=>u=a∧t=d∧v=m∧∃ f p,b=(none,f,p)∧f≤p∧p≤n∧p - f≤n - i∧(∀ i,i<f→bey e left key (c i)=true)∧(∀ i,p≤i→i<n→bey e left key (c i)=false)) (Zt _) ⟨rfl,rfl,rfl,f,p,rfl,w,y,by lia,s,r⟩ ?_ ?_)
  ·rintro i b u t v _ D ⟨rfl,rfl,rfl,f,p,rfl,w,y,A,s,r⟩
   refine S i f p _ y (fun g=>?_) (fun R O=>?_) (fun R O=>?_)
   ·show Go e (K (none,f,p)) _ _ _ Q
    rw[P]
    exact Ag (h p y (fun i D=>s i (by lia)) r)
   ·exact⟨rfl,rfl,rfl,_,_,rfl,by lia,y,by lia,fun i D=>J (j:=f+(p - f) / 2) (by lia) (by lia) O,r⟩
   ·exact⟨rfl,rfl,rfl,_,_,rfl,by lia,by lia,by lia,s,fun i G C=>L (i:=f+(p - f) / 2) (by lia) C O⟩
  ·rintro b u t v ⟨rfl,rfl,rfl,f,p,rfl,w,y,A,s,r⟩
   rw[P]
   exact Ag (h p y (fun i D=>s i (by lia)) r)
 unfold gallop'
 walk_at "%gallop"
 dsimp only
 refine Af (go_bey (hs hint hh).1 (hs hint hh).2 hk ?_)
 show Go e (if bey e left key (c hint)=true then _ else _) a d m Q
 by_cases B:bey e left key (c hint)=true
 ·rw[Zw B]
  refine Af (Bz (Q:=fun b u t v=>u=a∧t=d∧v=m∧∃ l o,b=(none,l,o)∧l<o∧hint+l<n∧bey e left key (c (hint+l))=true∧(o≥n - hint∨o<n - hint∧bey e left key (c (hint+o))=false)) (Ck (fun i b u t v=>u=a∧t=d∧v=m∧∃ l o,b=(none,l,o)∧l<o∧i<o∧hint+l<n∧bey e left key (c (hint+l))=true) (Zt _) ⟨rfl,rfl,rfl,0,1,rfl,by lia,by lia,hh,B⟩ ?_ ?_) ?_)
  ·rintro i b u t v _ D ⟨rfl,rfl,rfl,l,o,rfl,w,y,s,r⟩
   show Go e (if o≥n - hint then _ else _) _ _ _ _
   by_cases ho:o≥n - hint
   ·rw[Zw ho]
    exact Ag ⟨rfl,rfl,rfl,l,o,rfl,w,s,r,.inl ho⟩
   ·rw[Zs ho]
    have z:hint+o<n:=by lia
    refine Af (go_bey (hs _ z).1 (hs _ z).2 hk ?_)
    cases q:bey e left key (c (hint+o)) with
    | false=>exact Ag ⟨rfl,rfl,rfl,l,o,rfl,w,s,r,.inr ⟨by lia,q⟩⟩
    | true=>exact Ag ⟨rfl,rfl,rfl,o,2 * o+1,rfl,by lia,by lia,by lia,q⟩
  ·rintro b u t v ⟨rfl,rfl,rfl,l,o,rfl,w,y,s,r⟩
   exact⟨rfl,rfl,rfl,l,o,rfl,w,s,r,.inl (by lia)⟩
  ·rintro b u t v ⟨rfl,rfl,rfl,l,o,rfl,w,s,r,A⟩
   refine bs _ _ (fun x f p H T G C N=>?_) (fun _ _=>rfl) (hint+l+1) (hint+min o (n - hint)) (by lia) (by lia) (fun i p=>?_) (fun i G C=>?_)
   ·show Go e (if f≥p then _ else _) _ _ _ _
    by_cases E:f≥p
    ·rw[Zw E]
     exact Ag (G E)
    ·rw[Zs E]
     have z:f+(p - f) / 2<n:=by lia
     refine Af (go_bey (hs _ z).1 (hs _ z).2 hk ?_)
     cases q:bey e left key (c (f+(p - f) / 2)) with
     | true=>exact Ag (C (by lia) q)
     | false=>exact Ag (N (by lia) q)
   ·exact J (j:=hint+l) (by lia) s r
   ·rcases A with A | A
    ·lia
    ·exact L (i:=hint+o) (by lia) C A.2
 ·rw[Zs B]
  refine Af (Bz (Q:=fun b u t v=>u=a∧t=d∧v=m∧∃ l o,b=(none,l,o)∧l<o∧l≤hint∧bey e left key (c (hint - l))=false∧(o≥hint+1∨o<hint+1∧bey e left key (c (hint - o))=true)) (Ck (fun i b u t v=>u=a∧t=d∧v=m∧∃ l o,b=(none,l,o)∧l<o∧i<o∧l≤hint∧bey e left key (c (hint - l))=false) (Zt _) ⟨rfl,rfl,rfl,0,1,rfl,by lia,by lia,by lia,(by simpa using B)⟩ ?_ ?_) ?_)
  ·rintro i b u t v _ D ⟨rfl,rfl,rfl,l,o,rfl,w,y,s,r⟩
   show Go e (if o≥hint+1 then _ else _) _ _ _ _
   by_cases ho:o≥hint+1
   ·rw[Zw ho]
    exact Ag ⟨rfl,rfl,rfl,l,o,rfl,w,s,r,.inl ho⟩
   ·rw[Zs ho]
    have z:hint - o<n:=by lia
    refine Af (go_bey (hs _ z).1 (hs _ z).2 hk ?_)
    cases q:bey e left key (c (hint - o)) with
    | true=>exact Ag ⟨rfl,rfl,rfl,l,o,rfl,w,s,r,.inr ⟨by lia,q⟩⟩
    | false=>exact Ag ⟨rfl,rfl,rfl,o,2 * o+1,rfl,by lia,by lia,by lia,q⟩
  ·rintro b u t v ⟨rfl,rfl,rfl,l,o,rfl,w,y,s,r⟩
   exact⟨rfl,rfl,rfl,l,o,rfl,w,s,r,.inl (by lia)⟩
  ·rintro b u t v ⟨rfl,rfl,rfl,l,o,rfl,w,s,r,A⟩
   refine bs _ _ (fun x f p H T G C N=>?_) (fun _ _=>rfl) (hint+1 - min o (hint+1)) (hint - l) (by lia) (by lia) (fun i p=>?_) (fun i G C=>?_)
   ·show Go e (if f≥p then _ else _) _ _ _ _
    by_cases E:f≥p
    ·rw[Zw E]
     exact Ag (G E)
    ·rw[Zs E]
     have z:f+(p - f) / 2<n:=by lia
     refine Af (go_bey (hs _ z).1 (hs _ z).2 hk ?_)
     cases q:bey e left key (c (f+(p - f) / 2)) with
     | true=>exact Ag (C (by lia) q)
     | false=>exact Ag (N (by lia) q)
   ·rcases A with A | A
    ·lia
    ·exact J (j:=hint - o) (by lia) (by lia) A.2
   ·exact L (i:=hint - l) (by lia) C r
end
structure MI (L:Keyed→Keyed→Prop) (Z o u v:List Keyed):Prop where
 pm:(o++(u++v)).Perm Z
 so:o.Pairwise L
 su:u.Pairwise L
 sv:v.Pairwise L
 cu:∀ x∈o,∀ y∈u,L x y
 cv:∀ x∈o,∀ y∈v,L x y
section
variable {L:Keyed→Keyed→Prop} {Z o u v u1 u2 v1 v2:List Keyed}
theorem MI.a (h:MI L Z o (u1++u2) v)(k:∀ x∈u1,∀ y∈v,L x y):MI L Z (o++u1) u2 v where
 pm:=by have:=h.pm;simpa [Zb5] using this
 so:=Za4.mpr ⟨h.so,(Za4.mp h.su).1,fun x b y c=>h.cu x b y (Zb3 _ c)⟩
 su:=(Za4.mp h.su).2.1
 sv:=h.sv
 cu:=fun x b y c=>(Zaa.mp b).elim (fun b=>h.cu x b y (Zaq _ c)) fun b=>(Za4.mp h.su).2.2 x b y c
 cv:=fun x b y c=>(Zaa.mp b).elim (fun b=>h.cv x b y c) fun b=>k x b y c
theorem MI.sw (h:MI L Z o u v):MI L Z o v u:=⟨((List.Perm.refl o).append List.perm_append_comm).trans h.pm,h.so,h.sv,h.su,h.cv,h.cu⟩
theorem MI.b (h:MI L Z o u (v1++v2))(k:∀ x∈v1,∀ y∈u,L x y):MI L Z (o++v1) u v2:=(h.sw.a k).sw
theorem MI.fin (h:MI L Z o u v)(k:∀ x∈u,∀ y∈v,L x y):(o++u++v).Perm Z∧(o++u++v).Pairwise L :=
 ⟨by rw[Zb5];exact h.pm,Za4.mpr ⟨Za4.mpr ⟨h.so,h.su,h.cu⟩,h.sv,fun x a y b=>(Zaa.mp a).elim (fun a=>h.cv x a y b) fun a=>k x a y b⟩⟩
end
def kd0:Keyed:=(Value.none,Value.none)
abbrev kat (a:Array Keyed) (i:Nat):Keyed:=a.getD i kd0
theorem Ay {a:Array Keyed}{i:Nat}(h:i<a.size):a[i]?=some (kat a i):=by
 rw[Z3 h]
 show _=some (a.getD i kd0)
 rw[Zcb,Z3 h]
 rfl
theorem dropA {a:Array Keyed}{i:Nat}(h:i<a.size):a.toList.drop i=[kat a i]++a.toList.drop (i+1):=by
 have:=Ay h
 rw[Z3 h] at this
 rw[List.drop_eq_getElem_cons (by simpa using h),← Zm this]
 simp
theorem exA {a:Array Keyed}{i k:Nat}(h:i+k≤a.size):a.toList.drop i=(a.extract i (i+k)).toList++a.toList.drop (i+k):=by
 rw[Zbf,Zau,← List.drop_drop,Nat.add_sub_cancel_left]
 exact (Zav _ _).symm
theorem exE {a:Array Keyed}{i:Nat}:(a.extract i).toList=a.toList.drop i:=by
 rw[Zbf,Zau]
 rw[Zcc (by rw[Zbl,Zad];exact Zd _)]
theorem mem_ex {a:Array Keyed}{i k:Nat}{x:Keyed}(h:x∈(a.extract i (i+k)).toList):∃ j,j<k∧i+j<a.size∧x=kat a (i+j):=by
 rw[Array.mem_toList_iff,Array.mem_extract_iff_getElem] at h
 obtain⟨j,c,rfl⟩:=h
 have b:i+j<a.size:=by lia
 have:=Ay b
 rw[Z3 b] at this
 exact⟨j,by lia,b,Zm this⟩
theorem Fs {a:Array Keyed}{i:Nat}{x:Keyed}(h:x∈a.toList.drop i):∃ j,i≤j∧j<a.size∧x=kat a j:=by
 obtain⟨j,c,rfl⟩:=Zb8 h
 rw[Zbl,Zad] at c
 have b:i+j<a.size:=by lia
 have:=Ay b
 rw[Z3 b] at this
 refine⟨i+j,by lia,b,?_⟩
 rw[List.getElem_drop,Zb4]
 exact Zm this
abbrev le_ (e:SE) (x y:Keyed):Prop:=e.g y x=false
structure MA (e:SE) (a:Array Keyed):Prop where
 gd:∀ i,i<a.size→e.gd (kat a i)
 so:∀ i j,i<j→j<a.size→e.g (kat a j) (kat a i)=false
section
variable {e:SE} {a:Array Keyed} {d:Pd} {m:Nat}
theorem SE.rf (e:SE)(x:Keyed):e.g x x=false:=by
 cases h:e.g x x with
 | false=>rfl
 | true=>rw[← h];exact e.as x x h
theorem MA.le {x:Array Keyed}(h:MA e x){i j:Nat}(hij:i≤j)(hj:j<x.size):le_ e (kat x i) (kat x j):=by
 rcases Nat.lt_or_eq_of_le hij with q | q
 ·exact h.so i j q hj
 ·rw[q];exact e.rf _
theorem MA.pw {x:Array Keyed}(h:MA e x)(i:Nat):(x.toList.drop i).Pairwise (le_ e):=by
 refine List.Pairwise.drop ?_
 rw[Zck]
 intro i j b a c
 rw[Zad] at b a
 have d:=Ay b
 have f:=Ay a
 rw[Z3 b] at d
 rw[Z3 a] at f
 rw[Zb4,Zb4,Zm d,Zm f]
 exact h.so i j c a
theorem As {α:Type}{c:Prop}[Decidable c]{x y:StateT SortSt Sem α}{Q:α→Array Keyed→Pd→Nat→Prop}(h1:c→Go e x a d m Q)(h2:¬ c→Go e y a d m Q):Go e (if c then x else y) a d m Q:=by
 by_cases h:c
 ·rw[Zw h];exact h1 h
 ·rw[Zs h];exact h2 h
theorem Gi {k:Nat}{Q:Unit→Array Keyed→Pd→Nat→Prop}(h:Q () a d k):Go e (Ey k) a d m Q:=by
 unfold Ey
 walk_at "%setMinGallop"
 exact Dt rfl h
theorem go_mergeLo {x y:Array Keyed}{Q:Array Keyed→Array Keyed→Pd→Nat→Prop}(hx:MA e x)(hy:MA e y)(nx:0<x.size)(ny:0<y.size)(h1:e.g (kat x 0) (kat y 0)=false)(h2:∀ j,j<y.size→e.g (kat x (x.size - 1)) (kat y j)=false)(q:∀ c m',c.toList.Perm (x.toList++y.toList)→c.toList.Pairwise (le_ e)→Q c a d m'):Go e (mergeLo' x y) a d m Q:=by
 obtain⟨M,Y⟩:∃ M:Array Keyed→Nat→Nat→Prop,M=fun o i j=>MI (le_ e) (x.toList++y.toList) o.toList (x.toList.drop i) (y.toList.drop j):=⟨_,rfl⟩
 have T:∀ o i j m',M o i j→(j=y.size∨i=x.size)→Q (o++x.extract i++y.extract j) a d m':=fun o i j m' h G=>by
  rw[Y] at h
  have:=h.fin fun u K v L=>by
   obtain⟨p,R,O,_⟩:=Fs K
   obtain⟨r,r1,r2,_⟩:=Fs L
   lia
  refine q _ _ ?_ ?_
  ·rw[Zae,Zae,exE,exE];exact this.1
  ·rw[Zae,Zae,exE,exE];exact this.2
 have V:∀ o i j m',M o i j→i+1=x.size→Q (o++y.extract j++x.extract i) a d m':=fun o i j m' h G=>by
  rw[Y] at h
  have:=h.sw.fin fun u K v L=>by
   obtain⟨p,R,O,rfl⟩:=Fs K
   obtain⟨r,r1,r2,rfl⟩:=Fs L
   have e1:r=x.size - 1:=by lia
   rw[e1]
   exact h2 p O
  refine q _ _ ?_ ?_
  ·rw[Zae,Zae,exE,exE];exact this.1
  ·rw[Zae,Zae,exE,exE];exact this.2
 have pb:∀ o i j,M o i j→j<y.size→(i<x.size→e.g (kat x i) (kat y j)=false)→M (o.push (kat y j)) i (j+1):=fun o i j h l Z=>by
  rw[Y] at h ⊢
  dsimp only
  rw[Zbq]
  refine MI.b (by rw[← dropA l];exact h) fun u K v L=>?_
  obtain⟨p,R,O,rfl⟩:=Fs L
  rw[Zg.mp K]
  exact e.tr _ _ _ (Z (by lia)) (hx.le R O)
 have pa:∀ o i j,M o i j→i<x.size→(j<y.size→e.g (kat y j) (kat x i)=false)→M (o.push (kat x i)) (i+1) j:=fun o i j h F Z=>by
  rw[Y] at h ⊢
  dsimp only
  rw[Zbq]
  refine MI.a (by rw[← dropA F];exact h) fun u K v L=>?_
  obtain⟨p,R,O,rfl⟩:=Fs L
  rw[Zg.mp K]
  exact e.tr _ _ _ (Z (by lia)) (hy.le R O)
 have sa:∀ o i j k,M o i j→i+k≤x.size→j<y.size→(∀ p,p<k→e.g (kat y j) (kat x (i+p))=false)→M (o++x.extract i (i+k)) (i+k) j:=fun o i j k h F l Z=>by
  rw[Y] at h ⊢
  dsimp only
  rw[Zae]
  refine MI.a (by rw[← exA F];exact h) fun u K v L=>?_
  obtain⟨p,R,O,rfl⟩:=Fs L
  obtain⟨r,r1,r2,rfl⟩:=mem_ex K
  exact e.tr _ _ _ (Z r r1) (hy.le R O)
 have sb:∀ o i j k,M o i j→j+k≤y.size→i<x.size→(∀ p,p<k→e.g (kat x i) (kat y (j+p))=false)→M (o++y.extract j (j+k)) i (j+k):=fun o i j k h l F Z=>by
  rw[Y] at h ⊢
  dsimp only
  rw[Zae]
  refine MI.b (by rw[← exA l];exact h) fun u K v L=>?_
  obtain⟨p,R,O,rfl⟩:=Fs L
  obtain⟨r,r1,r2,rfl⟩:=mem_ex K
  exact e.tr _ _ _ (Z r r1) (hx.le R O)
 have m0:M #[] 0 0:=by
  rw[Y]
  exact⟨by simp,List.Pairwise.nil,hx.pw 0,hy.pw 0,fun _ h=>(nomatch h),fun _ h=>(nomatch h)⟩
 have m1:M #[kat y 0] 0 1:=pb _ 0 0 m0 ny fun _=>h1
 unfold mergeLo'
 walk_at "%mergeLo"
 dsimp only
 refine Af (Ee ?_)
 refine Af (A8 (Ay ny) ?_)
 by_cases c1:(1 == y.size)=true
 ·rw[Zw c1]
  exact Ag (T _ _ _ _ m1 (.inl (eq_of_beq c1)))
 rw[Zs c1]
 by_cases c2:(0+1 == x.size)=true
 ·rw[Zw c2]
  exact Ag (V _ _ _ _ m1 (eq_of_beq c2))
 rw[Zs c2]
 have ac : ¬ 1=y.size:=fun z=>c1 (by rw[z];exact Zal _)
 have ad : ¬ 0+1=x.size:=fun z=>c2 (by rw[z];exact Zal _)
 refine Af (Dh ?_)
 have tp:0<x.size+y.size:=by lia
 refine Af (Bz (Q:=fun b A B m'=>a=A∧d=B∧∃ r,b.1=some r∧Q r a d m') (Ck (fun i b A B m'=>a=A∧d=B∧∃ o p j k,b=(none,o,p,j,k)∧M o p j∧p+1<x.size∧j<y.size∧o.size=p+j∧i<o.size) (Zt _) ⟨rfl,rfl,_,_,_,_,rfl,m1,by lia,by lia,rfl,Nat.zero_lt_one⟩ ?_ ?_) ?_)
 ·rintro i b A B m' _ F ⟨rfl,rfl,o,p,j,k,rfl,w,E,l,J,G⟩
  refine Af (Bz (Q:=fun b A B m'=>a=A∧d=B∧((∃ r,b.1=some r∧Q r a d m')∨∃ o p j f,b=(none,o,p,j,f)∧M o p j∧p+1<x.size∧j<y.size∧o.size=p+j∧i+1<o.size)) (Ck (fun t b A B m'=>a=A∧d=B∧∃ o p j f,b=(none,o,p,j,f)∧M o p j∧p+1<x.size∧j<y.size∧o.size=p+j∧i+t<o.size) (Zt _) ⟨rfl,rfl,o,p,j,_,rfl,w,E,l,J,G⟩ ?_ ?_) ?_)
  ·rintro t b A B m' _ ht ⟨rfl,rfl,o,p,j,⟨H,f2⟩,rfl,w,E,l,J,G⟩
   have aa : p<x.size:=by lia
   refine Af (A8 (Ay l) (Af (A8 (Ay aa) (Af (go_lt (hy.gd _ l) (hx.gd _ aa) ?_)))))
   cases c:e.g (kat y j) (kat x p) with
   | true =>
    have X:=pb o p j w l fun _=>e.as _ _ c
    have n2:(o.push (kat y j)).size=p+(j+1):=by rw[Zas];lia
    refine Af (A8 (Ay l) (As (fun z=>Ag ⟨rfl,rfl,.inl ⟨_,rfl,T _ _ _ _ X (.inl (eq_of_beq z))⟩⟩) fun z=>?_))
    have z' : ¬ j+1=y.size:=fun q=>z (by rw[q];exact Zal _)
    exact As (fun _=>Ag ⟨rfl,rfl,.inr ⟨_,_,_,_,rfl,X,E,by lia,n2,by lia⟩⟩) fun _=>Ag ⟨rfl,rfl,_,_,_,_,rfl,X,E,by lia,n2,by lia⟩
   | false =>
    have X:=pa o p j w aa fun _=>c
    have n2:(o.push (kat x p)).size=p+1+j:=by rw[Zas];lia
    refine Af (A8 (Ay aa) (As (fun z=>Ag ⟨rfl,rfl,.inl ⟨_,rfl,V _ _ _ _ X (eq_of_beq z)⟩⟩) fun z=>?_))
    have z' : ¬ p+1+1=x.size:=fun q=>z (by rw[q];exact Zal _)
    exact As (fun _=>Ag ⟨rfl,rfl,.inr ⟨_,_,_,_,rfl,X,by lia,l,n2,by lia⟩⟩) fun _=>Ag ⟨rfl,rfl,_,_,_,_,rfl,X,by lia,l,n2,by lia⟩
  ·rintro b A B m' ⟨rfl,rfl,o,p,j,f,rfl,w,E,l,J,G⟩
   exact⟨rfl,rfl,.inr ⟨o,p,j,f,rfl,w,E,l,J,by lia⟩⟩
  ·rintro⟨b1,b2⟩ A B m' ⟨rfl,rfl,⟨r,hr,hq⟩ | ⟨o,p,j,⟨H,f2⟩,e1,w,E,l,J,G⟩⟩
   ·cases hr
    exact Ag ⟨rfl,rfl,r,rfl,hq⟩
   ·cases e1
    refine Af (Ee ?_)
    refine Af (Bz (Q:=fun b A B m'=>a=A∧d=B∧((∃ r,b.1=some r∧Q r a d m')∨∃ o p j f,b=(none,o,p,j,f)∧M o p j∧p+1<x.size∧j<y.size∧o.size=p+j∧i+1<o.size)) (Ck (fun t b A B m'=>a=A∧d=B∧∃ o p j f,b=(none,o,p,j,f)∧M o p j∧p+1<x.size∧j<y.size∧o.size=p+j∧i+1<o.size) (Zt _) ⟨rfl,rfl,o,p,j,_,rfl,w,E,l,J,G⟩ ?_ ?_) ?_)
    ·rintro t b A B m' _ ht ⟨rfl,rfl,o,p,j,⟨mg,H,f2⟩,rfl,w,E,l,J,G⟩
     refine As (fun _=>?_) (fun _=>?_) <;> refine Af (Gi (Af (A8 (Ay l) (Af (Cr (c:=fun i=>kat x (p+i)) (fun i F=>⟨Ay (by lia),hx.gd _ (by lia)⟩) (fun i j ab l=>hx.so _ _ (by lia) (by lia)) (hy.gd _ l) (by lia) fun k k1 k2 S=>?_)))))
     all_goals
      have P:=sa o p j k w (by lia) l fun i F=>by simpa [bey] using k2 i F
      have S1:(o++x.extract p (p+k)).size=p+k+j:=by rw[Zcu,Zbi];lia
      refine As (fun kp=>As (fun z=>Ag ⟨rfl,rfl,.inl ⟨_,rfl,V _ _ _ _ P (eq_of_beq z)⟩⟩) fun z1=>As (fun z=>Ag ⟨rfl,rfl,.inl ⟨_,rfl,T _ _ _ _ P (.inr (eq_of_beq z))⟩⟩) fun z2=>?_) fun kp=>?_
      ·have i1:p+k+1<x.size:=by
        have a1:¬ p+k+1=x.size:=fun q=>z1 (by rw[q];exact Zal _)
        have a2:¬ p+k=x.size:=fun q=>z2 (by rw[q];exact Zal _)
        lia
       have H:=S k (Zd _) (by lia)
       try dsimp only at H
       have Z1:i+1<(o++x.extract p (p+k)).size:=by lia
       revert P S1 i1 H Z1
       generalize o++x.extract p (p+k)=I
       generalize p+k=s
       intro P S1 i1 H Z1
       have U:=pb I s j P l fun _=>e.as _ _ (by simpa [bey] using H)
       have S2:=Zas (kat y j) (xs:=I)
       refine Af (A8 (Ay l) (As (fun z=>Ag ⟨rfl,rfl,.inl ⟨_,rfl,T _ _ _ _ U (.inl (eq_of_beq z))⟩⟩) fun z3=>?_))
       have i2:j+1<y.size:=by
        have a1:¬ j+1=y.size:=fun q=>z3 (by rw[q];exact Zal _)
        lia
       refine Af (A8 (Ay (by lia)) (Af (Cr (c:=fun i=>kat y (j+1+i)) (fun i F=>⟨Ay (by lia),hy.gd _ (by lia)⟩) (fun i j ab l=>hy.so _ _ (by lia) (by lia)) (hx.gd _ (by lia)) (by lia) fun k k1 k2 S=>?_)))
       have C:=sb _ s (j+1) k U (by lia) (by lia) fun i F=>e.as _ _ (by simpa [bey] using k2 i F)
       have N:(I.push (kat y j)++y.extract (j+1) (j+1+k)).size=s+(j+1+k):=by rw[Zcu,Zbi];lia
       refine As (fun kp=>As (fun z=>Ag ⟨rfl,rfl,.inl ⟨_,rfl,T _ _ _ _ C (.inl (eq_of_beq z))⟩⟩) fun z4=>?_) fun kp=>?_
       ·have i3:j+1+k<y.size:=by
         have a1:¬ j+1+k=y.size:=fun q=>z4 (by rw[q];exact Zal _)
         lia
        have n:=S k (Zd _) (by lia)
        try dsimp only at n
        replace n:e.g (kat y (j+1+k)) (kat x s)=false:=by simpa [bey] using n
        revert C N i3 n
        generalize I.push (kat y j)++y.extract (j+1) (j+1+k)=W
        intro C N i3 n
        have D:=pa _ s _ C (by lia) (fun _=>n)
        have S4:=Zas (kat x s) (xs:=W)
        refine Af (A8 (Ay (by lia)) (As (fun z=>Ag ⟨rfl,rfl,.inl ⟨_,rfl,V _ _ _ _ D (eq_of_beq z)⟩⟩) fun z=>?_))
        have z' : ¬ s+1+1=x.size:=fun q=>z (by rw[q];exact Zal _)
        exact As (fun _=>Ag ⟨rfl,rfl,.inr ⟨_,_,_,_,rfl,D,by lia,by lia,by lia,by lia⟩⟩) fun _=>Ag ⟨rfl,rfl,_,_,_,_,rfl,D,by lia,by lia,by lia,by lia⟩
       ·have n:=S 0 (by lia) (by lia)
        try dsimp only at n
        replace n:e.g (kat y (j+1)) (kat x s)=false:=by simpa [bey] using n
        replace C:=U
        replace N:(I.push (kat y j)).size=s+(j+1):=by lia
        revert C N n
        generalize I.push (kat y j)=W
        intro n C N
        have D:=pa _ s _ C (by lia) (fun _=>n)
        have S4:=Zas (kat x s) (xs:=W)
        refine Af (A8 (Ay (by lia)) (As (fun z=>Ag ⟨rfl,rfl,.inl ⟨_,rfl,V _ _ _ _ D (eq_of_beq z)⟩⟩) fun z=>?_))
        have z' : ¬ s+1+1=x.size:=fun q=>z (by rw[q];exact Zal _)
        exact As (fun _=>Ag ⟨rfl,rfl,.inr ⟨_,_,_,_,rfl,D,by lia,by lia,by lia,by lia⟩⟩) fun _=>Ag ⟨rfl,rfl,_,_,_,_,rfl,D,by lia,by lia,by lia,by lia⟩
      ·have i1:=E
       have H:=S 0 (by lia) (by lia)
       replace P:=w
       replace S1:=J
       try dsimp only at H
       rw[Zdj] at H
       have Z1:=G
       revert P S1 i1 H Z1
       generalize o=I
       generalize p=s
       intro i1 H P S1 Z1
       have U:=pb I s j P l fun _=>e.as _ _ (by simpa [bey] using H)
       have S2:=Zas (kat y j) (xs:=I)
       refine Af (A8 (Ay l) (As (fun z=>Ag ⟨rfl,rfl,.inl ⟨_,rfl,T _ _ _ _ U (.inl (eq_of_beq z))⟩⟩) fun z3=>?_))
       have i2:j+1<y.size:=by
        have a1:¬ j+1=y.size:=fun q=>z3 (by rw[q];exact Zal _)
        lia
       refine Af (A8 (Ay (by lia)) (Af (Cr (c:=fun i=>kat y (j+1+i)) (fun i F=>⟨Ay (by lia),hy.gd _ (by lia)⟩) (fun i j ab l=>hy.so _ _ (by lia) (by lia)) (hx.gd _ (by lia)) (by lia) fun k k1 k2 S=>?_)))
       have C:=sb _ s (j+1) k U (by lia) (by lia) fun i F=>e.as _ _ (by simpa [bey] using k2 i F)
       have N:(I.push (kat y j)++y.extract (j+1) (j+1+k)).size=s+(j+1+k):=by rw[Zcu,Zbi];lia
       refine As (fun kp=>As (fun z=>Ag ⟨rfl,rfl,.inl ⟨_,rfl,T _ _ _ _ C (.inl (eq_of_beq z))⟩⟩) fun z4=>?_) fun kp=>?_
       ·have i3:j+1+k<y.size:=by
         have a1:¬ j+1+k=y.size:=fun q=>z4 (by rw[q];exact Zal _)
         lia
        have n:=S k (Zd _) (by lia)
        try dsimp only at n
        replace n:e.g (kat y (j+1+k)) (kat x s)=false:=by simpa [bey] using n
        revert C N i3 n
        generalize I.push (kat y j)++y.extract (j+1) (j+1+k)=W
        intro C N i3 n
        have D:=pa _ s _ C (by lia) (fun _=>n)
        have S4:=Zas (kat x s) (xs:=W)
        refine Af (A8 (Ay (by lia)) (As (fun z=>Ag ⟨rfl,rfl,.inl ⟨_,rfl,V _ _ _ _ D (eq_of_beq z)⟩⟩) fun z=>?_))
        have z' : ¬ s+1+1=x.size:=fun q=>z (by rw[q];exact Zal _)
        exact As (fun _=>Ag ⟨rfl,rfl,.inr ⟨_,_,_,_,rfl,D,by lia,by lia,by lia,by lia⟩⟩) fun _=>Ag ⟨rfl,rfl,_,_,_,_,rfl,D,by lia,by lia,by lia,by lia⟩
       ·have n:=S 0 (by lia) (by lia)
        try dsimp only at n
        replace n:e.g (kat y (j+1)) (kat x s)=false:=by simpa [bey] using n
        replace C:=U
        replace N:(I.push (kat y j)).size=s+(j+1):=by lia
        revert C N n
        generalize I.push (kat y j)=W
        intro n C N
        have D:=pa _ s _ C (by lia) (fun _=>n)
        have S4:=Zas (kat x s) (xs:=W)
        refine Af (A8 (Ay (by lia)) (As (fun z=>Ag ⟨rfl,rfl,.inl ⟨_,rfl,V _ _ _ _ D (eq_of_beq z)⟩⟩) fun z=>?_))
        have z' : ¬ s+1+1=x.size:=fun q=>z (by rw[q];exact Zal _)
        exact As (fun _=>Ag ⟨rfl,rfl,.inr ⟨_,_,_,_,rfl,D,by lia,by lia,by lia,by lia⟩⟩) fun _=>Ag ⟨rfl,rfl,_,_,_,_,rfl,D,by lia,by lia,by lia,by lia⟩
    ·rintro b A B m' ⟨rfl,rfl,o,p,j,f,rfl,w,E,l,J,G⟩
     exact⟨rfl,rfl,.inr ⟨o,p,j,f,rfl,w,E,l,J,G⟩⟩
    ·rintro⟨b1,b2⟩ A B m' ⟨rfl,rfl,⟨r,hr,hq⟩ | ⟨o,p,j,⟨mg,H,f2⟩,e1,w,E,l,J,G⟩⟩
     ·cases hr
      exact Ag ⟨rfl,rfl,r,rfl,hq⟩
     ·cases e1
      exact Af (Gi (Ag ⟨rfl,rfl,_,_,_,_,rfl,w,E,l,J,G⟩))
 ·rintro b A B m' ⟨rfl,rfl,o,p,j,k,rfl,w,E,l,J,G⟩
  exfalso
  lia
 ·rintro⟨b1,b2⟩ A B m' ⟨rfl,rfl,r,hr,hq⟩
  cases hr
  exact Ag hq
end
theorem takeA {a:Array Keyed}{i:Nat}(h:i<a.size):(a.toList.take (i+1)).reverse=[kat a i]++(a.toList.take i).reverse:=by
 have:=Ay h
 rw[← Zaj] at this
 rw[Zao,this,List.reverse_append]
 rfl
theorem texA {a:Array Keyed}{t i:Nat}(h:t≤i):(a.toList.take i).reverse=(a.extract t i).reverse.toList++(a.toList.take t).reverse:=by
 rw[Zdf,Zbf,Zau,← List.reverse_append]
 congr 1
 rw[← List.drop_take]
 conv=>lhs;rw[← Zav t (List.take i a.toList)]
 rw[List.take_take,Nat.min_eq_left h]
theorem exT {a:Array Keyed}{i:Nat}:(a.extract 0 i).toList=a.toList.take i:=by
 rw[Zbf,Zau]
 rfl
theorem mem_rx {a:Array Keyed}{t i:Nat}{x:Keyed}(h:x∈(a.extract t i).reverse.toList):∃ j,t≤j∧j<i∧j<a.size∧x=kat a j:=by
 rw[Zdf,List.mem_reverse,Array.mem_toList_iff,Array.mem_extract_iff_getElem] at h
 obtain⟨j,c,rfl⟩:=h
 have b:t+j<a.size:=by lia
 have:=Ay b
 rw[Z3 b] at this
 exact⟨t+j,by lia,by lia,b,Zm this⟩
theorem Fv {a:Array Keyed}{i:Nat}{x:Keyed}(h:x∈(a.toList.take i).reverse):∃ j,j<i∧j<a.size∧x=kat a j:=by
 rw[List.mem_reverse] at h
 obtain⟨j,c,rfl⟩:=Zb8 h
 rw[Z6,Zad] at c
 have b:j<a.size:=by lia
 have:=Ay b
 rw[Z3 b] at this
 refine⟨j,by lia,b,?_⟩
 rw[List.getElem_take,Zb4]
 exact Zm this
section
variable {e:SE} {a:Array Keyed} {d:Pd} {m:Nat}
theorem MA.pr {x:Array Keyed}(h:MA e x)(i:Nat):((x.toList.take i).reverse).Pairwise (fun u v=>le_ e v u):=by
 rw[List.pairwise_reverse]
 have:=h.pw 0
 rw[List.drop_zero] at this
 exact this.take
theorem go_mergeHi {x y:Array Keyed}{Q:Array Keyed→Array Keyed→Pd→Nat→Prop}(hx:MA e x)(hy:MA e y)(nx:0<x.size)(ny:0<y.size)(h1:e.g (kat x 0) (kat y 0)=false)(h2:∀ j,j<y.size→e.g (kat x (x.size - 1)) (kat y j)=false)(q:∀ c m',c.toList.Perm (x.toList++y.toList)→c.toList.Pairwise (le_ e)→Q c a d m'):Go e (mergeHi' x y) a d m Q:=by
 obtain⟨M,hM⟩:∃ M:Array Keyed→Nat→Nat→Prop,M=fun o i j=>MI (fun u v=>le_ e v u) (x.toList++y.toList) o.toList (x.toList.take i).reverse (y.toList.take j).reverse:=⟨_,rfl⟩
 have fd:∀ o i j m',M o i j→(j=0∨i=0)→Q (x.extract 0 i++y.extract 0 j++o.reverse) a d m':=fun o i j m' h G=>by
  rw[hM] at h
  have:=h.sw.fin fun u S v T=>by
   obtain⟨p,p1,_⟩:=Fv S
   obtain⟨r,r1,_⟩:=Fv T
   lia
  have ee:(x.extract 0 i++y.extract 0 j++o.reverse).toList=(o.toList++(y.toList.take j).reverse++(x.toList.take i).reverse).reverse:=by
   rw[Zae,Zae,exT,exT,Zdf]
   simp
  refine q _ _ ?_ ?_
  ·rw[ee];exact (Zcs _).trans this.1
  ·rw[ee,List.pairwise_reverse];exact this.2
 have fl:∀ o i j m',M o i j→j=1→Q (y.extract 0 j++x.extract 0 i++o.reverse) a d m':=fun o i j m' h G=>by
  rw[hM] at h
  have:=h.fin fun u S v T=>by
   obtain⟨p,p1,p2,rfl⟩:=Fv S
   obtain⟨r,r1,r2,rfl⟩:=Fv T
   have e1:r=0:=by lia
   rw[e1]
   exact e.tr _ _ _ h1 (hx.le (Zt _) p2)
  have ee:(y.extract 0 j++x.extract 0 i++o.reverse).toList=(o.toList++(x.toList.take i).reverse++(y.toList.take j).reverse).reverse:=by
   rw[Zae,Zae,exT,exT,Zdf]
   simp
  refine q _ _ ?_ ?_
  ·rw[ee];exact (Zcs _).trans this.1
  ·rw[ee,List.pairwise_reverse];exact this.2
 have pb:∀ o i j,M o i (j+1)→j<y.size→i≤x.size→(0<i→e.g (kat y j) (kat x (i - 1))=false)→M (o.push (kat y j)) i j:=fun o i j h A K Y=>by
  rw[hM] at h ⊢
  dsimp only at h ⊢
  rw[Zbq]
  refine MI.b (by rw[← takeA A];exact h) fun u S v T=>?_
  obtain⟨p,p1,p2,rfl⟩:=Fv T
  rw[Zg.mp S]
  exact e.tr _ _ _ (hx.le (show p≤i - 1 by lia) (by lia)) (Y (by lia))
 have pa:∀ o i j,M o (i+1) j→i<x.size→j≤y.size→(0<j→e.g (kat x i) (kat y (j - 1))=false)→M (o.push (kat x i)) i j:=fun o i j h K A Y=>by
  rw[hM] at h ⊢
  dsimp only at h ⊢
  rw[Zbq]
  refine MI.a (by rw[← takeA K];exact h) fun u S v T=>?_
  obtain⟨p,p1,p2,rfl⟩:=Fv T
  rw[Zg.mp S]
  exact e.tr _ _ _ (hy.le (show p≤j - 1 by lia) (by lia)) (Y (by lia))
 have sa:∀ o i j t,M o i j→t≤i→i≤x.size→0<j→j≤y.size→(∀ p,t≤p→p<i→e.g (kat x p) (kat y (j - 1))=false)→M (o++(x.extract t i).reverse) t j:=fun o i j t h ht K h0 A Y=>by
  rw[hM] at h ⊢
  dsimp only at h ⊢
  rw[Zae]
  refine MI.a (by rw[← texA ht];exact h) fun u S v T=>?_
  obtain⟨p,p1,p2,rfl⟩:=Fv T
  obtain⟨r,r1,r2,r3,rfl⟩:=mem_rx S
  exact e.tr _ _ _ (hy.le (show p≤j - 1 by lia) (by lia)) (Y r r1 r2)
 have sb:∀ o i j t,M o i j→t≤j→j≤y.size→0<i→i≤x.size→(∀ p,t≤p→p<j→e.g (kat y p) (kat x (i - 1))=false)→M (o++(y.extract t j).reverse) i t:=fun o i j t h ht A h0 K Y=>by
  rw[hM] at h ⊢
  dsimp only at h ⊢
  rw[Zae]
  refine MI.b (by rw[← texA ht];exact h) fun u S v T=>?_
  obtain⟨p,p1,p2,rfl⟩:=Fv T
  obtain⟨r,r1,r2,r3,rfl⟩:=mem_rx S
  exact e.tr _ _ _ (hx.le (show p≤i - 1 by lia) (by lia)) (Y r r1 r2)
 have m0:M #[] x.size y.size:=by
  rw[hM]
  refine⟨?_,List.Pairwise.nil,hx.pr _,hy.pr _,fun _ h=>(nomatch h),fun _ h=>(nomatch h)⟩
  rw[Zcc (by simp),Zcc (by simp)]
  exact (Zcs _).append (Zcs _)
 have m1:M #[kat x (x.size - 1)] (x.size - 1) y.size:=pa #[] (x.size - 1) y.size (by rw[Nat.sub_add_cancel nx];exact m0) (by lia) (Zd _) fun _=>h2 _ (by lia)
 unfold mergeHi'
 walk_at "%mergeHi"
 dsimp only
 refine Af (Ee ?_)
 refine Af (A8 (Ay (by lia)) ?_)
 refine As (fun c1=>Ag (fd _ _ _ _ m1 (.inr (eq_of_beq c1)))) fun c1=>?_
 refine As (fun c2=>Ag (fl _ _ _ _ m1 (eq_of_beq c2))) fun c2=>?_
 have ae : ¬ x.size - 1=0:=fun z=>c1 (by rw[z];rfl)
 have af : ¬ y.size=1:=fun z=>c2 (by rw[z];rfl)
 refine Af (Dh ?_)
 have aa : ∀ o i j,M o i j→0<i→i≤x.size→j≤y.size→(0<j→e.g (kat x (i - 1)) (kat y (j - 1))=false)→M (o.push (kat x (i - 1))) (i - 1) j:=fun o i j h h0 K A Y=>pa o (i - 1) j (by rw[Nat.sub_add_cancel h0];exact h) (by lia) A Y
 have ac : ∀ o i j,M o i j→0<j→j≤y.size→i≤x.size→(0<i→e.g (kat y (j - 1)) (kat x (i - 1))=false)→M (o.push (kat y (j - 1))) i (j - 1):=fun o i j h h0 A K Y=>pb o i (j - 1) (by rw[Nat.sub_add_cancel h0];exact h) (by lia) K Y
 clear pa pb m0 hM
 refine Af (Bz (Q:=fun b E F m'=>a=E∧d=F∧∃ r,b.1=some r∧Q r a d m') (Ck (fun i b E F m'=>a=E∧d=F∧∃ p j o k,b=(none,p,j,o,k)∧M o p j∧0<p∧p≤x.size∧1<j∧j≤y.size∧o.size+p+j=x.size+y.size∧i<o.size) (Zt _) ⟨rfl,rfl,_,_,_,_,rfl,m1,by lia,by lia,by lia,by lia,by show 1+(x.size - 1)+y.size=_;lia,Nat.zero_lt_one⟩ ?_ ?_) ?_)
 ·rintro i b E F m' _ K ⟨rfl,rfl,p,j,o,k,rfl,w,I,n,A,l,L,G⟩
  refine Af (Bz (Q:=fun b E F m'=>a=E∧d=F∧((∃ r,b.1=some r∧Q r a d m')∨∃ p j o f,b=(none,p,j,o,f)∧M o p j∧0<p∧p≤x.size∧1<j∧j≤y.size∧o.size+p+j=x.size+y.size∧i+1<o.size)) (Ck (fun t b E F m'=>a=E∧d=F∧∃ p j o f,b=(none,p,j,o,f)∧M o p j∧0<p∧p≤x.size∧1<j∧j≤y.size∧o.size+p+j=x.size+y.size∧i+t<o.size) (Zt _) ⟨rfl,rfl,p,j,o,_,rfl,w,I,n,A,l,L,G⟩ ?_ ?_) ?_)
  ·clear w I n A l L G
   rintro t b E F m' _ ht ⟨rfl,rfl,p,j,o,⟨P,f2⟩,rfl,w,I,n,A,l,L,G⟩
   refine Af (A8 (Ay (show j - 1<y.size by lia)) (Af (A8 (Ay (show p - 1<x.size by lia)) (Af (go_lt (hy.gd _ (by lia)) (hx.gd _ (by lia)) ?_)))))
   cases c:e.g (kat y (j - 1)) (kat x (p - 1)) with
   | true =>
    have n1:=aa o p j w I n l fun _=>e.as _ _ c
    have n2:=Zas (kat x (p - 1)) (xs:=o)
    refine Af (A8 (Ay (show p - 1<x.size by lia)) (As (fun z=>Ag ⟨rfl,rfl,.inl ⟨_,rfl,fd _ _ _ _ n1 (.inr (eq_of_beq z))⟩⟩) fun z=>?_))
    have z' : ¬ p - 1=0:=fun q=>z (by rw[q];rfl)
    exact As (fun _=>Ag ⟨rfl,rfl,.inr ⟨_,_,_,_,rfl,n1,by lia,by lia,A,l,by lia,by lia⟩⟩) fun _=>Ag ⟨rfl,rfl,_,_,_,_,rfl,n1,by lia,by lia,A,l,by lia,by lia⟩
   | false =>
    have n1:=ac o p j w (by lia) l n fun _=>c
    have n2:=Zas (kat y (j - 1)) (xs:=o)
    refine Af (A8 (Ay (show j - 1<y.size by lia)) (As (fun z=>Ag ⟨rfl,rfl,.inl ⟨_,rfl,fl _ _ _ _ n1 (eq_of_beq z)⟩⟩) fun z=>?_))
    have z' : ¬ j - 1=1:=fun q=>z (by rw[q];rfl)
    exact As (fun _=>Ag ⟨rfl,rfl,.inr ⟨_,_,_,_,rfl,n1,I,n,by lia,by lia,by lia,by lia⟩⟩) fun _=>Ag ⟨rfl,rfl,_,_,_,_,rfl,n1,I,n,by lia,by lia,by lia,by lia⟩
  ·rintro b E F m' ⟨rfl,rfl,p,j,o,f,rfl,w,I,n,A,l,L,G⟩
   exact⟨rfl,rfl,.inr ⟨p,j,o,f,rfl,w,I,n,A,l,L,by lia⟩⟩
  ·clear w I n A l L G
   rintro⟨b1,b2⟩ E F m' ⟨rfl,rfl,⟨r,hr,hq⟩ | ⟨p,j,o,⟨P,f2⟩,e1,w,I,n,A,l,L,G⟩⟩
   ·cases hr
    exact Ag ⟨rfl,rfl,r,rfl,hq⟩
   ·cases e1
    refine Af (Ee ?_)
    refine Af (Bz (Q:=fun b E F m'=>a=E∧d=F∧((∃ r,b.1=some r∧Q r a d m')∨∃ p j o f,b=(none,p,j,o,f)∧M o p j∧0<p∧p≤x.size∧1<j∧j≤y.size∧o.size+p+j=x.size+y.size∧i+1<o.size)) (Ck (fun t b E F m'=>a=E∧d=F∧∃ p j o f,b=(none,p,j,o,f)∧M o p j∧0<p∧p≤x.size∧1<j∧j≤y.size∧o.size+p+j=x.size+y.size∧i+1<o.size) (Zt _) ⟨rfl,rfl,p,j,o,_,rfl,w,I,n,A,l,L,G⟩ ?_ ?_) ?_)
    ·clear w I n A l L G
     rintro t b E F m' _ ht ⟨rfl,rfl,p,j,o,⟨mg,P,f2⟩,rfl,w,I,n,A,l,L,G⟩
     clear m1 c1 c2 h1 h2 q K ht
     refine As (fun _=>?_) (fun _=>?_) <;> refine Af (Gi (Af (A8 (Ay (show j - 1<y.size by lia)) (Af (Cr (c:=fun i=>kat x (0+i)) (fun i K=>⟨Ay (by lia),hx.gd _ (by lia)⟩) (fun i j ad A=>hx.so _ _ (by lia) (by lia)) (hy.gd _ (by lia)) (by lia) fun k Z R k3=>?_)))))
     all_goals
      dsimp only at Z R k3
      have A1:=sa o p j k w Z n (by lia) l fun i K ab=>e.as _ _ (by simpa [bey] using k3 i K ab)
      have S1:(o++(x.extract k p).reverse).size=o.size+(p - k):=by rw[Zcu,Array.size_reverse,Zbi];lia
      refine As (fun kp=>As (fun z=>Ag ⟨rfl,rfl,.inl ⟨_,rfl,fd _ _ _ _ A1 (.inr (eq_of_beq z))⟩⟩) fun z1=>?_) fun kp=>?_
      ·have U:0<k:=by
        have a1:¬ k=0:=fun q=>z1 (by rw[q];rfl)
        lia
       have P:=R (k - 1) (by lia)
       rw[Zdc] at P
       have Z1:i+1<(o++(x.extract k p).reverse).size:=by lia
       have s1:(o++(x.extract k p).reverse).size+k+j=x.size+y.size:=by lia
       have O:k≤x.size:=by lia
       clear S1
       revert A1 U P Z1 s1 O
       generalize o++(x.extract k p).reverse=D
       generalize k=s
       intro A1 U P Z1 s1 O
       have A2:=ac D s j A1 (by lia) l O fun _=>(by simpa [bey] using P)
       have S2:=Zas (kat y (j - 1)) (xs:=D)
       refine Af (A8 (Ay (show j - 1<y.size by lia)) (As (fun z=>Ag ⟨rfl,rfl,.inl ⟨_,rfl,fl _ _ _ _ A2 (eq_of_beq z)⟩⟩) fun z3=>?_))
       have i3:1<j - 1:=by
        have a1:¬ j - 1=1:=fun q=>z3 (by rw[q];rfl)
        lia
       clear z3 Z R k3 kp L G
       refine Af (A8 (Ay (show s - 1<x.size by lia)) (Af (Cr (c:=fun i=>kat y (0+i)) (fun i K=>⟨Ay (by lia),hy.gd _ (by lia)⟩) (fun i j ad A=>hy.so _ _ (by lia) (by lia)) (hx.gd _ (by lia)) (by lia) fun k Z R k3=>?_)))
       dsimp only at Z R k3
       have H:=sb _ s (j - 1) k A2 Z (by lia) U O fun i K ab=>(by simpa [bey] using k3 i K ab)
       have S3:(D.push (kat y (j - 1))++(y.extract k (j - 1)).reverse).size=D.size+1+(j - 1 - k):=by rw[Zcu,Array.size_reverse,Zbi];lia
       refine As (fun kp=>As (fun z=>Ag ⟨rfl,rfl,.inl ⟨_,rfl,fl _ _ _ _ H (eq_of_beq z)⟩⟩) fun z4=>As (fun z=>Ag ⟨rfl,rfl,.inl ⟨_,rfl,fd _ _ _ _ H (.inl (eq_of_beq z))⟩⟩) fun z5=>?_) fun kp=>?_
       ·have J:1<k:=by
         have a1:¬ k=1:=fun q=>z4 (by rw[q];rfl)
         have a2:¬ k=0:=fun q=>z5 (by rw[q];rfl)
         lia
        have B:=R (k - 1) (by lia)
        rw[Zdc] at B
        replace B:e.g (kat y (k - 1)) (kat x (s - 1))=true:=by simpa [bey] using B
        have W:i+1<(D.push (kat y (j - 1))++(y.extract k (j - 1)).reverse).size:=by lia
        have X:(D.push (kat y (j - 1))++(y.extract k (j - 1)).reverse).size+s+k=x.size+y.size:=by lia
        have C:k≤y.size:=by lia
        clear S3 z4 z5
        revert H J B W X C
        generalize D.push (kat y (j - 1))++(y.extract k (j - 1)).reverse=V
        generalize k=j2
        intro H J B W X C
        have N:=aa V s j2 H U O C fun _=>e.as _ _ B
        have S4:=Zas (kat x (s - 1)) (xs:=V)
        refine Af (A8 (Ay (show s - 1<x.size by lia)) (As (fun z=>Ag ⟨rfl,rfl,.inl ⟨_,rfl,fd _ _ _ _ N (.inr (eq_of_beq z))⟩⟩) fun z=>?_))
        have z' : ¬ s - 1=0:=fun q=>z (by rw[q];rfl)
        exact As (fun _=>Ag ⟨rfl,rfl,.inr ⟨_,_,_,_,rfl,N,by lia,by lia,J,C,by lia,by lia⟩⟩) fun _=>Ag ⟨rfl,rfl,_,_,_,_,rfl,N,by lia,by lia,J,C,by lia,by lia⟩
       ·have kz:k=j - 1:=by have:¬ j - 1 - k > 0:=kp;lia
        have J:=i3
        have B:=R (j - 1 - 1) (by lia)
        rw[Zdc] at B
        replace B:e.g (kat y (j - 1 - 1)) (kat x (s - 1))=true:=by simpa [bey] using B
        replace H:=A2
        have W:i+1<(D.push (kat y (j - 1))).size:=by lia
        have X:(D.push (kat y (j - 1))).size+s+(j - 1)=x.size+y.size:=by lia
        have C:j - 1≤y.size:=by lia
        clear S3
        revert H J B W X C
        generalize D.push (kat y (j - 1))=V
        generalize j - 1=j2
        intro J B H W X C
        have N:=aa V s j2 H U O C fun _=>e.as _ _ B
        have S4:=Zas (kat x (s - 1)) (xs:=V)
        refine Af (A8 (Ay (show s - 1<x.size by lia)) (As (fun z=>Ag ⟨rfl,rfl,.inl ⟨_,rfl,fd _ _ _ _ N (.inr (eq_of_beq z))⟩⟩) fun z=>?_))
        have z' : ¬ s - 1=0:=fun q=>z (by rw[q];rfl)
        exact As (fun _=>Ag ⟨rfl,rfl,.inr ⟨_,_,_,_,rfl,N,by lia,by lia,J,C,by lia,by lia⟩⟩) fun _=>Ag ⟨rfl,rfl,_,_,_,_,rfl,N,by lia,by lia,J,C,by lia,by lia⟩
      ·have U:=I
       have kz:k=p:=by have:¬ p - k > 0:=kp;lia
       have P:=R (p - 1) (by lia)
       rw[Zdc] at P
       replace A1:=w
       have s1:=L
       have Z1:=G
       have O:=n
       clear S1
       revert A1 U P Z1 s1 O
       generalize o=D
       generalize p=s
       intro U P A1 s1 Z1 O
       have A2:=ac D s j A1 (by lia) l O fun _=>(by simpa [bey] using P)
       have S2:=Zas (kat y (j - 1)) (xs:=D)
       refine Af (A8 (Ay (show j - 1<y.size by lia)) (As (fun z=>Ag ⟨rfl,rfl,.inl ⟨_,rfl,fl _ _ _ _ A2 (eq_of_beq z)⟩⟩) fun z3=>?_))
       have i3:1<j - 1:=by
        have a1:¬ j - 1=1:=fun q=>z3 (by rw[q];rfl)
        lia
       clear z3 Z R k3 kp L G
       refine Af (A8 (Ay (show s - 1<x.size by lia)) (Af (Cr (c:=fun i=>kat y (0+i)) (fun i K=>⟨Ay (by lia),hy.gd _ (by lia)⟩) (fun i j ad A=>hy.so _ _ (by lia) (by lia)) (hx.gd _ (by lia)) (by lia) fun k Z R k3=>?_)))
       dsimp only at Z R k3
       have H:=sb _ s (j - 1) k A2 Z (by lia) U O fun i K ab=>(by simpa [bey] using k3 i K ab)
       have S3:(D.push (kat y (j - 1))++(y.extract k (j - 1)).reverse).size=D.size+1+(j - 1 - k):=by rw[Zcu,Array.size_reverse,Zbi];lia
       refine As (fun kp=>As (fun z=>Ag ⟨rfl,rfl,.inl ⟨_,rfl,fl _ _ _ _ H (eq_of_beq z)⟩⟩) fun z4=>As (fun z=>Ag ⟨rfl,rfl,.inl ⟨_,rfl,fd _ _ _ _ H (.inl (eq_of_beq z))⟩⟩) fun z5=>?_) fun kp=>?_
       ·have J:1<k:=by
         have a1:¬ k=1:=fun q=>z4 (by rw[q];rfl)
         have a2:¬ k=0:=fun q=>z5 (by rw[q];rfl)
         lia
        have B:=R (k - 1) (by lia)
        rw[Zdc] at B
        replace B:e.g (kat y (k - 1)) (kat x (s - 1))=true:=by simpa [bey] using B
        have W:i+1<(D.push (kat y (j - 1))++(y.extract k (j - 1)).reverse).size:=by lia
        have X:(D.push (kat y (j - 1))++(y.extract k (j - 1)).reverse).size+s+k=x.size+y.size:=by lia
        have C:k≤y.size:=by lia
        clear S3 z4 z5
        revert H J B W X C
        generalize D.push (kat y (j - 1))++(y.extract k (j - 1)).reverse=V
        generalize k=j2
        intro H J B W X C
        have N:=aa V s j2 H U O C fun _=>e.as _ _ B
        have S4:=Zas (kat x (s - 1)) (xs:=V)
        refine Af (A8 (Ay (show s - 1<x.size by lia)) (As (fun z=>Ag ⟨rfl,rfl,.inl ⟨_,rfl,fd _ _ _ _ N (.inr (eq_of_beq z))⟩⟩) fun z=>?_))
        have z' : ¬ s - 1=0:=fun q=>z (by rw[q];rfl)
        exact As (fun _=>Ag ⟨rfl,rfl,.inr ⟨_,_,_,_,rfl,N,by lia,by lia,J,C,by lia,by lia⟩⟩) fun _=>Ag ⟨rfl,rfl,_,_,_,_,rfl,N,by lia,by lia,J,C,by lia,by lia⟩
       ·have kz:k=j - 1:=by have:¬ j - 1 - k > 0:=kp;lia
        have J:=i3
        have B:=R (j - 1 - 1) (by lia)
        rw[Zdc] at B
        replace B:e.g (kat y (j - 1 - 1)) (kat x (s - 1))=true:=by simpa [bey] using B
        replace H:=A2
        have W:i+1<(D.push (kat y (j - 1))).size:=by lia
        have X:(D.push (kat y (j - 1))).size+s+(j - 1)=x.size+y.size:=by lia
        have C:j - 1≤y.size:=by lia
        clear S3
        revert H J B W X C
        generalize D.push (kat y (j - 1))=V
        generalize j - 1=j2
        intro J B H W X C
        have N:=aa V s j2 H U O C fun _=>e.as _ _ B
        have S4:=Zas (kat x (s - 1)) (xs:=V)
        refine Af (A8 (Ay (show s - 1<x.size by lia)) (As (fun z=>Ag ⟨rfl,rfl,.inl ⟨_,rfl,fd _ _ _ _ N (.inr (eq_of_beq z))⟩⟩) fun z=>?_))
        have z' : ¬ s - 1=0:=fun q=>z (by rw[q];rfl)
        exact As (fun _=>Ag ⟨rfl,rfl,.inr ⟨_,_,_,_,rfl,N,by lia,by lia,J,C,by lia,by lia⟩⟩) fun _=>Ag ⟨rfl,rfl,_,_,_,_,rfl,N,by lia,by lia,J,C,by lia,by lia⟩
    ·rintro b E F m' ⟨rfl,rfl,p,j,o,f,rfl,w,I,n,A,l,L,G⟩
     exact⟨rfl,rfl,.inr ⟨p,j,o,f,rfl,w,I,n,A,l,L,G⟩⟩
    ·rintro⟨b1,b2⟩ E F m' ⟨rfl,rfl,⟨r,hr,hq⟩ | ⟨p,j,o,⟨mg,P,f2⟩,e1,w,I,n,A,l,L,G⟩⟩
     ·cases hr
      exact Ag ⟨rfl,rfl,r,rfl,hq⟩
     ·cases e1
      exact Af (Gi (Ag ⟨rfl,rfl,_,_,_,_,rfl,w,I,n,A,l,L,G⟩))
 ·rintro b E F m' ⟨rfl,rfl,p,j,o,k,rfl,w,I,n,A,l,L,G⟩
  exfalso
  lia
 ·rintro⟨b1,b2⟩ E F m' ⟨rfl,rfl,r,hr,hq⟩
  cases hr
  exact Ag hq
end
abbrev UpC (e:SE) (c:Nat→Keyed) (m:Nat):Prop:=∀ i j,i<j→j<m→e.g (c j) (c i)=false
def GdA (e:SE)(a:Array Keyed):Prop:=∀ x∈a.toList,e.gd x
structure Sm (a a' : Array Keyed) (lo hi:Nat):Prop where
 sz:a'.size=a.size
 pm:a'.toList.Perm a.toList
 ou:∀ i,i<lo∨hi≤i→kat a' i=kat a i
section
variable {e:SE} {a b c:Array Keyed} {d:Pd} {m lo hi:Nat}
theorem Sm.refl (a:Array Keyed)(lo hi:Nat):Sm a a lo hi:=⟨rfl,.refl _,fun _ _=>rfl⟩
theorem Sm.trans (h:Sm a b lo hi)(k:Sm b c lo hi):Sm a c lo hi:=⟨k.sz.trans h.sz,k.pm.trans h.pm,fun i hi=>(k.ou i hi).trans (h.ou i hi)⟩
theorem Sm.gd (h:Sm a b lo hi)(g:GdA e a):GdA e b:=fun x c=>g x (h.pm.mem_iff.mp c)
theorem Sm.wide {lo' hi' : Nat}(h:Sm a b lo hi)(h1:lo'≤lo)(h2:hi≤hi'):Sm a b lo' hi':=⟨h.sz,h.pm,fun i hi=>h.ou i (by lia)⟩
theorem GdA.at (g:GdA e a){i:Nat}(h:i<a.size):e.gd (kat a i):=g _ (by
 have:=Ay h
 rw[← Zaj] at this
 exact Ze this)
theorem C5 {i j:Nat}{Q:Option Bool→Array Keyed→Pd→Nat→Prop}(g:GdA e a)(hi:i<a.size)(hj:j<a.size)(h:Q (some (e.g (kat a i) (kat a j))) a d m):Go e (ltAt' i j) a d m Q:=by
 rw[ltAt'_eq]
 exact Af (Dh (Af (A8 (Ay hi) (Af (A8 (Ay hj) (go_lt (g.at hi) (g.at hj) h))))))
theorem Fc {a b:Array Keyed}{i j:Nat}(h:a[i]?=b[j]?):kat a i=kat b j:=by
 show a.getD i kd0=b.getD j kd0
 rw[Zcb,Zcb,h]
theorem kat_bub {k m:Nat}(hk:lo+k<a.size)(hm:m≤k)(i:Nat):kat (bubble a (lo+k) (k - m)) (lo+i)=kat a (lo+bbi k m i):=by
 have h:=getElem?_bubble (xs:=a) hk (k - m) (by lia) (lo+i)
 unfold bbi
 by_cases c:i=m
 ·rw[Zw (by lia)] at h
  rw[Zw c]
  exact Fc h
 ·rw[Zs (by lia)] at h
  rw[Zs c]
  by_cases b:m<i∧i≤k
  ·rw[Zw (by lia)] at h
   rw[Zw b]
   exact Fc (h.trans (by congr 1;lia))
  ·rw[Zs (by lia)] at h
   rw[Zs b]
   exact Fc h
theorem sm_bub {k m n:Nat}(hk:lo+k<a.size)(hm:m≤k)(hn:k<n):Sm a (bubble a (lo+k) (k - m)) lo (lo+n) where
 sz:=bubble_size ..
 pm:=Array.perm_iff_toList_perm.mp (bubble_perm ..)
 ou:=fun i b=>by
  have h:=getElem?_bubble (xs:=a) hk (k - m) (by lia) i
  rw[Zs (by lia),Zs (by lia)] at h
  exact Fc h
theorem go_move {s t:Nat}{Q:Unit→Array Keyed→Pd→Nat→Prop}(h:Q () (bubble a s (s - t)) d m):Go e (moveDown' s t) a d m Q:=by
 rw[moveDown'_eq]
 exact Dt rfl h
theorem go_bin {n ok:Nat}{Q:Bool→Array Keyed→Pd→Nat→Prop}(g:GdA e a)(h1:1≤ok)(hn:ok≤n)(hs:lo+n≤a.size)(hu:UpC e (fun i=>kat a (lo+i)) ok)(q:∀ a',Sm a a' lo (lo+n)→UpC e (fun i=>kat a' (lo+i)) n→Q true a' d m):Go e (binarySort' lo n ok) a d m Q:=by
 unfold binarySort'
 walk_at "%binarySort"
 rw[show max ok 1=ok by lia]
 refine Af (Bz (Q:=fun b a' f o=>d=f∧m=o∧b.1=none∧Sm a a' lo (lo+n)∧UpC e (fun i=>kat a' (lo+i)) n) (Ck (fun k b a' f o=>d=f∧m=o∧b.1=none∧Sm a a' lo (lo+n)∧UpC e (fun i=>kat a' (lo+i)) k) hn ⟨rfl,rfl,rfl,Sm.refl ..,hu⟩ ?_ fun b a' f o h=>h) ?_)
 ·rintro k b a' f o N C ⟨rfl,rfl,D,y,x⟩
  have G:=y.sz
  have K:=y.gd g
  dsimp only
  refine Af (Bz (Q:=fun b v f o=>a'=v∧d=f∧m=o∧∃ l r,b=(none,l,r)∧l≤k∧(∀ i,i<l→e.g (kat a' (lo+k)) (kat a' (lo+i))=false)∧(∀ i,l≤i→i<k→e.g (kat a' (lo+k)) (kat a' (lo+i))=true)) (Ck (fun t b v f o=>a'=v∧d=f∧m=o∧∃ l r,b=(none,l,r)∧l≤r∧r≤k∧r - l≤k - t∧(∀ i,i<l→e.g (kat a' (lo+k)) (kat a' (lo+i))=false)∧(∀ i,r≤i→i<k→e.g (kat a' (lo+k)) (kat a' (lo+i))=true)) (Zt _) ⟨rfl,rfl,rfl,0,k,rfl,by lia,by lia,by lia,fun i A=>by lia,fun i h1 p=>by lia⟩ ?_ ?_) ?_)
  ·rintro t b v f o _ ht ⟨rfl,rfl,rfl,l,r,rfl,w,B,L,u,s⟩
   refine As (fun z=>Ag ⟨rfl,rfl,rfl,l,r,rfl,by lia,u,fun i h1 p=>s i (by have:l≥r:=z;lia) p⟩) fun z=>?_
   have R : l<r:=by have:¬ l≥r:=z;lia
   have G:(l+r) / 2<r:=by lia
   have I:lo+(l+r) / 2<a'.size:=by lia
   refine Af (C5 K (by lia) I ?_)
   cases c:e.g (kat a' (lo+k)) (kat a' (lo+(l+r) / 2)) with
   | true =>
    refine Ag ⟨rfl,rfl,rfl,l,(l+r) / 2,rfl,by lia,by lia,by lia,u,fun i h1 p=>?_⟩
    by_cases A:i=(l+r) / 2
    ·rw[A];exact c
    ·cases J:e.g (kat a' (lo+k)) (kat a' (lo+i)) with
     | true=>rfl
     | false =>
      have:=e.tr _ _ _ (x ((l+r) / 2) i (by lia) p) J
      rw[c] at this
      cases this
   | false =>
    refine Ag ⟨rfl,rfl,rfl,(l+r) / 2+1,r,rfl,by lia,B,by lia,fun i A=>?_,s⟩
    by_cases F : i=(l+r) / 2
    ·rw[F];exact c
    ·exact e.tr _ _ _ (x i ((l+r) / 2) (by lia) (by lia)) c
  ·rintro b v f o ⟨rfl,rfl,rfl,l,r,rfl,w,B,L,u,s⟩
   exact⟨rfl,rfl,rfl,l,r,rfl,by lia,u,fun i h1 p=>s i (by lia) p⟩
  ·rintro b v f o ⟨rfl,rfl,rfl,l,r,rfl,w,u,s⟩
   refine Af (go_move (Ag ⟨rfl,rfl,rfl,?_⟩))
   rw[show lo+k - (lo+l)=k - l by lia]
   refine⟨y.trans (sm_bub (by lia) w C),fun i j E H=>?_⟩
   dsimp only
   rw[kat_bub (by lia) w,kat_bub (by lia) w]
   rcases bbi_or w E (Nat.le_of_lt_succ H) with ⟨h1,p,M⟩ | ⟨h1,p⟩ | ⟨h1,p⟩
   ·rw[h1];exact e.as _ _ (s _ p M)
   ·rw[h1];exact u _ p
   ·exact x _ _ h1 p
 ·rintro⟨P,O⟩ a' f o ⟨rfl,rfl,D,y,x⟩
  cases D
  exact Ag (q _ y x)
end
abbrev DnC (e:SE) (c:Nat→Keyed) (m:Nat):Prop:=∀ i j,i<j→j<m→e.g (c i) (c j)=false
abbrev LkC (e:SE) (c:Nat→Keyed) (m q:Nat):Prop:=∀ i j,m≤i+(q+1)→i<m→m≤j+(q+1)→j<m→e.g (c i) (c j)=false
section
variable {e:SE} {a b:Array Keyed} {d:Pd} {m lo hi:Nat} {c:Nat→Keyed}
theorem upC_more {m:Nat}(h:UpC e c m)(h1:e.g (c m) (c (m - 1))=false):UpC e c (m+1):=fun i j a d=>by
 by_cases q:j<m
 ·exact h i j a q
 ·have q:j=m:=by lia
  subst q
  by_cases b:i=j - 1
  ·rw[b];exact h1
  ·exact e.tr _ _ _ (h i (j - 1) (by lia) (by lia)) h1
theorem Dx {m:Nat}(h:DnC e c m)(h1:e.g (c (m - 1)) (c m)=false):DnC e c (m+1):=fun i j a d=>by
 by_cases q:j<m
 ·exact h i j a q
 ·have q:j=m:=by lia
  subst q
  by_cases b:i=j - 1
  ·rw[b];exact h1
  ·exact e.tr _ _ _ h1 (h i (j - 1) (by lia) (by lia))
theorem Bv {i j:Nat}(hj:lo+j≤a.size)(k:Nat):kat (mirror a (lo+i) (lo+j) ((lo+j - (lo+i)) / 2)) (lo+k)=kat a (lo+rvi i j k):=by
 have h:=getElem?_mirror_all (xs:=a) (i:=lo+i) hj (lo+k)
 unfold rvi
 by_cases c:i≤k∧k<j
 ·rw[Zw (by lia)] at h
  rw[Zw c]
  exact Fc (h.trans (by congr 1;lia))
 ·rw[Zs (by lia)] at h
  rw[Zs c]
  exact Fc h
theorem E4 {i j n:Nat}(hj:lo+j≤a.size)(hn:j≤n):Sm a (mirror a (lo+i) (lo+j) ((lo+j - (lo+i)) / 2)) lo (lo+n) where
 sz:=mirror_size ..
 pm:=Array.perm_iff_toList_perm.mp (mirror_perm ..)
 ou:=fun k b=>by
  have h:=getElem?_mirror_all (xs:=a) (i:=lo+i) hj k
  rw[Zs (by lia)] at h
  exact Fc h
theorem Jq {i0 j0 m:Nat}(hb:j0≤m)(h:DnC e c m)(he:∀ i j,i0≤i→i<j0→i0≤j→j<j0→e.g (c i) (c j)=false):DnC e (fun k=>c (rvi i0 j0 k)) m:=fun i j f n=>by
 dsimp only
 rcases rvi_or (a:=i0) hb f n with ⟨b,d⟩ | ⟨b,d,l,o⟩
 ·exact h _ _ b d
 ·exact he _ _ b d l o
theorem Iy {m:Nat}(h:DnC e c m):UpC e (fun k=>c (rvi 0 m k)) m:=fun i j a b=>by
 dsimp only
 unfold rvi
 rw[Zw ⟨by lia,by lia⟩,Zw ⟨by lia,by lia⟩]
 exact h _ _ (by lia) (by lia)
theorem Ez {i j:Nat}{Q:Unit→Array Keyed→Pd→Nat→Prop}(h:Q () (mirror a i j ((j - i) / 2)) d m):Go e (reverseSlice' i j) a d m Q:=by
 rw[reverseSlice'_eq]
 exact Dt rfl h
theorem go_count {n:Nat}{Q:Option Nat→Array Keyed→Pd→Nat→Prop}(g:GdA e a)(h1:1≤n)(hs:lo+n≤a.size)(q:∀ k a',1≤k→k≤n→Sm a a' lo (lo+n)→UpC e (fun i=>kat a' (lo+i)) k→Q (some k) a' d m):Go e (countRun' lo n) a d m Q:=by
 -- the end: what falls is turned round,and goes on as far as it rises
 have V:∀ {β:Type} (K:Option (Option Nat)×Nat→StateT SortSt Sem β) (F:Nat→Option (Option Nat)×Nat→StateT SortSt Sem (ForInStep (Option (Option Nat)×Nat))) (Q' : β→Array Keyed→Pd→Nat→Prop) (b:Array Keyed) (U:Nat),1≤U→U≤n→Sm a b lo (lo+n)→UpC e (fun i=>kat b (lo+i)) U →
   (∀ i k (W:ForInStep (Option (Option Nat)×Nat)→Array Keyed→Pd→Nat→Prop),1≤k→k<n→(e.g (kat b (lo+k)) (kat b (lo+k - 1))=true→W (.done (none,k)) b d m)→(e.g (kat b (lo+k)) (kat b (lo+k - 1))=false→W (.yield (none,k+1)) b d m)→Go e (F i (none,k)) b d m W) →
   (∀ k,U≤k→k≤n→UpC e (fun i=>kat b (lo+i)) k→(k<n→e.g (kat b (lo+k)) (kat b (lo+k - 1))=true)→Go e (K (none,k)) b d m Q')→Go e (forIn [U:n] (none,U) F >>= K) b d m Q':=by
  intro β K F Q' b U hk hn sb u hF hK
  refine Af (Bz (Q:=fun r x B A=>b=x∧d=B∧m=A∧∃ k,r=(none,k)∧U≤k∧k≤n∧UpC e (fun i=>kat b (lo+i)) k∧(k<n→e.g (kat b (lo+k)) (kat b (lo+k - 1))=true)) (Ck (fun i r x B A=>b=x∧d=B∧m=A∧r=(none,i)∧UpC e (fun i=>kat b (lo+i)) i) hn ⟨rfl,rfl,rfl,rfl,u⟩ ?_ ?_) ?_)
  ·rintro i r x B A Y i2 ⟨rfl,rfl,rfl,rfl,u⟩
   refine hF i i _ (by lia) i2 (fun z=>⟨rfl,rfl,rfl,i,rfl,Y,by lia,u,fun _=>z⟩) fun z=>⟨rfl,rfl,rfl,rfl,upC_more u ?_⟩
   show e.g (kat b (lo+i)) (kat b (lo+(i - 1)))=false
   rw[show lo+(i - 1)=lo+i - 1 by lia]
   exact z
  ·rintro r x B A ⟨rfl,rfl,rfl,rfl,u⟩
   exact⟨rfl,rfl,rfl,n,rfl,hn,Zd _,u,fun z=>absurd z (Za3 _)⟩
  ·rintro r x B A ⟨rfl,rfl,rfl,k,rfl,L,H,u,z⟩
   exact hK k L H u z
 unfold countRun'
 walk_at "%countRun"
 dsimp only
 refine V _ _ _ a 1 (Zd _) h1 (Sm.refl ..) (fun i j _ _=>by lia) (fun i k W L H T O=>?_) (fun k L H u z=>?_)
 ·refine Af (C5 g (by show lo+k<_;lia) (by show lo+k - 1<_;lia) ?_)
  cases c:e.g (kat a (lo+k)) (kat a (lo+k - 1)) with
  | true=>exact Ag (T c)
  | false=>exact Ag (O c)
 refine As (fun z2=>Ag (q k a L H (Sm.refl ..) u)) fun z2=>?_
 have kn:k<n:=by
  have:¬ k=n:=fun y=>z2 (by rw[y];exact Zal _)
  lia
 have z:=z kn
 refine As (fun k3=>?_) fun k3=>?_
 ·refine Af (C5 g (by lia) (by lia) ?_)
  cases c:e.g (kat a lo) (kat a (lo+k - 1)) with
  | true=>exact Ag (q k a L H (Sm.refl ..) u)
  | false =>
   refine Af (Ez ?_)
   have ae : k > 1:=k3
   have ac:∀ i,i<k→e.g (kat a (lo+i)) (kat a lo)=false:=fun i hi=>by
    cases i with
    | zero=>exact e.rf _
    | succ i=>exact u 0 (i+1) (Nat.succ_pos i) hi
   have ad:∀ i,i<k→e.g (kat a (lo+k - 1)) (kat a (lo+i))=false:=fun i hi=>by
    rw[show lo+k - 1=lo+(k - 1) by lia]
    rcases Nat.lt_or_eq_of_le (Nat.le_sub_one_of_lt hi) with g | g
    ·exact u i (k - 1) g (by lia)
    ·rw[g];exact e.rf _
   have ab:∀ i j,i<k→j<k→e.g (kat a (lo+i)) (kat a (lo+j))=false:=fun i j hi C=>e.tr _ _ _ (e.tr _ _ _ (ad j C) c) (ac i hi)
   have sb:=E4 (a:=a) (lo:=lo) (i:=0) (j:=k) (n:=n) (by lia) H
   have dn:DnC e (fun i=>kat (mirror a (lo+0) (lo+k) ((lo+k - (lo+0)) / 2)) (lo+i)) (k+1):=fun i j J C=>by
    dsimp only
    rw[Bv (by lia),Bv (by lia)]
    unfold rvi
    rw[Zw (show 0≤i∧i<k by lia)]
    by_cases aa:j<k
    ·rw[Zw ⟨by lia,aa⟩];exact ab _ _ (by lia) (by lia)
    ·have S:j=k:=by lia
     rw[Zs (fun z=>aa z.2),S]
     refine e.tr _ _ _ (e.as _ _ z) ?_
     rw[show lo+k - 1=lo+(k - 1) by lia]
     exact ab _ (k - 1) (by lia) (by lia)
   rw[Zdj] at sb dn
   revert sb dn
   generalize mirror a lo (lo+k) ((lo+k - lo) / 2)=b
   intro sb dn
   refine Af (Ee ?_)
   refine Af (Bz (Q:=fun r x B A=>d=B∧m=A∧∃ f q,r=(none,f,q)∧k+1≤f∧f≤n∧q+1≤f∧Sm a x lo (lo+n)∧DnC e (fun i=>kat x (lo+i)) f∧LkC e (fun i=>kat x (lo+i)) f q) (Ck (fun i r x B A=>d=B∧m=A∧∃ q,r=(none,i,q)∧q+1≤i∧Sm a x lo (lo+n)∧DnC e (fun i=>kat x (lo+i)) i∧LkC e (fun i=>kat x (lo+i)) i q) (by lia) ⟨rfl,rfl,0,rfl,by lia,sb,dn,fun i j Y i2 i3 i4=>?_⟩ ?_ ?_) ?_)
   ·have e1:i=j:=by lia
    rw[e1];exact e.rf _
   ·rintro i r l B A Y i2 ⟨rfl,rfl,q,rfl,R,h,t,v⟩
    have g1:=h.gd g
    have w1:=h.sz
    have one:∀ c:Nat→Keyed,LkC e c (i+1) 0:=fun c p j p1 p2 p3 p4=>by
     have:p=j:=by lia
     rw[this];exact e.rf _
    refine Af (C5 g1 (by show lo+i<_;lia) (by show lo+i - 1<_;lia) ?_)
    cases c:e.g (kat l (lo+i)) (kat l (lo+i - 1)) with
    | true =>
     have h1:DnC e (fun i=>kat l (lo+i)) (i+1):=Dx t (by
      show e.g (kat l (lo+(i - 1))) (kat l (lo+i))=false
      rw[show lo+(i - 1)=lo+i - 1 by lia]
      exact e.as _ _ c)
     show Go e (if q > 0 then _ else _) _ _ _ _
     refine As (fun y=>?_) fun y=>Ag ⟨rfl,rfl,0,rfl,by lia,h,h1,one _⟩
     refine Af (Ez ?_)
     refine Ag ?_
     refine⟨rfl,rfl,0,rfl,by lia,?_⟩
     show Sm a (mirror l (lo+i - (q+1)) (lo+i) ((lo+i - (lo+i - (q+1))) / 2)) _ _∧_
     rw[show lo+i - (q+1)=lo+(i - (q+1)) by lia]
     refine⟨h.trans (E4 (by lia) (by lia)),fun p j X C=>?_,one _⟩
     dsimp only
     rw[Bv (by lia),Bv (by lia)]
     exact Jq (c:=fun i=>kat l (lo+i)) (i0:=i - (q+1)) (j0:=i) (by lia) h1 (fun p j a1 P a3 N=>v p j (by lia) P (by lia) N) p j X C
    | false =>
     refine Af (C5 g1 (by show lo+i - 1<_;lia) (by show lo+i<_;lia) ?_)
     cases c2:e.g (kat l (lo+i - 1)) (kat l (lo+i)) with
     | true=>exact Ag ⟨rfl,rfl,i,q,rfl,Y,by lia,R,h,t,v⟩
     | false =>
      rw[show lo+i - 1=lo+(i - 1) by lia] at c c2
      refine Ag ⟨rfl,rfl,q+1,rfl,by lia,h,Dx t c2,fun p j a1 P a3 N=>?_⟩
      have Z:∀ p,i≤p+(q+1)→p<i→e.g (kat l (lo+i)) (kat l (lo+p))=false:=fun p p1 p2=>e.tr _ _ _ (v (i - 1) p (by lia) (by lia) p1 p2) c
      have h1:=Dx t c2
      by_cases ei:p=i
      ·by_cases S:j=i
       ·rw[ei,S];exact e.rf _
       ·rw[ei];exact Z j (by lia) (by lia)
      ·by_cases S:j=i
       ·rw[S];exact h1 p i (by lia) (by lia)
       ·exact v p j (by lia) (by lia) (by lia) (by lia)
   ·rintro r l B A ⟨rfl,rfl,q,rfl,R,h,t,v⟩
    exact⟨rfl,rfl,n,q,rfl,by lia,Zd _,R,h,t,v⟩
   ·rintro r l B A ⟨rfl,rfl,f,w,rfl,n1,M,R,h,t,v⟩
    have w1:=h.sz
    refine As (fun y=>Af (Ez ?_)) fun y=>?_
    ·have o:Sm a (mirror l (lo+f - (w+1)) (lo+f) ((lo+f - (lo+f - (w+1))) / 2)) lo (lo+n):=by
      rw[show lo+f - (w+1)=lo+(f - (w+1)) by lia]
      exact h.trans (E4 (by lia) (by lia))
     have I:DnC e (fun i=>kat (mirror l (lo+f - (w+1)) (lo+f) ((lo+f - (lo+f - (w+1))) / 2)) (lo+i)) f:=by
      rw[show lo+f - (w+1)=lo+(f - (w+1)) by lia]
      intro p j X C
      dsimp only
      rw[Bv (by lia),Bv (by lia)]
      exact Jq (c:=fun i=>kat l (lo+i)) (i0:=f - (w+1)) (j0:=f) (by lia) t (fun p j a1 P a3 N=>v p j (by lia) P (by lia) N) p j X C
     revert o I
     generalize mirror l (lo+f - (w+1)) (lo+f) ((lo+f - (lo+f - (w+1))) / 2)=D
     intro o I
     refine Af (Ez ?_)
     have s:=o.trans (E4 (a:=D) (lo:=lo) (i:=0) (j:=f) (n:=n) (by have:=o.sz;lia) M)
     have E:UpC e (fun i=>kat (mirror D (lo+0) (lo+f) ((lo+f - (lo+0)) / 2)) (lo+i)) f:=fun i j J C=>by
      dsimp only
      rw[Bv (by have:=o.sz;lia),Bv (by have:=o.sz;lia)]
      exact Iy (c:=fun i=>kat D (lo+i)) I i j J C
     rw[Zdj] at s E
     revert s E
     generalize mirror D lo (lo+f) ((lo+f - lo) / 2)=G
     intro s E
     have g3:=s.gd g
     have w3:=s.sz
     refine V _ _ _ G f (by lia) M s E (fun i k W L H T O=>?_) (fun k L H u z=>Ag (q k G (by lia) H s u))
     refine Af (C5 g3 (by show lo+k<_;lia) (by show lo+k - 1<_;lia) ?_)
     cases c:e.g (kat G (lo+k)) (kat G (lo+k - 1)) with
     | true=>exact Ag (T c)
     | false=>exact Ag (O c)
    ·revert h t
     generalize l=D
     intro o I
     refine Af (Ez ?_)
     have s:=o.trans (E4 (a:=D) (lo:=lo) (i:=0) (j:=f) (n:=n) (by have:=o.sz;lia) M)
     have E:UpC e (fun i=>kat (mirror D (lo+0) (lo+f) ((lo+f - (lo+0)) / 2)) (lo+i)) f:=fun i j J C=>by
      dsimp only
      rw[Bv (by have:=o.sz;lia),Bv (by have:=o.sz;lia)]
      exact Iy (c:=fun i=>kat D (lo+i)) I i j J C
     rw[Zdj] at s E
     revert s E
     generalize mirror D lo (lo+f) ((lo+f - lo) / 2)=G
     intro s E
     have g3:=s.gd g
     have w3:=s.sz
     refine V _ _ _ G f (by lia) M s E (fun i k W L H T O=>?_) (fun k L H u z=>Ag (q k G (by lia) H s u))
     refine Af (C5 g3 (by show lo+k<_;lia) (by show lo+k - 1<_;lia) ?_)
     cases c:e.g (kat G (lo+k)) (kat G (lo+k - 1)) with
     | true=>exact Ag (T c)
     | false=>exact Ag (O c)
 ·have e1:k=1:=by have:¬ k > 1:=k3;lia
  have sb:=Sm.refl a lo (lo+n)
  have dn:DnC e (fun i=>kat a (lo+i)) (k+1):=fun i j J C=>by
   have e2:i=0:=by lia
   have e3:j=1:=by lia
   rw[e2,e3]
   rw[e1] at z
   exact e.as _ _ z
  refine Af (Ee ?_)
  refine Af (Bz (Q:=fun r x B A=>d=B∧m=A∧∃ f q,r=(none,f,q)∧k+1≤f∧f≤n∧q+1≤f∧Sm a x lo (lo+n)∧DnC e (fun i=>kat x (lo+i)) f∧LkC e (fun i=>kat x (lo+i)) f q) (Ck (fun i r x B A=>d=B∧m=A∧∃ q,r=(none,i,q)∧q+1≤i∧Sm a x lo (lo+n)∧DnC e (fun i=>kat x (lo+i)) i∧LkC e (fun i=>kat x (lo+i)) i q) (by lia) ⟨rfl,rfl,0,rfl,by lia,sb,dn,fun i j Y i2 i3 i4=>?_⟩ ?_ ?_) ?_)
  ·have e1:i=j:=by lia
   rw[e1];exact e.rf _
  ·rintro i r l B A Y i2 ⟨rfl,rfl,q,rfl,R,h,t,v⟩
   have g1:=h.gd g
   have w1:=h.sz
   have one:∀ c:Nat→Keyed,LkC e c (i+1) 0:=fun c p j p1 p2 p3 p4=>by
    have:p=j:=by lia
    rw[this];exact e.rf _
   refine Af (C5 g1 (by show lo+i<_;lia) (by show lo+i - 1<_;lia) ?_)
   cases c:e.g (kat l (lo+i)) (kat l (lo+i - 1)) with
   | true =>
    have h1:DnC e (fun i=>kat l (lo+i)) (i+1):=Dx t (by
     show e.g (kat l (lo+(i - 1))) (kat l (lo+i))=false
     rw[show lo+(i - 1)=lo+i - 1 by lia]
     exact e.as _ _ c)
    show Go e (if q > 0 then _ else _) _ _ _ _
    refine As (fun y=>?_) fun y=>Ag ⟨rfl,rfl,0,rfl,by lia,h,h1,one _⟩
    refine Af (Ez ?_)
    refine Ag ?_
    refine⟨rfl,rfl,0,rfl,by lia,?_⟩
    show Sm a (mirror l (lo+i - (q+1)) (lo+i) ((lo+i - (lo+i - (q+1))) / 2)) _ _∧_
    rw[show lo+i - (q+1)=lo+(i - (q+1)) by lia]
    refine⟨h.trans (E4 (by lia) (by lia)),fun p j X C=>?_,one _⟩
    dsimp only
    rw[Bv (by lia),Bv (by lia)]
    exact Jq (c:=fun i=>kat l (lo+i)) (i0:=i - (q+1)) (j0:=i) (by lia) h1 (fun p j a1 P a3 N=>v p j (by lia) P (by lia) N) p j X C
   | false =>
    refine Af (C5 g1 (by show lo+i - 1<_;lia) (by show lo+i<_;lia) ?_)
    cases c2:e.g (kat l (lo+i - 1)) (kat l (lo+i)) with
    | true=>exact Ag ⟨rfl,rfl,i,q,rfl,Y,by lia,R,h,t,v⟩
    | false =>
     rw[show lo+i - 1=lo+(i - 1) by lia] at c c2
     refine Ag ⟨rfl,rfl,q+1,rfl,by lia,h,Dx t c2,fun p j a1 P a3 N=>?_⟩
     have Z:∀ p,i≤p+(q+1)→p<i→e.g (kat l (lo+i)) (kat l (lo+p))=false:=fun p p1 p2=>e.tr _ _ _ (v (i - 1) p (by lia) (by lia) p1 p2) c
     have h1:=Dx t c2
     by_cases ei:p=i
     ·by_cases S:j=i
      ·rw[ei,S];exact e.rf _
      ·rw[ei];exact Z j (by lia) (by lia)
     ·by_cases S:j=i
      ·rw[S];exact h1 p i (by lia) (by lia)
      ·exact v p j (by lia) (by lia) (by lia) (by lia)
  ·rintro r l B A ⟨rfl,rfl,q,rfl,R,h,t,v⟩
   exact⟨rfl,rfl,n,q,rfl,by lia,Zd _,R,h,t,v⟩
  ·rintro r l B A ⟨rfl,rfl,f,w,rfl,n1,M,R,h,t,v⟩
   have w1:=h.sz
   refine As (fun y=>Af (Ez ?_)) fun y=>?_
   ·have o:Sm a (mirror l (lo+f - (w+1)) (lo+f) ((lo+f - (lo+f - (w+1))) / 2)) lo (lo+n):=by
     rw[show lo+f - (w+1)=lo+(f - (w+1)) by lia]
     exact h.trans (E4 (by lia) (by lia))
    have I:DnC e (fun i=>kat (mirror l (lo+f - (w+1)) (lo+f) ((lo+f - (lo+f - (w+1))) / 2)) (lo+i)) f:=by
     rw[show lo+f - (w+1)=lo+(f - (w+1)) by lia]
     intro p j X C
     dsimp only
     rw[Bv (by lia),Bv (by lia)]
     exact Jq (c:=fun i=>kat l (lo+i)) (i0:=f - (w+1)) (j0:=f) (by lia) t (fun p j a1 P a3 N=>v p j (by lia) P (by lia) N) p j X C
    revert o I
    generalize mirror l (lo+f - (w+1)) (lo+f) ((lo+f - (lo+f - (w+1))) / 2)=D
    intro o I
    refine Af (Ez ?_)
    have s:=o.trans (E4 (a:=D) (lo:=lo) (i:=0) (j:=f) (n:=n) (by have:=o.sz;lia) M)
    have E:UpC e (fun i=>kat (mirror D (lo+0) (lo+f) ((lo+f - (lo+0)) / 2)) (lo+i)) f:=fun i j J C=>by
     dsimp only
     rw[Bv (by have:=o.sz;lia),Bv (by have:=o.sz;lia)]
     exact Iy (c:=fun i=>kat D (lo+i)) I i j J C
    rw[Zdj] at s E
    revert s E
    generalize mirror D lo (lo+f) ((lo+f - lo) / 2)=G
    intro s E
    have g3:=s.gd g
    have w3:=s.sz
    refine V _ _ _ G f (by lia) M s E (fun i k W L H T O=>?_) (fun k L H u z=>Ag (q k G (by lia) H s u))
    refine Af (C5 g3 (by show lo+k<_;lia) (by show lo+k - 1<_;lia) ?_)
    cases c:e.g (kat G (lo+k)) (kat G (lo+k - 1)) with
    | true=>exact Ag (T c)
    | false=>exact Ag (O c)
   ·revert h t
    generalize l=D
    intro o I
    refine Af (Ez ?_)
    have s:=o.trans (E4 (a:=D) (lo:=lo) (i:=0) (j:=f) (n:=n) (by have:=o.sz;lia) M)
    have E:UpC e (fun i=>kat (mirror D (lo+0) (lo+f) ((lo+f - (lo+0)) / 2)) (lo+i)) f:=fun i j J C=>by
     dsimp only
     rw[Bv (by have:=o.sz;lia),Bv (by have:=o.sz;lia)]
     exact Iy (c:=fun i=>kat D (lo+i)) I i j J C
    rw[Zdj] at s E
    revert s E
    generalize mirror D lo (lo+f) ((lo+f - lo) / 2)=G
    intro s E
    have g3:=s.gd g
    have w3:=s.sz
    refine V _ _ _ G f (by lia) M s E (fun i k W L H T O=>?_) (fun k L H u z=>Ag (q k G (by lia) H s u))
    refine Af (C5 g3 (by show lo+k<_;lia) (by show lo+k - 1<_;lia) ?_)
    cases c:e.g (kat G (lo+k)) (kat G (lo+k - 1)) with
    | true=>exact Ag (T c)
    | false=>exact Ag (O c)
end
section
variable {e:SE} {a:Array Keyed} {d:Pd} {m:Nat}
theorem go_set {a' : Array Keyed}{d' : Pd}{m' : Nat}{Q:PUnit→Array Keyed→Pd→Nat→Prop}(h:Q ⟨⟩ a' d' m'):Go e (set (SortSt.mk' e.κ a' d' m' none)) a d m Q:=fun P s r k=>(Zk (k _ _ _ _ _ r h))
theorem kat_in {P S T:List Keyed}(h:a.toList=P++(S++T)){i:Nat}(hi:i<S.length):kat a (P.length+i)=S[i]:=by
 show a.getD _ kd0=_
 rw[Zcb,← Zaj,h,Zag (by lia),Nat.add_sub_cancel_left,Zat hi,Zi hi]
 rfl
theorem upc_pw {P S T:List Keyed}(h:a.toList=P++(S++T)):UpC e (fun i=>kat a (P.length+i)) S.length↔S.Pairwise (le_ e):=by
 rw[Zck]
 constructor
 ·intro u i j d c b
  have:=u i j b c
  dsimp only at this
  rw[kat_in h d,kat_in h c] at this
  exact this
 ·intro u i j b c
  dsimp only
  rw[kat_in h c,kat_in h (show i<S.length by lia)]
  exact u i j _ _ b
theorem wr_list (p:Nat):∀ (l:List Keyed) (n:Nat) (a:Array Keyed),p+n+l.length≤a.size→(List.foldl (fun a x=>match x with | (v,j)=>a.setIfInBounds (p+j) v) a (l.zipIdx n)).toList=a.toList.take (p+n)++(l++a.toList.drop (p+n+l.length))
 | [],n,a,h=>by
  show a.toList=_
  rw[List.nil_append]
  exact (Zav _ _).symm
 | v::l,n,a,h=>by
  rw[Zab] at h
  rw[List.zipIdx_cons,List.foldl_cons,wr_list p l (n+1) _ (by rw[Array.size_setIfInBounds];lia)]
  rw[Array.toList_setIfInBounds,Zab]
  have h1:(a.toList.set (p+n) v).take (p+(n+1))=a.toList.take (p+n)++[v]:=by
   rw[← Zbo,Zao,List.getElem?_set_self (by rw[Zad];lia),List.take_set_of_le (Zd _)]
   rfl
  have h2:(a.toList.set (p+n) v).drop (p+(n+1)+l.length)=a.toList.drop (p+n+(l.length+1)):=by
   rw[List.drop_set_of_lt (by lia)]
   congr 1
   lia
  rw[h1,h2,Zb5]
  rfl
theorem spl (l:List Keyed)(i k:Nat):l.drop i=(l.drop i).take k++l.drop (i+k):=by
 rw[← List.drop_drop]
 exact (Zav _ _).symm
theorem mem_sg {i k:Nat}{x:Keyed}(h:x∈(a.toList.drop i).take k):∃ j,j<k∧i+j<a.size∧x=kat a (i+j):=by
 refine mem_ex (i:=i) (k:=k) ?_
 rw[Zbf,Zau,Nat.add_sub_cancel_left]
 exact h
theorem sm_mid {b:Array Keyed}{P S S' T:List Keyed}(h:a.toList=P++(S++T))(h' : b.toList=P++(S'++T))(p:S'.Perm S){lo hi:Nat}(e1:lo=P.length)(e2:hi=P.length+S.length):Sm a b lo hi where
 sz:=by rw[← Zad,← Zad,h,h'];simp[p.length_eq]
 pm:=by rw[h,h'];exact (List.Perm.refl _).append (p.append (.refl _))
 ou:=fun i hi=>by
  have c:=p.length_eq
  refine Fc ?_
  rw[← Zaj,← Zaj,h,h']
  rcases hi with hi | hi
  ·rw[Zat (by lia),Zat (by lia)]
  ·rw[Zag (by lia),Zag (by lia),Zag (by lia),Zag (by lia),c]
end
section
variable {e:SE} {a:Array Keyed} {d:Pd} {m:Nat}
theorem El {i j k:Nat}(h:i+k<j)(hj:j≤a.size):kat (a.extract i j) k=kat a (i+k):=by
 refine Fc ?_
 rw[Array.getElem?_extract,Zw (by lia)]
theorem ma_ext {i j:Nat}(g:GdA e a)(hj:j≤a.size){lo n:Nat}(u:UpC e (fun i=>kat a (lo+i)) n)(h1:lo≤i)(h2:j≤lo+n):MA e (a.extract i j):=by
 have d:(a.extract i j).size=j - i:=by rw[Zbi];lia
 refine⟨fun k c=>?_,fun p q b f=>?_⟩
 ·rw[El (by lia) hj]
  exact g.at (by lia)
 ·rw[El (by lia) hj,El (by lia) hj]
  have:=u (i - lo+p) (i - lo+q) (by lia) (by lia)
  dsimp only at this
  rw[show lo+(i - lo+q)=i+q by lia,show lo+(i - lo+p)=i+p by lia] at this
  exact this
theorem go_mergeAt {i sa na pw sb nb pb:Nat}{Q:Bool→Array Keyed→Pd→Nat→Prop}(hp:d[i]?=some (sa,na,pw))(hq:d[i+1]?=some (sb,nb,pb))(g:GdA e a)(e1:sb=sa+na)(h1:1≤na)(h2:1≤nb)(hs:sb+nb≤a.size)(u1:UpC e (fun i=>kat a (sa+i)) na)(u2:UpC e (fun i=>kat a (sb+i)) nb)(q:∀ a' m',Sm a a' sa (sb+nb)→UpC e (fun i=>kat a' (sa+i)) (na+nb)→Q true a' ((d.setIfInBounds i (sa,na+nb,pw)).eraseIdxIfInBounds (i+1)) m'):Go e (mergeAt' i) a d m Q:=by
 unfold mergeAt'
 walk_at "%mergeAt"
 refine Af (Dh ?_)
 show Go e (match (d[i]?,d[i+1]?) with | _=>_) _ _ _ _
 rw[hp,hq]
 refine Af (go_set ?_)
 refine Af (A8 (Ay (show sb<a.size by lia)) ?_)
 refine Af (Cr (c:=fun i=>kat a (sa+i)) (fun i hi=>⟨Ay (by lia),g.at (by lia)⟩) u1 (g.at (by lia)) (by lia) fun k k1 L k3=>?_)
 -- where all stands right already
 have all:∀ o:Keyed,(∀ i,i<na→le_ e (kat a (sa+i)) o)→(∀ j,j<nb→le_ e o (kat a (sb+j)))→UpC e (fun i=>kat a (sa+i)) (na+nb):=fun o m1 m2 i j l f=>by
  by_cases A:j<na
  ·exact u1 i j l A
  ·obtain⟨C,rfl⟩:∃ C,j=na+C:=⟨j - na,by lia⟩
   dsimp only
   rw[← Zbo,← e1]
   by_cases B:i<na
   ·exact e.tr _ _ _ (m1 i B) (m2 C (by lia))
   ·obtain⟨G,rfl⟩:∃ G,i=na+G:=⟨i - na,by lia⟩
    rw[← Zbo,← e1]
    exact u2 G C (by lia) (by lia)
 have u:∀ j,j<nb→le_ e (kat a sb) (kat a (sb+j)):=fun j f=>by
  cases j with
  | zero=>exact e.rf _
  | succ j=>exact u2 0 (j+1) (Nat.succ_pos j) f
 refine As (fun z=>Ag (q a _ (Sm.refl ..) (all (kat a sb) (fun i hi=>?_) u))) fun z=>?_
 ·have:na - k=0:=eq_of_beq z
  have:=L i (by lia)
  simpa [bey] using this
 have kn:k<na:=by
  have:¬ na - k=0:=fun y=>z (by rw[y];rfl)
  lia
 refine Af (A8 (Ay (show sa+k+(na - k) - 1<a.size by lia)) ?_)
 rw[show sa+k+(na - k) - 1=sa+(na - 1) by lia]
 have E:∀ i,i<na→le_ e (kat a (sa+i)) (kat a (sa+(na - 1))):=fun i hi=>by
  rcases Nat.lt_or_eq_of_le (Nat.le_sub_one_of_lt hi) with y | y
  ·exact u1 i (na - 1) y (by lia)
  ·rw[y];exact e.rf _
 refine Af (Cr (c:=fun i=>kat a (sb+i)) (fun i hi=>⟨Ay (by lia),g.at (by lia)⟩) u2 (g.at (by lia)) (by lia) fun n n1 Y V=>?_)
 refine As (fun J=>Ag (q a _ (Sm.refl ..) (all (kat a (sa+(na - 1))) E fun j f=>?_))) fun J=>?_
 ·have:n=0:=eq_of_beq J
  have:=V j (by lia) f
  simpa [bey] using this
 have n0:0<n:=by
  have:¬ n=0:=fun y=>J (by rw[y];rfl)
  lia
 have fin:∀ (c:Array Keyed) (m' : Nat),c.toList.Perm ((a.extract (sa+k) sb).toList++(a.extract sb (sb+n)).toList)→c.toList.Pairwise (le_ e) →
   Q true (List.foldl (fun a x=>match x with | (v,j)=>a.setIfInBounds (sa+k+j) v) a c.toList.zipIdx) ((d.setIfInBounds i (sa,na+nb,pw)).eraseIdxIfInBounds (i+1)) m':=fun c m' cp s=>by
  have xl:(a.extract (sa+k) sb).toList=(a.toList.drop (sa+k)).take (na - k):=by rw[Zbf,Zau];congr 1;lia
  have yl:(a.extract sb (sb+n)).toList=(a.toList.drop sb).take n:=by rw[Zbf,Zau];congr 1;lia
  rw[xl,yl] at cp
  have al:a.toList=a.toList.take sa++((a.toList.drop sa).take k++((a.toList.drop (sa+k)).take (na - k)++(a.toList.drop sb).take n)++(a.toList.drop (sb+n)).take (nb - n)++a.toList.drop (sb+nb)):=by
   conv=>lhs;rw[← Zav sa a.toList,spl a.toList sa k,spl a.toList (sa+k) (na - k),show sa+k+(na - k)=sb by lia,spl a.toList sb n,spl a.toList (sb+n) (nb - n),show sb+n+(nb - n)=sb+nb by lia]
   simp[Zb5]
  have la:a.toList.length=a.size:=Zad
  have cl:c.toList.length=na - k+n:=by
   rw[cp.length_eq,Zv,Z6,Z6,Zbl,Zbl]
   lia
  have O:=wr_list (sa+k) c.toList 0 a (by lia)
  rw[Zdj,cl,show sa+k+(na - k+n)=sb+n by lia] at O
  have F:(List.foldl (fun a x=>match x with | (v,j)=>a.setIfInBounds (sa+k+j) v) a c.toList.zipIdx).toList=a.toList.take sa++((a.toList.drop sa).take k++c.toList++(a.toList.drop (sb+n)).take (nb - n)++a.toList.drop (sb+nb)):=by
   rw[O,show a.toList.take (sa+k)=a.toList.take sa++(a.toList.drop sa).take k from List.take_add]
   conv=>lhs;rw[spl a.toList (sb+n) (nb - n),show sb+n+(nb - n)=sb+nb by lia]
   simp[Zb5]
  have D:(a.toList.take sa).length=sa:=by rw[Z6];lia
  have K:((a.toList.drop sa).take k++((a.toList.drop (sa+k)).take (na - k)++(a.toList.drop sb).take n)++(a.toList.drop (sb+n)).take (nb - n)).length=na+nb:=by
   simp only[Zv,Z6,Zbl]
   lia
  have sm:=sm_mid al F (((List.Perm.refl _).append cp).append (.refl _)) (lo:=sa) (hi:=sb+nb) D.symm (by rw[D,K];lia)
  refine q _ m' sm ?_
  have l3:((a.toList.drop sa).take k++c.toList++(a.toList.drop (sb+n)).take (nb - n)).length=na+nb:=by
   rw[← K]
   exact (((List.Perm.refl _).append cp).append (.refl _)).length_eq
  have M:=(upc_pw (e:=e) F).mpr ?_
  ·rw[D,l3] at M
   exact M
  -- the cross facts
  have U:∀ v∈c.toList,(∃ j,k≤j∧j<na∧v=kat a (sa+j))∨∃ j,j<n∧v=kat a (sb+j):=fun v b=>by
   rcases Zaa.mp (cp.mem_iff.mp b) with b | b
   ·obtain⟨j,h,t,rfl⟩:=mem_sg b
    exact .inl ⟨k+j,by lia,by lia,by rw[Zbo]⟩
   ·obtain⟨j,h,t,rfl⟩:=mem_sg b
    exact .inr ⟨j,h,rfl⟩
  have N:∀ v∈(a.toList.drop sa).take k,∃ j,j<k∧v=kat a (sa+j):=fun v b=>by
   obtain⟨j,h,t,rfl⟩:=mem_sg b
   exact⟨j,h,rfl⟩
  have rf:∀ v∈(a.toList.drop (sb+n)).take (nb - n),∃ j,n≤j∧j<nb∧v=kat a (sb+j):=fun v b=>by
   obtain⟨j,h,t,rfl⟩:=mem_sg b
   exact⟨n+j,by lia,by lia,by rw[Zbo]⟩
  have R:∀ j,j<k→le_ e (kat a (sa+j)) (kat a sb):=fun j f=>by simpa [bey] using L j f
  have X:∀ j,n≤j→j<nb→le_ e (kat a (sa+(na - 1))) (kat a (sb+j)):=fun j h3 Z=>by simpa [bey] using V j h3 Z
  have pl:((a.toList.drop sa).take k).Pairwise (le_ e):=by
   refine (upc_pw (a:=a) (P:=a.toList.take sa) (T:=a.toList.drop (sa+k)) ?_).mp ?_
   ·rw[← spl];exact (Zav _ _).symm
   ·rw[D]
    exact fun i j l f=>u1 i j l (by rw[Z6] at f;lia)
  have pr:((a.toList.drop (sb+n)).take (nb - n)).Pairwise (le_ e):=by
   refine (upc_pw (a:=a) (P:=a.toList.take (sb+n)) (T:=a.toList.drop (sb+n+(nb - n))) ?_).mp ?_
   ·rw[← spl];exact (Zav _ _).symm
   ·rw[show (a.toList.take (sb+n)).length=sb+n by rw[Z6];lia]
    intro i j l f
    rw[Z6] at f
    have:=u2 (n+i) (n+j) (by lia) (by lia)
    dsimp only at this ⊢
    rw[Zbo,Zbo]
    exact this
  refine Za4.mpr ⟨Za4.mpr ⟨pl,s,fun v b w H=>?_⟩,pr,fun v b w H=>?_⟩
  ·obtain⟨j,h,rfl⟩:=N v b
   rcases U w H with ⟨r,I,p,rfl⟩ | ⟨r,I,rfl⟩
   ·exact u1 j r (by lia) p
   ·exact e.tr _ _ _ (R j h) (u r (by lia))
  ·obtain⟨r,I,p,rfl⟩:=rf w H
   rcases Zaa.mp b with b | b
   ·obtain⟨j,h,rfl⟩:=N v b
    exact e.tr _ _ _ (R j h) (u r p)
   ·rcases U v b with ⟨j,h,t,rfl⟩ | ⟨j,h,rfl⟩
    ·exact e.tr _ _ _ (E j t) (X r I p)
    ·exact u2 j r (by lia) p
 have S:=ma_ext (i:=sa+k) (j:=sb) g (by lia) u1 (by lia) (by lia)
 have W:=ma_ext (i:=sb) (j:=sb+n) g (by lia) u2 (by lia) (by lia)
 have sx:(a.extract (sa+k) sb).size=na - k:=by rw[Zbi];lia
 have sy:(a.extract sb (sb+n)).size=n:=by rw[Zbi];lia
 have A:e.g (kat (a.extract (sa+k) sb) 0) (kat (a.extract sb (sb+n)) 0)=false:=by
  rw[El (by lia) (by lia),El (by lia) (by lia)]
  exact e.as _ _ (by simpa [bey] using k3 k (Zd _) kn)
 have B:∀ j,j<(a.extract sb (sb+n)).size→e.g (kat (a.extract (sa+k) sb) ((a.extract (sa+k) sb).size - 1)) (kat (a.extract sb (sb+n)) j)=false:=fun j f=>by
  rw[sx,El (by lia) (by lia),El (by lia) (by lia),show sa+k+(na - k - 1)=sa+(na - 1) by lia]
  exact e.as _ _ (by simpa [bey] using Y j (by lia))
 refine As (fun _=>Af (go_mergeLo S W (by lia) (by lia) A B fun c m' cp s=>?_)) fun _=>Af (go_mergeHi S W (by lia) (by lia) A B fun c m' cp s=>?_)
 ·exact Af (Dt rfl (Af (Dh (Ag (fin c m' cp s)))))
 ·exact Af (Dt rfl (Af (Dh (Ag (fin c m' cp s)))))
end
def Rf (e:SE)(a:Array Keyed):Nat→List (Nat×Nat×Nat)→Nat→Prop
 | s,[],lo=>s=lo
 | s,(st,n,_)::r,lo=>st=s∧1≤n∧UpC e (fun i=>kat a (s+i)) n∧Rf e a (s+n) r lo
section
variable {e:SE} {a:Array Keyed} {d:Pd} {m lo:Nat}
theorem rf_len:∀ {l:List (Nat×Nat×Nat)} {s:Nat},Rf e a s l lo→s+l.length≤lo
 | [],s,h=>by rw[show s=lo from h];exact Zd _
 | (st,n,p)::r,s,⟨_,h1,_,h2⟩=>by
  have:=rf_len h2
  rw[Zab]
  lia
theorem Jm {a' : Array Keyed}:∀ {l:List (Nat×Nat×Nat)} {s:Nat},Rf e a s l lo→(∀ i,s≤i→i<lo→kat a' i=kat a i)→Rf e a' s l lo
 | [],s,h,k=>h
 | (st,n,p)::r,s,⟨h0,h1,h2,h3⟩,k=>⟨h0,h1,fun i j hij hj=>by
  have:=rf_len h3
  dsimp only
  rw[k _ (by lia) (by lia),k _ (by lia) (by lia)]
  exact h2 i j hij hj,Jm h3 fun i i1 i2=>k i (by lia) i2⟩
theorem G6 {n p:Nat}(hn:1≤n)(u:UpC e (fun i=>kat a (lo+i)) n):∀ {l:List (Nat×Nat×Nat)} {s:Nat},Rf e a s l lo→Rf e a s (l++[(lo,n,p)]) (lo+n)
 | [],s,h=>by
  have h:s=lo:=h
  subst h
  exact⟨rfl,hn,u,rfl⟩
 | (st,n',p')::r,s,⟨h0,h1,h2,h3⟩=>⟨h0,h1,h2,G6 hn u h3⟩
theorem rf_mod {f:Nat×Nat×Nat→Nat×Nat×Nat}(hf:∀ x,(f x).1=x.1∧(f x).2.1=x.2.1):∀ {l:List (Nat×Nat×Nat)} {s k:Nat},Rf e a s l lo→Rf e a s (l.modify k f) lo
 | [],s,k,h=>by cases k <;> exact h
 | x::r,s,0,h=>by
  obtain⟨st,n,p⟩:=x
  obtain⟨h0,h1,h2,h3⟩:=h
  have:=hf (st,n,p)
  show Rf e a s (f (st,n,p)::r) lo
  generalize f (st,n,p)=y at this
  obtain⟨y1,y2,y3⟩:=y
  obtain⟨e1,e2⟩:=this
  cases e1
  cases e2
  exact⟨h0,h1,h2,h3⟩
 | (st,n,p)::r,s,k+1,⟨h0,h1,h2,h3⟩=>⟨h0,h1,h2,rf_mod hf h3⟩
theorem rf_two {sa na p sb nb q:Nat}:∀ {l:List (Nat×Nat×Nat)} {s i:Nat},Rf e a s l lo→l[i]?=some (sa,na,p)→l[i+1]?=some (sb,nb,q) →
  s≤sa∧sb=sa+na∧1≤na∧1≤nb∧sb+nb≤lo∧UpC e (fun i=>kat a (sa+i)) na∧UpC e (fun i=>kat a (sb+i)) nb∧∀ a',Sm a a' sa (sb+nb)→UpC e (fun i=>kat a' (sa+i)) (na+nb)→Rf e a' s ((l.set i (sa,na+nb,p)).eraseIdx (i+1)) lo
 | [],_,_,_,h,_=>by cases h
 | x::[],_,0,_,_,h=>by cases h
 | x::y::r,s,0,h,h1,h2=>by
  cases h1
  cases h2
  obtain⟨rfl,g1,g2,rfl,g3,g4,g5⟩:=h
  have:=rf_len g5
  refine⟨Zd _,rfl,g1,g3,by lia,g2,g4,fun a' sm u=>⟨rfl,by lia,u,?_⟩⟩
  rw[← Zbo]
  exact Jm g5 fun i i1 i2=>sm.ou i (.inr i1)
 | (st,n,p')::r,s,i+1,⟨h0,g1,g2,g3⟩,h1,h2=>by
  obtain⟨k1,k2,k3,k4,k5,k6,k7,k8⟩:=rf_two g3 (i:=i) h1 h2
  refine⟨by lia,k2,k3,k4,k5,k6,k7,fun a' sm u=>⟨h0,g1,fun i j hij hj=>?_,k8 a' sm u⟩⟩
  dsimp only
  rw[sm.ou _ (.inl (by lia)),sm.ou _ (.inl (by lia))]
  exact g2 i j hij hj
theorem go_mg {i:Nat}{Q:Bool→Array Keyed→Pd→Nat→Prop}(g:GdA e a)(r:Rf e a 0 d.toList lo)(hl:lo≤a.size)(hi:i+1<d.size)(q:∀ a' d' m',Sm a a' 0 lo→Rf e a' 0 d'.toList lo→d'.size+1=d.size→Q true a' d' m'):Go e (mergeAt' i) a d m Q:=by
 obtain⟨⟨y,v,p⟩,c⟩:∃ x,d[i]?=some x:=⟨_,Z3 (by lia)⟩
 obtain⟨⟨t,w,z⟩,f⟩:∃ x,d[i+1]?=some x:=⟨_,Z3 hi⟩
 obtain⟨A,j,s,l,k,n,o,h⟩:=rf_two r (i:=i) (by rw[Zaj];exact c) (by rw[Zaj];exact f)
 refine go_mergeAt c f g j s l (by lia) n o fun a' m' b u=>q _ _ _ (b.wide (Zt _) k) ?_ ?_
 ·rw[Array.toList_eraseIdxIfInBounds,Array.toList_setIfInBounds]
  exact h a' b u
 ·rw[← Zad,Array.toList_eraseIdxIfInBounds,Array.toList_setIfInBounds,List.length_eraseIdx,List.length_set,Zad,Zw hi]
  lia
theorem go_runs {Q:Unit→Array Keyed→Pd→Nat→Prop}(g:GdA e a)(q:∀ a' d' m',Sm a a' 0 a.size→UpC e (kat a') a.size→Q () a' d' m'):Go e sortRuns' a #[] 7 Q:=by
 unfold sortRuns'
 walk_at "%sortRuns"
 refine Af (Dh ?_)
 dsimp only
 refine Af (Bz (Q:=fun b a' d' m'=>b.1=none∧Sm a a' 0 a.size∧Rf e a' 0 d'.toList a.size) (Ck (fun i b a' d' m'=>∃ c,b=(none,c)∧i≤c∧c≤a.size∧Sm a a' 0 a.size∧Rf e a' 0 d'.toList c) (Zt _) ⟨0,rfl,Zd _,Zt _,Sm.refl ..,rfl⟩ ?_ ?_) ?_)
 ·rintro i b J l N _ hi ⟨c,rfl,l1,l2,f,rf⟩
  have w1:=f.sz
  have g1:=f.gd g
  refine As (fun z=>Ag ⟨rfl,f,by rw[show a.size=c by have:c≥a.size:=z;lia];exact rf⟩) fun z=>?_
  have z' : c<a.size:=by have:¬ c≥a.size:=z;lia
  refine Af (go_count g1 (by show 1≤a.size - c;lia) (by show c+(a.size - c)≤_;lia) fun k I Y k2 O Z=>?_)
  have w2:=O.sz
  have P:Rf e I 0 l.toList c:=Jm rf fun i _ T=>O.ou i (.inl T)
  have L : Sm a I 0 a.size:=f.trans (O.wide (Zt _) (by lia))
  refine As (fun y=>Af (Ee (Af (go_bin (L.gd g) Y (by have y:k<_:=y;exact Nat.le_min.mpr ⟨k2,Zcv y⟩) (Zah (Nat.add_le_add_left (Nat.min_le_left _ _) c) (by show c+(a.size - c)≤_;lia)) Z fun V R B=>?_)))) fun y=>?_
  ·revert R B
   generalize M:min (a.size - c) (("%minRun") a.size a.size 0)=w
   intro R B
   have A:1≤w:=by rw[← M];exact Nat.le_min.mpr ⟨by lia,by have y:k<_:=y;exact Zah Y (Zcv y)⟩
   have o:c+w≤a.size:=by rw[← M];exact Zah (Nat.add_le_add_left (Nat.min_le_left _ _) c) (by lia)
   have G:Rf e V 0 l.toList c:=Jm P fun i _ T=>R.ou i (.inl T)
   have v : Sm a V 0 a.size:=L.trans (R.wide (Zt _) o)
   refine Af (Dh ?_)
   show Go e (match l.back? with | _=>_) _ _ _ _
   cases C:l.back? with
   | none =>
    refine Af (Dt rfl (Ag ⟨c+w,rfl,by lia,o,v,?_⟩))
    rw[Zbq]
    exact G6 A B G
   | some x =>
    obtain⟨s1,n1,p1⟩:=x
    refine Af (Bz (Q:=fun b a' d' m'=>b.1=none∧Sm a a' 0 a.size∧Rf e a' 0 d'.toList c∧UpC e (fun i=>kat a' (c+i)) w) (Ck (fun i b a' d' m'=>b.1=none∧Sm a a' 0 a.size∧Rf e a' 0 d'.toList c∧UpC e (fun i=>kat a' (c+i)) w) (Zt _) ⟨rfl,v,G,B⟩ ?_ fun b a' d' m' h=>h) ?_)
    ·rintro t b X d S _ ht ⟨E,m,s,r⟩
     refine Af (Dh ?_)
     show Go e (match (if d.size > 1 then d[d.size - 2]? else none) with | _=>_) _ _ _ _
     by_cases K:d.size > 1
     ·rw[Zw K]
      obtain⟨⟨x1,x2,x3⟩,W⟩:∃ x,d[d.size - 2]?=some x:=⟨_,Z3 (by lia)⟩
      rw[W]
      refine As (fun _=>Ag ⟨rfl,m,s,r⟩) fun _=>?_
      refine Af (go_mg (m.gd g) s (by rw[m.sz];lia) (by show d.size - 2+1<d.size;lia) fun a' d' m' F U _=>?_)
      refine Ag ⟨rfl,m.trans (F.wide (Zd _) (by lia)),U,fun i j D H=>?_⟩
      dsimp only
      rw[F.ou _ (.inr (by lia)),F.ou _ (.inr (by lia))]
      exact r i j D H
     ·rw[Zs K]
      exact Ag ⟨rfl,m,s,r⟩
    ·rintro⟨X,b5⟩ a4 d S ⟨E,m,s,r⟩
     cases E
     refine Af (Dt rfl (Af (Dt rfl (Ag ⟨c+w,rfl,by lia,o,m,?_⟩))))
     rw[Zbq,Array.toList_modify]
     refine G6 A r ?_
     refine rf_mod ?_ s
     exact fun _=>⟨rfl,rfl⟩
  ·have A:=Y
   have o:c+k≤a.size:=by lia
   have G:=P
   have v:=L
   have B:=Z
   revert A o G v B
   generalize k=w
   generalize I=V
   intro A o G v B
   refine Af (Dh ?_)
   show Go e (match l.back? with | _=>_) _ _ _ _
   cases C:l.back? with
   | none =>
    refine Af (Dt rfl (Ag ⟨c+w,rfl,by lia,o,v,?_⟩))
    rw[Zbq]
    exact G6 A B G
   | some x =>
    obtain⟨s1,n1,p1⟩:=x
    refine Af (Bz (Q:=fun b a' d' m'=>b.1=none∧Sm a a' 0 a.size∧Rf e a' 0 d'.toList c∧UpC e (fun i=>kat a' (c+i)) w) (Ck (fun i b a' d' m'=>b.1=none∧Sm a a' 0 a.size∧Rf e a' 0 d'.toList c∧UpC e (fun i=>kat a' (c+i)) w) (Zt _) ⟨rfl,v,G,B⟩ ?_ fun b a' d' m' h=>h) ?_)
    ·rintro t b X d S _ ht ⟨E,m,s,r⟩
     refine Af (Dh ?_)
     show Go e (match (if d.size > 1 then d[d.size - 2]? else none) with | _=>_) _ _ _ _
     by_cases K:d.size > 1
     ·rw[Zw K]
      obtain⟨⟨x1,x2,x3⟩,W⟩:∃ x,d[d.size - 2]?=some x:=⟨_,Z3 (by lia)⟩
      rw[W]
      refine As (fun _=>Ag ⟨rfl,m,s,r⟩) fun _=>?_
      refine Af (go_mg (m.gd g) s (by rw[m.sz];lia) (by show d.size - 2+1<d.size;lia) fun a' d' m' F U _=>?_)
      refine Ag ⟨rfl,m.trans (F.wide (Zd _) (by lia)),U,fun i j D H=>?_⟩
      dsimp only
      rw[F.ou _ (.inr (by lia)),F.ou _ (.inr (by lia))]
      exact r i j D H
     ·rw[Zs K]
      exact Ag ⟨rfl,m,s,r⟩
    ·rintro⟨X,b5⟩ a4 d S ⟨E,m,s,r⟩
     cases E
     refine Af (Dt rfl (Af (Dt rfl (Ag ⟨c+w,rfl,by lia,o,m,?_⟩))))
     rw[Zbq,Array.toList_modify]
     refine G6 A r ?_
     refine rf_mod ?_ s
     exact fun _=>⟨rfl,rfl⟩
 ·rintro b J l N ⟨c,rfl,l1,l2,f,rf⟩
  exact⟨rfl,f,by rw[show a.size=c by lia];exact rf⟩
 ·rintro⟨J,I⟩ a1 l N ⟨C,f,rf⟩
  cases C
  have w1:=f.sz
  refine Af (Bz (Q:=fun b a' d' m'=>b.1=none∧Sm a a' 0 a.size∧Rf e a' 0 d'.toList a.size∧d'.size≤1) (Ck (fun i b a' d' m'=>b.1=none∧Sm a a' 0 a.size∧Rf e a' 0 d'.toList a.size∧d'.size+i≤a.size) (Zt _) ⟨rfl,f,rf,by have:=rf_len rf;rw[Zad] at this;lia⟩ ?_ ?_) ?_)
  ·rintro i b J l N _ hi ⟨C,f,rf,hd⟩
   refine Af (Dh ?_)
   refine As (fun z=>Ag ⟨rfl,f,rf,z⟩) fun z=>?_
   have z' : 1<l.size:=by have:¬ l.size≤1:=z;lia
   refine Af (go_mg (f.gd g) rf (by rw[f.sz];exact Zd _) ?_ fun a' d' m' O P w2=>?_)
   ·show (if _ then l.size - 2 - 1 else l.size - 2)+1<l.size
    split <;> lia
   ·exact Ag ⟨rfl,f.trans O,P,by lia⟩
  ·rintro b J l N ⟨C,f,rf,hd⟩
   exact⟨C,f,rf,by lia⟩
  ·rintro⟨J,I⟩ a1 l N ⟨C,f,rf,hd⟩
   cases C
   refine Ag (q _ _ _ f ?_)
   match hl:l.toList,rf with
   | [],rf =>
    have rf:0=a.size:=rf
    intro i j _ H
    lia
   | (st,n,p)::[],⟨_,_,u,M⟩ =>
    have M:0+n=a.size:=M
    intro i j D H
    have:=u i j D (by lia)
    dsimp only at this
    rw[Zdc,Zdc] at this
    exact this
   | _::_::_,_ =>
    have:=congrArg List.length hl
    rw[Zad] at this
    simp at this
    lia
end
section
variable {prog:Program} {w:World} {A:Around} {E:Value→Shared→Prop} {s:Shared} {vs:List Value} {g:Value→Value→Bool}
theorem zip_self (vs:List Value):∀ x∈(vs.toArray.zip vs.toArray).toList,x.1∈vs∧x.1=x.2:=fun x a=>by
 rw[ksk_zip] at a
 obtain⟨i,b,rfl⟩:=Zb8 a
 rw[List.getElem_zip]
 exact⟨Zc0 _,rfl⟩
theorem E8 {n:Nat}{P:PySem.Fin→Shared→Prop}{κ:SortKind}(as:∀ x y,g x y=true→g y x=false)(tr:∀ x y z,g y x=false→g z y=false→g z x=false)(ho:s.heap.get? a=some (seqObj "list" vs.toArray n))(h2:2≤vs.length)(hz:vs.length≤sizeLine)(hk:∀ Q:SortKind→Shared→Prop,Q κ { s with heap:=C6 s.heap a vs }→wpAny (model prog w) A (keyKind' vs.toArray) Q (fun _ _=>False) { s with heap:=C6 s.heap a vs })(hc:∀ x y s' (C:Bool→Shared→Prop),x∈vs→y∈vs→(∃ tk,s'={ s with heap:=C6 s.heap a vs,toks:=tk })→(∀ s'',(∃ tk,s''={ s with heap:=C6 s.heap a vs,toks:=tk })→C (g x y) s'')→wpAny (model prog w) A (keyLt' κ x y) C (fun _ _=>False) s')(h:∀ (out:List Value) (tk:Nat),out.Perm vs→out.Pairwise (fun x y=>g y x=false)→P (Fin.done (Flow.ret Value.none)) { s with heap:=sortedHeap s.heap a vs out.toArray,toks:=tk }) :
  wpAny (model prog w) A (Builtin.«list.sort» { pos:=[Value.ref a] }) P E s:=by
 have l:=get?_update_seq ho (fun _=>(#[]:Array Value))
 rw[list_sort_plain a]
 refine Zb (listItems_at ho rfl (Zb (listUpdate_at ho rfl (Zb (seqEpoch_at l rfl (Zb (wpAny_newTuple (Zb (wpAny_newList (Zbc ?_) (Zt _))) hz)))) hz (Zt _))))
 have m:¬ vs.toArray.size<2:=by rw[Zh];lia
 show wpAny (model prog w) A (if vs.toArray.size<2 then _ else _) P E _
 rw[Zs m]
 refine Zb (Zbt (hk _ ?_) (fun R s' h=>h) (fun _ _ z=>z.elim))
 rw[Zs m]
 have run:=go_runs (e:=⟨prog,w,A,E,fun s'=>∃ tk,s'={ s with heap:=C6 s.heap a vs,toks:=tk },κ,fun x=>x.1∈vs∧x.1=x.2,fun x y=>g x.1 y.1,fun x y=>as _ _,fun x y z=>tr _ _ _,fun x y s' C t K=>hc x.1 y.1 s' C t.1 K.1⟩) (a:=vs.toArray.zip vs.toArray)
  (Q:=fun _ b _ _=>Sm (vs.toArray.zip vs.toArray) b 0 (vs.toArray.zip vs.toArray).size∧∀ i j,i<j→j<(vs.toArray.zip vs.toArray).size→g (kat b j).1 (kat b i).1=false) (zip_self vs) (fun b c d J h2=>⟨J,h2⟩)
 have B:wpAny (model prog w) A (sortRuns'.run (SortSt.mk' κ (vs.toArray.zip vs.toArray) #[] 7 none)) (fun r s'=>∃ b c d,r.2=SortSt.mk' κ b c d none∧(∃ tk,s'={ s with heap:=C6 s.heap a vs,toks:=tk })∧Sm (vs.toArray.zip vs.toArray) b 0 (vs.toArray.zip vs.toArray).size∧∀ i j,i<j→j<(vs.toArray.zip vs.toArray).size→g (kat b j).1 (kat b i).1=false) E { s with heap:=C6 s.heap a vs } :=
  run (fun _ M s'=>∃ b c d,M=SortSt.mk' κ b c d none∧(∃ tk,s'={ s with heap:=C6 s.heap a vs,toks:=tk })∧Sm (vs.toArray.zip vs.toArray) b 0 (vs.toArray.zip vs.toArray).size∧∀ i j,i<j→j<(vs.toArray.zip vs.toArray).size→g (kat b j).1 (kat b i).1=false) _ ⟨s.toks,rfl⟩ fun v b c d s' r q=>⟨b,c,d,rfl,r,q⟩
 refine Zb (Zbt B ?_ (fun _ _ z=>z))
 rintro⟨⟨⟩,D⟩ s' ⟨b,c,d,p,⟨tk,rfl⟩,k,L⟩
 have p:D=SortSt.mk' κ b c d none:=p
 subst p
 have o:(C6 s.heap a vs).get? a=some (seqObj "list" #[] (if ((#[]:Array Value).size == vs.toArray.size)=true then n else n+1)):=Zc _ (Zc _ l)
 have H:(b.toList.map (·.2)).Perm vs:=by
  have:=k.pm.map (·.2)
  rw[ksk_zip,List.map_snd_zip (Zd _)] at this
  exact this
 have O:b.size=vs.length:=by rw[k.sz];simp
 have N:Array.map (fun x=>x.snd) (arrOf (SortSt.mk' κ b c d none))=(b.toList.map (·.2)).toArray:=by
  show Array.map (fun x=>x.snd) b=_
  rw[← List.map_toArray]
 dsimp only
 rw[N]
 refine Zb (seqEpoch_at o rfl (Zb (listUpdate_at o rfl ?_ (Zt _) ?_)))
 ·show wpAny _ _ (match (none:Option Value) with | _=>_) _ _ _
  dsimp only
  rw[Zs (by simp)]
  refine Zk (h _ tk H ?_)
  rw[List.pairwise_map,Zck]
  intro i j u f I
  rw[Zad] at u f
  have:=L i j I (by rw[← k.sz];exact f)
  have G:=Ay u
  have F:=Ay f
  rw[Z3 u] at G
  rw[Z3 f] at F
  rw[← Zm G,← Zm F] at this
  have eq:∀ x∈b.toList,x.1=x.2:=fun x t=>(zip_self vs x (k.pm.mem_iff.mp t)).2
  rw[Zb4,Zb4,← eq _ (by simp),← eq _ (by simp)]
  exact this
 ·rw[Zh,H.length_eq]
  exact Zap hz
theorem sorted_big {Q:Value→Shared→Prop}{κ:SortKind}(as:∀ x y,g x y=true→g y x=false)(tr:∀ x y z,g y x=false→g z y=false→g z x=false)(hl:s.heap.IsList l vs.toArray)(h2:2≤vs.length)(hz:vs.length≤sizeLine)(hk:∀ (h' : Heap) (Q:SortKind→Shared→Prop),(∀ b o,s.heap.get? b=some o→h'.get? b=some o)→Q κ { s with heap:=h' }→wpAny (model prog w) A.in1.in1 (keyKind' vs.toArray) Q (fun _ _=>False) { s with heap:=h' })(hc:∀ (h' : Heap) x y s' (C:Bool→Shared→Prop),(∀ b o,s.heap.get? b=some o→h'.get? b=some o)→x∈vs→y∈vs→(∃ tk,s'={ s with heap:=h',toks:=tk })→(∀ s'',(∃ tk,s''={ s with heap:=h',toks:=tk })→C (g x y) s'')→wpAny (model prog w) A.in1.in1 (keyLt' κ x y) C (fun _ _=>False) s')(h:∀ (out:List Value) (tk:Nat),out.Perm vs→out.Pairwise (fun x y=>g y x=false)→Q (Value.ref (s.heap.objs.size+1)) { s with heap:=sortedAll s.heap vs out.toArray,toks:=tk }) :
  wpAny (model prog w) A (call (Value.builtin "sorted") [Value.ref l]) Q E s:=by
 have d:((s.heap.push (seqObj "list" #[] 0)).update s.heap.objs.size (Obj.mapSeq fun x=>x++vs.toArray)).objs.size=s.heap.objs.size+1:=by
  rw[Heap.size_update,Za1]
 have a:(((s.heap.push (seqObj "list" #[] 0)).update s.heap.objs.size (Obj.mapSeq fun x=>x++vs.toArray)).push (seqObj "list" vs.toArray 0)).get? (s.heap.objs.size+1)=some (seqObj "list" vs.toArray 0):=by
  have:=Zn ((s.heap.push (seqObj "list" #[] 0)).update s.heap.objs.size (Obj.mapSeq fun x=>x++vs.toArray)) (o:=seqObj "list" vs.toArray 0) rfl
  rw[d] at this
  exact this
 have c:∀ b o,s.heap.get? b=some o→(C6 (((s.heap.push (seqObj "list" #[] 0)).update s.heap.objs.size (Obj.mapSeq fun x=>x++vs.toArray)).push (seqObj "list" vs.toArray 0)) (s.heap.objs.size+1) vs).get? b=some o:=fun b o e=>by
  have f:=Zo e
  refine Zc _ (Zc _ ?_)
  rw[(Zcy _ (s.heap.objs.size+1) _).2 b (Z5 (Zb6 f))]
  refine Zc _ ?_
  rw[(Zcy _ s.heap.objs.size _).2 b (Z5 f)]
  exact Zc _ e
 refine Calls.call_function_entry kind_sorted plain_sorted entry_sorted (args_sorted1 (Value.ref l)) ?_
 show wpAny _ _ (Builtin.sorted _) _ _ _
 unfold Builtin.sorted
 refine Zb (Zk (Zb (collect_list hl (Zb (wpAny_newList ?_ hz)) hz)))
 show wpAny _ _ (do
  let _ ← holding [Value.ref _] (call (Value.builtin "list.sort") [Value.ref _] _)
  ret (Value.ref _)) _ _ _
 rw[d]
 refine Zb (Zbc (Zbu slot_list_sort ⟨_,a,rfl⟩ entry_list_sort (E8 as tr a h2 hz (fun Q=>hk _ Q c) (fun x y s' C=>hc _ x y s' C c) fun out tk i j=>?_) (args_list_sort (Value.ref (s.heap.objs.size+1)))))
 exact⟨Value.none,rfl,Zk ⟨Value.ref (s.heap.objs.size+1),rfl,h out tk i j⟩⟩
end
end
end My
namespace My
noncomputable section
open PySem PySem.Spec PyProof.Rows L2
theorem kv_get {kvs:List (Key×V)}{vs:List (Key×Value)}(r:KV kvs vs){i:Nat}{k:Key}{x:Value}(e:vs[i]?=some (k,x)):∃ v,kvs[i]?=some (k,v):=by
 have b : Paired (fun (p:Key×V) (q:Key×Value)=>p.1=q.1∧Bl p.2 q.2) kvs vs:=r
 clear r
 induction b generalizing i with
 | nil=>simp at e
 | @cons p q d f h t c =>
  cases i with
  | zero =>
   have a : q=(k,x):=Zm e
   refine⟨p.2,?_⟩
   show some p=some (k,p.2)
   rw[show p=(p.1,p.2) from rfl,h.1,a]
  | succ i=>exact c (i:=i) e
theorem is_kV {P:Program}{w:World}{k:Key}{u:Value}(h:(Bc P w).is k u=true):Bl (kV k) u:=by
 cases k with
 | inl i =>
  have a : Value.isInt i u=true:=h
  cases u with
  | int j t =>
   have:j=i:=by simpa [Value.isInt] using a
   exact⟨t,by rw[this]⟩
  | _=>simp[Value.isInt] at a
 | inr x =>
  have a : Value.isStrOf x u=true:=h
  cases u with
  | str y t =>
   have:y=x:=by simpa [Value.isStrOf] using a
   exact⟨t,by rw[this]⟩
  | _=>simp[Value.isStrOf] at a
end
end My
namespace My
noncomputable section
open PySem PySem.W PySem.Spec PyProof.Rows L2
def hKeys (a d:Addr):HO:=.ext fun h=>KdlKeysView h a d
def rKeys (x:V)(xs:List V)(H:Hp)(Q:VK):Prop:=∃ d kvs,x = .ref d∧xs=[]∧H d=some (.dK kvs)∧∀ v,H v=none→Q (.ref v) (upd H v (hKeys v d))
section
variable {X:Cx}
theorem mt_keys:MtR X "dict.keys" rKeys:=by
 intro g s σ H x y v u Q I l k h
 obtain⟨d,kvs,rfl,rfl,j,q⟩:=h
 cases l
 have c:=k.zero
 subst c
 obtain⟨_,b,w,z,m⟩:=dk_of I.hok j
 have f:s.TypeIs (.ref d) "dict" := m.typeIs
 refine Zbu PySem.F.slot_dict_keys f PySem.F.entry_dict_keys ?_ (PySem.F.args_dict_keys_1 _)
 show wpAny _ _ (do
  let d ← Builtin.Dict.noArgs "keys" _
  Builtin.Dict.showsAll d
  let r ← newFields "dict_keys" [Value.ref d]
  ret r) _ _ _
 refine Zb ?_
 unfold Builtin.Dict.noArgs
 refine Zb (wpAny_notOrdered_dict f ?_)
 refine Zb (Zk ?_)
 refine Zb (Zk ?_)
 refine Zk ?_
 show wpAny _ _ (Builtin.Dict.showsAll d >>= _) _ _ _
 unfold Builtin.Dict.showsAll
 rw[Zs (by rw[b];exact Zu)]
 refine Zb (Zk (Zb (Zby ?_)))
 refine Zk ⟨Value.ref s.heap.objs.size,rfl,.ref s.heap.objs.size,_,I.laid (a:=s.heap.objs.size) (o:=hKeys s.heap.objs.size d) (t':=s.toks) (fun _ _ e=>Zc _ e) (Zd _) ?_,rfl,q _ (I.hok.fresh (Zd _))⟩
 refine⟨⟨_,Zn _ rfl,rfl,rfl⟩,⟨_,Zn _ rfl⟩,fun p t x e=>?_⟩
 obtain⟨o,n,i⟩:=x
 exact⟨o,e o n,i⟩
end
theorem cps_as {a b:List Nat}(h:decide (a<b)=true):decide (b<a)=false:=Z9 fun g=>List.lt_asymm (Zaf h) g
theorem cps_tr {a b c:List Nat}(h:decide (b<a)=false)(g:decide (c<b)=false):decide (c<a)=false:=Z9 fun z=>List.not_lt.mpr (List.le_trans (List.not_lt.mp (Zcg h)) (List.not_lt.mp (Zcg g))) z
section
variable {prog:Program} {w:World} {A:Around} {E:Value→Shared→Prop} {s:Shared}
theorem wp_collectK {T:String}{r d:Addr}{n:Nat}{P:Nat→Value→Prop}{OK:Heap→Prop}{R:List Value→Shared→Prop}(S:KdlSrc prog w T r d n P OK)(hh:A.handled=none)(ok:OK s.heap)(hn:n≤sizeLine)(h:∀ (h' : Heap) (tk:Nat) (acc:Array Value),s.heap.objs.size≤h'.objs.size→(∀ b o,s.heap.get? b=some o→h'.get? b=some o)→ItemsOf P acc n→R acc.toList { s with heap:=h',toks:=tk }) :
  wpAny (model prog w) A (collect (.ref r)) R E s:=by
 obtain⟨v,t⟩:=S.there _ ok
 unfold collect
 refine Zb (wpAny_runValue (Zb9 entry_proto_collect' ?_))
 rw[Zbe PySem.F.plain_proto_collect _]
 show wpAny _ A.in1 (newList [] >>= fun l=>again (.builtin "list.__iadd__" ⟨[l,.ref r],[]⟩)) _ _ s
 refine Zb (Zby ?_)
 refine Zk ⟨Zcf PySem.F.plain_list_iadd _,Zb9 entry_list_iadd' ?_⟩
 rw[Zbe PySem.F.plain_list_iadd _]
 have m:(s.heap.push { cls:=.type "list", data:=.seq ([]:List Value).toArray }).get? s.heap.objs.size=some { cls:=.type "list", data:=.seq #[] }:=Zn _ rfl
 show wpAny _ A.in1 (Builtin.List.listExtendWith (.ref s.heap.objs.size) (.ref r) (.ref s.heap.objs.size)) _ _ _
 have p:=kdl_extend (A:=A) (s:={ s with heap:=s.heap.push { cls:=.type "list", data:=.seq ([]:List Value).toArray } })
  (R:=fun (q:Result) (k : Shared)=>∃ (h' : Heap) (tk:Nat) (a : Array Value) (j : Nat),q = .ok (.ret (.ref s.heap.objs.size))∧k={ s with heap:=h',toks:=tk } ∧
   (∀ b o,s.heap.get? b=some o→h'.get? b=some o)∧h'.get? s.heap.objs.size=some { cls:=.type "list", dict:=none,data:=.seq a j,slots:=#[] }∧ItemsOf P a n)
  S hh (S.keep _ _ ok fun b _ o e=>Zc _ e) s.heap.objs.size (Zc8 v) (Zc8 t) (.ref s.heap.objs.size) 0 m
  (fun h' tk a j g c i=>⟨h',tk,a,j,rfl,rfl,fun b o e=>g b o (Z5 (Zo e)) (Zc _ e),c,i⟩) hn
 refine Zbt p (fun fin k x=>?_) fun e k x=>?_
 ·cases fin with
  | done f =>
   obtain⟨h',tk,a,j,e,rfl,g,c,i⟩:=x
   cases e
   show wpAny _ A (load s.heap.objs.size >>= _) _ _ _
   refine Zb (wpAny_load c ?_)
   exact Zk (h h' tk a (Zcv (Zo c)) g i)
  | again B =>
   refine⟨x.1,codeAny_mono x.2 fun q z y=>?_⟩
   obtain⟨h',tk,a,j,rfl,rfl,g,c,i⟩:=y
   show wpAny _ A (load s.heap.objs.size >>= _) _ _ _
   refine Zb (wpAny_load c ?_)
   exact Zk (h h' tk a (Zcv (Zo c)) g i)
 ·obtain⟨_,_,_,_,u,_⟩:=x
  cases u
def Fn:Value→Str
 | .str x _=>x
 | _=>Str.empty
theorem wp_sortedK {T:String}{r d:Addr}{n:Nat}{P:Nat→Value→Prop}{OK:Heap→Prop}{Q:Value→Shared→Prop}(S:KdlSrc prog w T r d n P OK)(hh:A.handled=none)(ok:OK s.heap)(hn:n≤sizeLine)(hs:∀ i v,P i v→∃ x t,v=Value.str x t)(h:∀ (h' : Heap) (tk:Nat) (l:Addr) (out acc:List Value) (c:Nat),s.heap.objs.size≤l→(∀ b o,s.heap.get? b=some o→h'.get? b=some o)→h'.get? l=some (seqObj "list" out.toArray c)→ItemsOf P acc.toArray n→out.Perm acc→out.Pairwise (fun x y=>decide ((Fn y).cps.toList<(Fn x).cps.toList)=false)→Q (.ref l) { s with heap:=h',toks:=tk }) :
  wpAny (model prog w) A (call (.builtin "sorted") [.ref r]) Q E s:=by
 refine Calls.call_function_entry kind_sorted plain_sorted entry_sorted (args_sorted1 _) ?_
 unfold Builtin.«sorted»
 refine Zb (m:=checkCount "sorted" 1 1 _) (Zk ?_)
 refine Zb (wp_collectK (A:=A.in1) S hh ok hn fun h' tk acc K p G=>?_)
 have V:acc.toList.length=n:=by rw[Zad];exact G.1
 refine Zb (wpAny_newList ?_ (by lia))
 have j:(h'.push (seqObj "list" acc.toList.toArray 0)).get? h'.objs.size=some (seqObj "list" acc.toList.toArray 0):=Zn _ rfl
 have k:∀ v∈acc.toList,∃ x t,v=Value.str x t:=fun v z=>by
  obtain⟨i,J⟩:=Zak.mp z
  rw[Zaj] at J
  exact hs i v (G.2 i v J)
 have fin:∀ (out:List Value) (f : Nat),out.Perm acc.toList→out.Pairwise (fun x y=>decide ((Fn y).cps.toList<(Fn x).cps.toList)=false)→Q (.ref h'.objs.size) { s with heap:=sortedHeap (h'.push (seqObj "list" acc.toList.toArray 0)) h'.objs.size acc.toList out.toArray,toks:=f }:=fun out f D B=>by
  obtain⟨e,I⟩:∃ e,(sortedHeap (h'.push (seqObj "list" acc.toList.toArray 0)) h'.objs.size acc.toList out.toArray).get? h'.objs.size=some (seqObj "list" out.toArray e):=sortedHeap_at (n:=0) j
  refine h _ f h'.objs.size out acc.toList e K (fun b o F=>?_) I (by simpa using G) D B
  have O:b≠h'.objs.size:=Z5 (Zo (p b o F))
  exact (sortedHeap_old O (by rw[Za1];exact Zb6 (Zo (p b o F)))).trans (Zc _ (p b o F))
 refine Zb (Zbc (Zbu slot_list_sort ⟨_,j,rfl⟩ entry_list_sort ?_ (args_list_sort _)))
 by_cases H:acc.toList.length<2
 ·refine Fb j H ⟨_,rfl,Zk ⟨_,rfl,fin acc.toList tk (.refl _) ?_⟩⟩
  match acc.toList,H with
  | [],_=>exact List.Pairwise.nil
  | [t],_=>exact List.pairwise_singleton _ _
 ·refine E8 (κ:=oneType') (g:=fun x y=>decide ((Fn x).cps.toList<(Fn y).cps.toList)) (fun _ _ h=>cps_as h) (fun _ _ _ h g=>cps_tr h g) j (by lia) (by lia) (fun Q q=>?_) (fun x y U C R L N M=>?_) fun out f D B=>⟨_,rfl,Zk ⟨_,rfl,fin out f D B⟩⟩
  ·refine kas_kind (T:=.type "str") (by lia) (fun v z=>?_) rfl rfl q
   obtain⟨x,t,rfl⟩:=k v z
   exact fun A Q E s _ q=>Zk q
  ·obtain⟨a,t,rfl⟩:=k x R
   obtain⟨b,u,rfl⟩:=k y L
   exact kas_lt_str (M _ N)
end
theorem kv_keys:∀ {kvs:List (Key×V)} {ws:List (Key×Value)},KV kvs ws→kvs.map (·.1)=ws.map (·.1)
 | _,_,.nil=>rfl
 | _,_,.cons h t=>by rw[Za8,Za8,h.1,kv_keys t]
def strK:Key→Str
 | .inr x=>x
 | _=>Str.empty
section
variable {X:Cx}
theorem call_sortedK (hc:X.calm=true):Dd X (.builtin "sorted") (fun xs H Q=>∃ (a d:Addr) (kvs:List (Key×V)),xs=[.ref a]∧H a=some (hKeys a d)∧H d=some (.dK kvs)∧(∀ p∈kvs,∃ x,p.1 = .inr x)∧∀ l zs,H l=none→SrtL zs→(∀ x:Str,x∈zs↔Sum.inr x∈kvs.map (·.1))→Q (.ref l) (upd H l (.lst (zs.map V.str)))):=by
 intro ab s σ H xs us Q I r h
 obtain⟨a,d,kvs,rfl,ha,hd,F,q⟩:=h
 obtain⟨u,rfl,ru⟩:=Cs r
 cases ru
 obtain⟨n,_,_⟩:=(show Cb X.prog X.w H s.heap a (hKeys a d) from I.hok a _ ha)
 obtain⟨hl,ac,ws,R,o,es,ep,d1,d2,d3,d4,d5,P⟩:=dk_of I.hok hd
 have lw:=R.length
 have j:∀ {i:Nat} {v:Value},(∃ k x,ws[i]?=some (k,x)∧(Bc X.prog X.w).is k v=true)→∃ x t p,kvs[i]?=some p∧p.1 = .inr x∧v=Value.str x t:=fun {i v} ⟨k,x,B,C⟩=>by
  obtain⟨y,g⟩:=kv_get R B
  obtain⟨z,A⟩:=F _ (Ze g)
  have A:k = .inr z:=A
  subst A
  obtain⟨t,rfl⟩:=(show ∃ t,v=Value.str z t from is_kV C)
  exact⟨z,t,_,g,rfl,rfl⟩
 refine wp_sortedK kdl_keys (I.ok.hd hc) ⟨n,o,es,d1,d2,d3,d4,d5,P⟩ (by lia) (fun i v f=>by
  obtain⟨x,t,_,_,_,e⟩:=j f
  exact⟨x,t,e⟩) fun h' tk l out b c K aa L S T Z=>?_
 have A:b.map Fn=kvs.map fun p=>strK p.1:=by
  refine Zcr fun i=>?_
  have l1:b.length=kvs.length:=by have:=S.1;rw[Zh] at this;lia
  rw[Zp,Zp]
  by_cases O:i<b.length
  ·have Y:b[i]?=some b[i]:=Zi O
   obtain⟨x,t,p,B,C,E⟩:=j (S.2 i b[i] (by rw[List.getElem?_toArray];exact Y))
   rw[Y,B,E]
   show some x=some (strK p.1)
   rw[C]
   rfl
  ·rw[Zb0 (by lia),Zb0 (by lia)]
   rfl
 have N:∀ v∈out,∃ x t,v=Value.str x t:=fun v n=>by
  obtain⟨i,O⟩:=Zak.mp (T.mem_iff.mp n)
  obtain⟨x,t,_,_,_,e⟩:=j (S.2 i v (by rw[List.getElem?_toArray];exact O))
  exact⟨x,t,e⟩
 have G:(out.map Fn).Perm (kvs.map fun p=>strK p.1):=by rw[← A];exact T.map _
 have D:∀ x:Str,x∈out.map Fn↔Sum.inr x∈kvs.map (·.1):=fun x=>by
  rw[G.mem_iff]
  constructor
  ·intro m
   obtain⟨p,f,rfl⟩:=Zar.mp m
   obtain⟨y,g⟩:=F p f
   exact Zar.mpr ⟨p,f,by rw[g];rfl⟩
  ·intro m
   obtain⟨p,f,e⟩:=Zar.mp m
   exact Zar.mpr ⟨p,f,by rw[e];rfl⟩
 have M:(out.map Fn).Nodup:=by
  rw[G.nodup_iff,show (kvs.map fun p=>strK p.1)=(kvs.map (·.1)).map strK by rw[Zda];rfl]
  rw[← kv_keys R] at P
  refine List.pairwise_map.mpr (List.Pairwise.imp_of_mem (fun {x y} m g W e=>W ?_) P)
  obtain⟨p,f,rfl⟩:=Zar.mp m
  obtain⟨p',U,rfl⟩:=Zar.mp g
  obtain⟨x,ex⟩:=F p f
  obtain⟨y,ey⟩:=F p' U
  rw[ex,ey] at e ⊢
  exact congrArg Sum.inr e
 have J:SrtL (out.map Fn):=by
  have a1:(out.map Fn).Pairwise fun x y=>decide (y.cps.toList<x.cps.toList)=false:=by rw[List.pairwise_map];exact Z
  refine (a1.and M).imp fun {x y} ⟨B,C⟩=>?_
  show decide (x.cps.toList<y.cps.toList)=true
  by_cases E:x.cps.toList<y.cps.toList
  ·exact Z2 E
  ·exact absurd (str_ext (List.le_antisymm (List.not_lt.mp (Zcg B)) (List.not_lt.mp E))) C
 refine⟨.ref l,_,I.laid (a:=l) (o:=.lst ((out.map Fn).map V.str)) (h':=h') (t':=tk) aa K ?_,rfl,q l _ (I.hok.fresh K) J D⟩
 refine⟨?_,out,c,?_,by rw[L]⟩
 ·rw[Zl,G.length_eq,Zl]
  exact hl
 ·clear G D M J T Z L
  induction out with
  | nil=>exact .nil
  | cons v r ih =>
   obtain⟨x,t,rfl⟩:=N v (Z0 ..)
   exact .cons ⟨t,rfl⟩ (ih fun v n=>N v (Zz _ n))
end
end
end My
namespace My
noncomputable section
open PySem PySem.Spec PyProof.Rows L2
def Sg.prt:Sg→List Sg
 | .no=>[.no]
 | .lt x=>[.lt x]
 | .not a=>.not a::a.prt
 | .shown a=>.shown a::a.prt
 | .bin j a b=>.bin j a b::(a.prt++b.prt)
theorem mem_prt {s t:Sg}:t∈s.prt↔t=s∨∃ a∈s.inner,t∈a.prt:=by
 cases s with
 | no=>simp[Sg.prt,Sg.inner]
 | lt x=>simp[Sg.prt,Sg.inner]
 | not a=>simp[Sg.prt,Sg.inner]
 | shown a=>simp[Sg.prt,Sg.inner]
 | bin j a b=>simp[Sg.prt,Sg.inner]
theorem prt_self (s:Sg):s∈s.prt:=mem_prt.mpr (.inl rfl)
theorem C2:t∈add ss s↔t∈ss∨t=s:=by
 refine⟨add_mem,fun h=>?_⟩
 rcases h with h | rfl
 ·exact (add_pre ss s).mem h
 ·exact Jr ss t
theorem vis_prt:∀ (s:Sg) (ss:List Sg) (t:Sg),t∈vis s ss↔t∈ss∨t∈s.prt
 | .no,ss,t=>by show t∈add ss _↔_;rw[C2];simp[Sg.prt]
 | .lt x,ss,t=>by show t∈add ss _↔_;rw[C2];simp[Sg.prt]
 | .not a,ss,t=>by show t∈add (vis a ss) _↔_;rw[C2,vis_prt a];simp only[Sg.prt,Zr];constructor <;> intro h <;> simp only[or_assoc,or_comm,or_left_comm] at h ⊢ <;> exact h
 | .shown a,ss,t=>by show t∈add (vis a ss) _↔_;rw[C2,vis_prt a];simp only[Sg.prt,Zr];constructor <;> intro h <;> simp only[or_assoc,or_comm,or_left_comm] at h ⊢ <;> exact h
 | .bin j a b,ss,t=>by show t∈add (vis b (vis a ss)) _↔_;rw[C2,vis_prt b,vis_prt a];simp only[Sg.prt,Zr,Zaa];constructor <;> intro h <;> simp only[or_assoc,or_comm,or_left_comm] at h ⊢ <;> exact h
theorem prt_size {s t:Sg}(h:t∈s.prt):t.size≤s.size:=by
 rcases vis_size s [] t ((vis_prt s [] t).mpr (.inr h)) with h | h
 ·cases h
 ·exact h
inductive spSz (vs:List V) (H:Hp) (Q:VK) (_:XK):Prop
 | mk (v:V) (s:Sg) (_:vs=[v]) (_:SyO H v s) (_:(s.high≤300∧s.size≤1500)) (_:∀ H',Bq H H'→Q (.int (s.size:Nat)) H')
inductive spDp (vs:List V) (H:Hp) (Q:VK) (_:XK):Prop
 | mk (v:V) (s:Sg) (_:vs=[v]) (_:SyO H v s) (_:(s.high≤300∧s.size≤1500)) (_:∀ H',Bq H H'→Q (.int (s.depth:Nat)) H')
inductive spDf (vs:List V) (H:Hp) (Q:VK) (_:XK):Prop
 | mk (l:Addr) (fs:List V) (ss r:List Sg) (s:Sg) (_:vs=[.ref l]) (_:H l=some (.lst fs)) (_:Paired (FoR ss H) fs ss) (_:Tab ss) (_:ss=r++[s]) (_:ss.length≤90000) (_:∀ H',Bq H H'→Q (.int (s.depth:Nat)) H')
theorem depth_max (s:Sg):s.depth=if s.word = "shown" then maxN (s.inner.map (·.depth))+1 else maxN (s.inner.map (·.depth)):=by
 cases s with
 | no=>rw[Zs (by decide +kernel)];rfl
 | lt x=>rw[Zs (show ¬ Sg.word (.lt x) = "shown" from (by decide +kernel:¬ ("letter" : Str) = "shown"))];rfl
 | not a=>rw[Zs (show ¬ Sg.word (.not a) = "shown" from (by decide +kernel:¬ ("not" : Str) = "shown"))];simp[Sg.depth,Sg.inner,maxN]
 | shown a=>rw[Zw (show Sg.word (.shown a) = "shown" from rfl)];simp[Sg.depth,Sg.inner,maxN]
 | bin j a b=>rw[Zs (show ¬ Sg.word (.bin j a b) = "shown" from (by cases j <;> decide +kernel:¬ j.word = "shown"))];simp[Sg.depth,Sg.inner,maxN]
section
variable {P:Program} {w:World} {K:PySem.W.Frag} {mg:Str→Option Value} {base:Heap}
theorem ok_sz {f C:Addr}{fd:FuncData}(F:Fun K "size_of" "size_of" sSz f fd)(TC:TxC K mg C)(GN:Df P w K mg base CX0 35 "numbered" ["saying"] (spNd P w C)) :
  FnOk P w K mg base CX0 36 f fd ["saying"] spSz:=by
 refine Bs F ["saying"] fun u t A i B H y Q E n h=>?_
 obtain⟨v,s,rfl,j,c,q⟩:=h
 refine⟨_,Ah (Ap (Ar Ax (Bh (Ak GN n A6 (Aa (pv 0) Ac)) rfl) (Dl Cm Ad) (fun _ _=>rfl))),?_⟩
 refine⟨_,rfl,v,s,rfl,j,c,fun d O z m g D b l x=>?_⟩
 obtain⟨r,k⟩:=vis_last s
 have e:=b.raw.at 4 (a:=d.lz) (o:=.lst (z.ss.map fun s=>V.int (s.size:Nat))) rfl
 rw[l,k,Zac] at e
 exact⟨d.p,C,d.dx,_,_,rfl,b.ob,TC.cl,TC.n4,rfl,_,rfl,d.lz,_,_,V.int (s.size:Nat),rfl,rfl,SqL.of e,Gp _ _,q m g⟩
theorem ok_df {f:Addr}{fd:FuncData}(F:Fun K "depth_by_forms" "depth_by_forms" sDf f fd)(T:Txt K w.params mg)(GI:Df P w K mg base CX0 1 "inner_of" ["saying"] (spIn K)) :
  FnOk P w K mg base CX0 2 f fd ["forms"] spDf:=by
 refine Bs F ["forms","depths","form","inner"] fun sc av A aq s0 H vs Q E hr h=>?_
 obtain⟨l,fs,m,r,s,rfl,hl,pf,ai,er,au,q⟩:=h
 refine⟨_,Ab (An (i:=1) sc.nd rfl (Or.inr rfl) (Bp Ac))
  (Ab (Fu Za0 rfl (C3 (pv 0)) (Bn (i:=2) sc.nd rfl (Or.inl rfl))
   (Ab (An (i:=3) sc.nd rfl (Or.inl rfl) (pe_maxd rfl (by rfl) T.max (Ej rfl [("depths", 1)] (C3 (Ak GI hr A6 (Aa (pv 2) Ac))) (fun _ _ _ _=>Ep)
    (fun C s₀ H₀ ex=>Ar (show IxR _ (rIxL K) from Ax) (pv 1) (pv 0) (fun _ _=>rfl))) Ad))
   (Ah (Bj (Cy Zq Zx Zy Ba (pv 1) (Aa (Cp (Ao Cw (Ar Az (pv 2) Ad (fun _ _=>rfl)) Aw (Aq _)) (Au Ca (pv 3) Ad) (pv 3)) Ac))))))
  (Ah (Ap (Ar Ax (pv 1) (Dl Cm Ad) (fun _ _=>rfl))))),?_⟩
 have ag:=pf.length
 refine⟨small (Za rfl),fun g M=>?_⟩
 have p:=Aj (o:=.lst []) M
 have L:upd H g (.lst []) g=some (.lst []):=upd_same
 have an:l≠g:=Ae hl M
 generalize as:upd H g (.lst [])=S at p L ⊢
 refine⟨_,rfl,l,rfl,⟨_,SqL.of (p _ _ hl)⟩,?_⟩
 refine for_list (K:=K) (a:=l) (xs:=fs) (fun i σ t=>∃ B G,σ=[some (.ref l),some (.ref g),B,G]∧(∀ b o,b≠g→S b=some o→t b=some o)∧t g=some (.lst ((m.take i).map fun b=>V.int (b.depth:Nat)))) ⟨none,none,rfl,fun b o _ e=>e,L⟩
  (fun i σ t _ ⟨_,_,_,y,_⟩=>SqL.of (y _ _ an (p _ _ hl))) ?_ ?_
 ·rintro i x σ t hx ⟨B,G,rfl,y,R⟩
  obtain⟨d,Z,a,rfl,am⟩:=Bu pf hx
  have ha:=p _ _ am
  have aw:=(Zj.mp hx).1
  have ak:∀ {c:Addr} {ys:List V},S c=some (.tup ys)→c≠g:=fun e=>ne_of e L (by intro z;cases z)
  have ae:=y _ _ (ak ha) ha
  obtain⟨r,aa,ah,aj⟩:=Jk ae
  -- inner=max(..)
  refine⟨_,rfl,a,d.word,r,rfl,SqT.of aa,ah,fun li u J ar v=>⟨li,rfl,⟨_,SqL.of v⟩,fun D I=>?_⟩⟩
  rw[aj] at v
  have O:=J _ _ R
  have nD:li≠D:=Ae v I
  have nl:(iL (Cz m d)).length=d.inner.length:=by
   show (List.map _ (Cz m d)).length=_
   rw[Zl];unfold Cz;rw[Zl]
  have ax:=Fd d
  refine B6 (xs:=iL (Cz m d)) (fun j N=>N=upd u D (.lst ((d.inner.take j).map fun b=>V.int (b.depth:Nat)))) rfl (fun j N _ e=>by rw[e];exact SqL.of (by rw[Ai nD];exact v)) ?_ ?_
  ·rintro j x N ap rfl
   have k:((Cz m d).map fun (n:Nat)=>V.int (n:Int))[j]?=some x:=ap
   rw[Zp] at k
   unfold Cz at k
   rw[Zp] at k
   cases Y:d.inner[j]? with
   | none=>rw[Y] at k;cases k
   | some b =>
    rw[Y] at k
    have ex:V.int (idx m b:Nat)=x:=Zm k
    subst ex
    obtain⟨ad,ao⟩:=ai.before Z b (Ze Y)
    have af : upd u D (.lst ((d.inner.take j).map fun b=>V.int (b.depth:Nat))) g=some (.lst ((m.take i).map fun b=>V.int (b.depth:Nat))):=by rw[Ai (Ae O I)];exact O
    refine cpY ?_
    refine⟨_,rfl,_,rfl,g,_,_,V.int (b.depth:Nat),rfl,rfl,SqL.of af,Be (by rw[Zp,Zc6,Zw ao,Cd ad];rfl),_,upd_same,Bf (by rw[Zl,Z6];omega),?_⟩
    rw[C4,Zao,Y,Zac]
    rfl
  ·rintro N rfl
   rw[nl,Zaz]
   have e4:upd u D (.lst (d.inner.map fun b=>V.int (b.depth:Nat))) g=some (.lst ((m.take i).map fun b=>V.int (b.depth:Nat))):=by rw[Ai (Ae O I)];exact O
   have k4:∀ b o,b≠g→S b=some o→upd u D (.lst (d.inner.map fun b=>V.int (b.depth:Nat))) b=some o:=fun b o W e=>by
    have:=J _ _ (y b o W e)
    rw[Ai (Ae this I)]
    exact this
   have ac:upd u D (.lst (d.inner.map fun b=>V.int (b.depth:Nat))) a=some (.tup (.str d.word::r)):=by
    have:=J _ _ aa
    rw[Ai (Ae this I)]
    exact this
   refine⟨D,d.inner.map (·.depth),rfl,rfl,SqL.of (by rw[upd_same,Zda];rfl),?_⟩
   -- depths.append(..)
   refine⟨_,rfl,.inl ⟨rfl,_,SqL.of e4⟩,?_⟩
   have X:=depth_max d
   have fin:∀ z:Int,z=(d.depth:Nat)→∃ B G,[some (V.ref l),some (V.ref g),some (V.ref a),some (V.int (maxN (d.inner.map (·.depth)):Nat))]=[some (V.ref l),some (V.ref g),B,G] ∧
     (∀ b o,b≠g→S b=some o→upd (upd u D (.lst (d.inner.map fun b=>V.int (b.depth:Nat)))) g (.lst (((m.take i).map fun b=>V.int (b.depth:Nat))++[V.int z])) b=some o) ∧
     upd (upd u D (.lst (d.inner.map fun b=>V.int (b.depth:Nat)))) g (.lst (((m.take i).map fun b=>V.int (b.depth:Nat))++[V.int z])) g=some (.lst ((m.take (i+1)).map fun b=>V.int (b.depth:Nat))):=fun z ez=>by
    refine⟨_,_,rfl,fun b o W e=>by rw[Ai W];exact k4 b o W e,?_⟩
    rw[upd_same,Zao,Z,Zac,ez]
    rfl
   refine⟨_,rfl,a,_,_,_,rfl,rfl,SqT.of ac,at0,rfl,_,rfl,?_⟩
   by_cases U:d.word = "shown"
   ·rw[Zw U] at X
    refine ifT (congrArg V.str U) ?_
    refine⟨_,rfl,_,_,rfl,rfl,g,_,_,rfl,rfl,e4,Bf (by rw[Zl,Z6];omega),?_⟩
    exact fin _ (by rw[X];rfl)
   ·rw[Zs U] at X
    refine ifF (Ev U) ?_
    refine⟨_,rfl,g,_,_,rfl,rfl,e4,Bf (by rw[Zl,Z6];omega),?_⟩
    exact fin _ (by rw[X])
 ·rintro σ t ⟨B,G,rfl,y,R⟩
  rw[ag,Zaz] at R
  have ab:=R
  rw[er,Zac] at ab
  have al:Bq H t:=fun b o e=>y b o (Ae e M) (p b o e)
  exact⟨_,rfl,_,rfl,g,_,_,V.int (s.depth:Nat),rfl,rfl,SqL.of ab,Gp _ _,q t al⟩
theorem ok_dp {f C:Addr}{fd:FuncData}(F:Fun K "depth_of" "depth_of" sDp f fd)(TC:TxC K mg C)(GN:Df P w K mg base CX0 35 "numbered" ["saying"] (spNd P w C))(GD:Df P w K mg base CX0 2 "depth_by_forms" ["forms"] spDf) :
  FnOk P w K mg base CX0 36 f fd ["saying"] spDp:=by
 refine Bs F ["saying"] fun o n A g B H y Q E c h=>?_
 obtain⟨v,s,rfl,i,b,q⟩:=h
 refine⟨_,Ah (Ap (Ak GD c A6 (Aa (Bh (Ak GN c A6 (Aa (pv 0) Ac)) rfl) Ac))),?_⟩
 refine⟨_,rfl,v,s,rfl,i,b,fun d O z u e D a k t=>?_⟩
 obtain⟨r,j⟩:=vis_last s
 have x:=a.c4
 exact⟨d.p,C,d.dx,_,_,rfl,a.ob,TC.cl,TC.n2,rfl,d.lf,z.fs,z.ss,r,s,rfl,a.raw.at 2 rfl,a.fo,a.tab,k.trans j,by omega,fun m l=>q m (e.trans l)⟩
end
theorem Hm {kvs:List (Key×V)}{k:Key}{v:V}:∀ j:Key,j∈(C9 kvs k v).map (·.1)↔j=k∨j∈kvs.map (·.1):=fun j=>by
 unfold C9
 by_cases h:(kvs.any fun a=>decide (a.1=k))=true
 ·rw[Zw h,Zda,show ((fun x:Key×V=>x.1) ∘ fun a:Key×V=>if a.1=k then (a.1,v) else a)=(fun x=>x.1) from funext fun p=>by
   show (if p.1=k then (p.1,v) else p).1=p.1
   split <;> rfl]
  refine⟨.inr,fun g=>g.elim (fun e=>?_) id⟩
  obtain⟨p,b,c⟩:=List.any_eq_true.mp h
  rw[e,← Zaf c]
  exact Za2 b
 ·rw[Zs h,Zac,Zaa]
  exact⟨fun g=>g.elim .inr fun g=>.inl (Zg.mp g),fun g=>g.elim (fun e=>.inr (Zg.mpr e)) .inl⟩
structure LtD (kvs:List (Key×V)) (s:Sg):Prop where
 ks:∀ j∈kvs.map (·.1),∃ x,j = .inr x
 mem:∀ x:Str,Sum.inr x∈kvs.map (·.1) ↔ .lt x∈s.prt
theorem stp_le (k:Int)(x:Str)(s:Sg):(stp k x s).size=s.size+(if k=0∨k=1 then 1 else 2):=by
 unfold stp
 by_cases a:k=0
 ·rw[Zw a,Zw (.inl a)];show 1+s.size=_;lia
 by_cases b:k=1
 ·rw[Zs a,Zw b,Zw (.inr b)];show 1+s.size=_;lia
 rw[Zs a,Zs b,show (if k=0∨k=1 then 1 else 2)=2 from Zs fun z=>z.elim a b]
 by_cases c:k=2
 ·rw[Zw c];show 1+(s.size+1)=_;lia
 by_cases d:k=3
 ·rw[Zs c,Zw d];show 1+(1+s.size)=_;lia
 by_cases e:k=4
 ·rw[Zs c,Zs d,Zw e];show 1+(s.size+1)=_;lia
 rw[Zs c,Zs d,Zs e];show 1+(1+s.size)=_;lia
theorem stp_prt (k:Int)(x:Str)(s t:Sg):t∈(stp k x s).prt↔t=stp k x s∨t∈s.prt∨¬ (k=0∨k=1)∧t = .lt x:=by
 unfold stp
 by_cases d:k=0
 ·simp[d,Sg.prt]
 by_cases b:k=1
 ·simp[b,Sg.prt]
 by_cases c:k=2
 ·simp[c,Sg.prt]
 by_cases a:k=3
 ·simp[a,Sg.prt,or_comm,or_left_comm]
 by_cases e:k=4
 ·simp[e,Sg.prt]
 simp[d,b,c,a,e,Sg.prt,or_comm,or_left_comm]
theorem stp_wf {k:Int}{x:Str}{s:Sg}(hx:Sg.Wf (.lt x))(hs:s.Wf):(stp k x s).Wf:=by
 unfold stp
 split
 ·exact hs
 split
 ·exact hs
 split
 ·exact⟨hs,hx⟩
 split
 ·exact⟨hx,hs⟩
 split
 ·exact⟨hs,hx⟩
 ·exact⟨hx,hs⟩
theorem stp_dp (k:Int)(x:Str)(s:Sg):(stp k x s).depth=s.depth+(if k=1 then 1 else 0):=by
 unfold stp
 by_cases a:k=1
 ·simp[a,Sg.depth]
 rw[Zs a,Zs a]
 by_cases d:k=0
 ·simp[d,Sg.depth]
 by_cases c:k=2
 ·simp[c,Sg.depth]
 by_cases b:k=3
 ·simp[b,Sg.depth]
 by_cases e:k=4
 ·simp[e,Sg.depth]
 simp[d,c,b,e,Sg.depth]
theorem stp_tx (k:Int){x:Str}(s:Sg)(hx:x.length=1):(stp k x s).txt.length≤s.txt.length+4:=by
 have c:∀ (j:Jn) (a b:Sg),(Sg.bin j a b).txt.length=1+a.txt.length+1+b.txt.length+1:=fun j a b=>by
  show ("(" ++ a.txt++j.sign++b.txt ++ ")" : Str).length=_
  rw[Zan,Zan,Zan,Zan,lenA,lenB,j.sign_len]
 have d:(Sg.lt x).txt.length=1:=hx
 unfold stp
 split
 ·show ("~" ++ s.txt:Str).length≤_
  rw[Zan,lenN];lia
 split
 ·show ("[" ++ s.txt ++ "]" : Str).length≤_
  rw[Zan,Zan,lenL,lenR];lia
 split
 ·rw[c];lia
 split
 ·rw[c];lia
 split <;> (rw[c];lia)
structure Sprd (s:Sg) (zs:List Str) (ps:List Sg):Prop where
 wf:s.Wf
 sz:s.size≤120
 tx:s.txt.length≤120
 zl:SrtL zs
 zm:∀ x,x∈zs ↔ .lt x∈s.prt
 nd:ps.Nodup
 pm:∀ t,t∈s.prt↔t∈ps∨∃ x∈zs,t = .lt x
 ln:ps.length≤200
inductive spSpd (K:PySem.W.Frag) (vs:List V) (H:Hp) (Q:VK) (_:XK):Prop
 | mk (a:Addr) (ns:List Int) (_:vs=[.ref a]) (_:SqL K H a (ns.map V.int)) (_:∀ (t ll lp:Addr) (v:V) (s:Sg) (zs:List Str) (ws:List V) (ps:List Sg) (H' : Hp),Bq H H'→H' t=some (.tup [v,.str s.txt,.int (s.size:Nat),.int (s.depth:Nat),.ref ll,.ref lp])→SyO H' v s→H' ll=some (.lst (zs.map V.str))→H' lp=some (.lst ws)→Fh H' ws ps→Sprd s zs ps→H lp=none→Q (.ref t) H')
structure SpI (H H' : Hp) (ld lp:Addr) (v:V) (s:Sg) (kvs:List (Key×V)) (ws:List V) (ps:List Sg) (i:Nat):Prop where
 sm:Bq H H'
 sy:SyO H' v s
 wf:s.Wf
 sz:s.size≤120
 tx:s.txt.length≤120
 hd:H' ld=some (.dK kvs)
 lt:LtD kvs s
 kl:kvs.length≤i+1
 hp:H' lp=some (.lst ws)
 st:Fh H' ws ps
 nd:ps.Nodup
 le:∀ t∈ps,t.size≤s.size
 pm:∀ t,t∈s.prt↔t∈ps∨∃ x:Str,Sum.inr x∈kvs.map (·.1)∧t = .lt x
 pl:ps.length=i+1
theorem SpI.same {H H' H'' : Hp}{ld lp:Addr}{v:V}{s:Sg}{kvs:List (Key×V)}{ws:List V}{ps:List Sg}{i:Nat}(J:SpI H H' ld lp v s kvs ws ps i)(e:Bq H' H''):SpI H H'' ld lp v s kvs ws ps i :=
 { J with sm:=J.sm.trans e,sy:=J.sy.stay (Al e),hd:=e _ _ J.hd,hp:=e _ _ J.hp,st:=J.st.stay (Al e) }
theorem stp_nl {k:Int}{x y:Str}{s:Sg}:¬ Sg.lt y=stp k x s:=fun h=>by
 have g:=congrArg Sg.size h
 rw[stp_le] at g
 have a:(Sg.lt y).size=1:=rfl
 have:=Em s
 split at g <;> lia
theorem upd_id {H:Hp}{a:Addr}{o:HO}(h:H a=some o):upd H a o=H:=funext fun b=>by
 unfold upd
 split
 ·rename_i e;rw[e,h]
 ·rfl
theorem SpI.step {H H' : Hp}{ld lp:Addr}{v v' : V}{s:Sg}{kvs kvs' : List (Key×V)}{ws:List V}{ps:List Sg}{i:Nat}{k:Int}{x:Str}(J:SpI H H' ld lp v s kvs ws ps i)(hlp:H lp=none)(hld:H ld=none)(ne:ld≠lp)(hy:SyO H' v' (stp k x s))(hx:Sg.Wf (.lt x))(h1:(stp k x s).size≤120)(h2:(stp k x s).txt.length≤120)(hk:(k=0∨k=1)∧kvs'=kvs∨¬ (k=0∨k=1)∧kvs'=C9 kvs (Sum.inr x) (.bl true))(hl:kvs'.length≤i+2):SpI H (upd (upd H' lp (.lst (ws++[v']))) ld (.dK kvs')) ld lp v' (stp k x s) kvs' (ws++[v']) (ps++[stp k x s]) (i+1):=by
 have n:upd H' lp (.lst (ws++[v'])) ld=some (.dK kvs):=by rw[Ai ne];exact J.hd
 have d:=(TuO.lst (o:=.lst (ws++[v'])) J.hp).trans (TuO.other (o:=.dK kvs') n fun q z=>by cases z)
 have m:¬ stp k x s∈ps:=fun h=>by
  have:=J.le _ h
  rw[stp_le] at this
  split at this <;> lia
 have c:∀ j:Key,j∈kvs'.map (·.1)↔j∈kvs.map (·.1)∨¬ (k=0∨k=1)∧j = .inr x:=fun j=>by
  rcases hk with ⟨a,rfl⟩ | ⟨a,rfl⟩
  ·exact⟨.inl,fun h=>h.elim id fun h=>absurd a h.1⟩
  ·rw[Hm]
   exact⟨fun h=>h.elim (fun h=>.inr ⟨a,h⟩) .inl,fun h=>h.elim .inr fun h=>.inl h.2⟩
 refine⟨Ci (Ci J.sm hlp) hld,hy.stay d,stp_wf hx J.wf,h1,h2,upd_same,⟨fun j g=>?_,fun y=>?_⟩,hl,by rw[Ai ne.symm,upd_same],(J.st.stay d).snoc (hy.stay d),?_,fun t ht=>?_,fun t=>?_,by rw[Zv,J.pl];rfl⟩
 ·rcases (c j).mp g with h | h
  ·exact J.lt.ks j h
  ·exact⟨x,h.2⟩
 ·rw[c,J.lt.mem,stp_prt]
  refine⟨fun h=>h.elim (fun h=>.inr (.inl h)) fun h=>.inr (.inr ⟨h.1,by injection h.2 with e;rw[e]⟩),fun h=>h.elim (fun h=>absurd h stp_nl) fun h=>h.elim .inl fun h=>.inr ⟨h.1,by injection h.2 with e;rw[e]⟩⟩
 ·exact List.nodup_append.mpr ⟨J.nd,by simp,fun a l b p e=>m (by rw[← Zg.mp p,← e];exact l)⟩
 ·rcases Zaa.mp ht with ht | ht
  ·have:=J.le t ht
   rw[stp_le]
   lia
  ·rw[Zg.mp ht];exact Zd _
 ·rw[stp_prt,J.pm,Zaa,Zg]
  constructor
  ·rintro (h | (h | ⟨y,h,e⟩) | ⟨h,e⟩)
   ·exact .inl (.inr h)
   ·exact .inl (.inl h)
   ·exact .inr ⟨y,(c _).mpr (.inl h),e⟩
   ·exact .inr ⟨x,(c _).mpr (.inr ⟨h,rfl⟩),e⟩
  ·rintro ((h | h) | ⟨y,h,e⟩)
   ·exact .inr (.inl (.inl h))
   ·exact .inl h
   ·rcases (c _).mp h with h | ⟨h,f⟩
    ·exact .inr (.inl (.inr ⟨y,h,e⟩))
    ·injection f with f
     exact .inr (.inr ⟨h,by rw[e,f]⟩)
section
variable {P:Program} {w:World} {K:PySem.W.Frag} {mg:Str→Option Value} {base:Heap}
theorem ok_spd {f:Addr}{fd:FuncData}(F:Fun K "_law_spread" "_law_spread" sSpd f fd)(T:Txt K w.params mg)(GC:Df P w K mg base CX0 1 "_law_cell_at" ["_law_script","_law_k"] (spCa K))(GN:Df P w K mg base CX0 3 "_law_number" ["_law_script","_law_k"] (spNm K))(GS:Df P w K mg base CX0 1 "_law_step" ["_law_saying","_law_text","_law_number_here"] spStp) :
  FnOk P w K mg base CX0 4 f fd ["_law_script"] (spSpd K):=by
 refine Bs F ["_law_script","_law_start","_law_letters","_law_saying","_law_text","_law_parts","_law_size","_law_deep","_law_k","_law_number_here","_law_new","_law_line","_law_more"] fun b ao A am s0 H vs Q E L h=>?_
 obtain⟨a,X,rfl,hS,q⟩:=h
 have hu:=hu_of L
 refine⟨_,Ab (An (i:=1) b.nd rfl (Or.inl rfl) (Au B9 (Au Fo (Ak GC L A6 (Aa (pv 0) (Aa Ad Ac))) Ad) Ad))
  (Ab (An (i:=2) b.nd rfl (Or.inl rfl) Gk)
  (Ab (An (i:=3) b.nd rfl (Or.inl rfl) (Bg (Aa Aw Ac)))
  (Ab (An (i:=4) b.nd rfl (Or.inl rfl) Aw)
  (Ab (Bo (Ao Ht (pv 1) Ad (Aq _))
  (Ab (An (i:=4) b.nd rfl (Or.inl rfl) (Ar ix_str Aw (Au Fw (pv 1) Ad) (fun _ _=>rfl)))
  (Ab (An (i:=3) b.nd rfl (Or.inl rfl) (Bg (Aa Aw (Aa (pv 4) Ac))))
  (Ah (Ff hu (pv 2) (pv 4) J2 rfl))))
  Av)
  (Ab (An (i:=5) b.nd rfl (Or.inl rfl) (Bp (Aa (pv 3) Ac)))
  (Ab (An (i:=6) b.nd rfl (Or.inl rfl) Ad)
  (Ab (An (i:=7) b.nd rfl (Or.inl rfl) Ad)
  (Ab (Fu Za0 rfl (pi_range1 (by rfl) T.range (Aa (Au B9 (Ak GC L A6 (Aa (pv 0) (Aa Ad Ac))) Ad) Ac)) (Bn (i:=8) b.nd rfl (Or.inl rfl))
  (Ab (An (i:=9) b.nd rfl (Or.inl rfl) (Ak GN L A6 (Aa (pv 0) (Aa (pv 8) Ac))))
  (Ab (Bo (Ao Ht (Au B9 (Ak GC L A6 (Aa (pv 0) (Aa Ad Ac))) Ad) Ad (Aq _))
  (Ab (An (i:=9) b.nd rfl (Or.inl rfl) (Au Ca (Au B9 (pv 9) Ad) (Au G0 (Au G0 Ad (Au B9 (Au Fo (pv 9) Ad) Ad)) (Dr Gu (by rfl) T.int Zdb (Aa (C1 Cw (Au B9 (Ak GC L A6 (Aa (pv 0) (Aa Ad Ac))) Ad) Ad (Aq _)) Ac)))))
  (Ah (An (i:=9) b.nd rfl (Or.inl rfl) (Ar Ax (Bp (Aa (pv 9) (Aa (pv 9) (Aa Ad (Aa Ad Ac))))) (Au B9 (Ak GC L A6 (Aa (pv 0) (Aa Ad Ac))) Ad) (fun _ _=>rfl)))))
  Av)
  (Ab (ps_asg (Ak GS L A6 (Aa (pv 3) (Aa (pv 4) (Aa (pv 9) Ac)))) (Hy rfl (Br (Bn (i:=10) b.nd rfl (Or.inl rfl)) (Br (Bn (i:=11) b.nd rfl (Or.inl rfl)) Fm))))
  (Ab (An (i:=12) b.nd rfl (Or.inl rfl) (Au Ca Ad (Dr Gu (by rfl) T.int Zdb (Aa (C1 Ht (Au B9 (pv 9) Ad) Ad (Aq _)) Ac))))
  (Ab (Bo (PW.pt (Jf (Ao Ht (Au Ca (pv 6) (pv 12)) Ad (Aq _)) (Il (Ao Ht (A3 call_len_str (by rfl) T.len Zax (Aa (pv 11) Ac)) Ad (Aq _)))))
  (Ah ps_break)
  Av)
  (Ab (An (i:=3) b.nd rfl (Or.inl rfl) (pv 10))
  (Ab (An (i:=4) b.nd rfl (Or.inl rfl) (pv 11))
  (Ab (An (i:=6) b.nd rfl (Or.inl rfl) (Au Ca (pv 6) (pv 12)))
  (Ab (An (i:=7) b.nd rfl (Or.inl rfl) (Au Ca (pv 7) (Dr Gu (by rfl) T.int Zdb (Aa (C1 Cw (Au B9 (pv 9) Ad) Ad (Aq _)) Ac))))
  (Ab (Bj (Cy Zq Zx Zy Ba (pv 5) (Aa (pv 3) Ac)))
  (Ah (Bo (Ao Ht (Au B9 (pv 9) Ad) Ad (Aq _))
  (Ah (Ff hu (pv 2) (Ar ix_str Aw (Au B9 (Au Fo (pv 9) Ad) Ad) (fun _ _=>rfl)) J2 rfl))
  Av)))))))))))))
  (Ah (Ap (Bg (Aa (pv 3) (Aa (pv 4) (Aa (pv 6) (Aa (pv 7) (Aa (A3 (call_sortedK rfl) (by rfl) T.sorted PyProof.Rows.boot_sorted (Aa (Ib PySem.F.plainAttrs_dict PySem.F.slot_dict_keys PySem.F.type_dict_keys mt_keys (pv 2)) Ac)) (Aa (pv 5) Ac))))))))))))))))),?_⟩
 try dsimp only [Di,Cx.nox,Cx.wish]
 have z4:∀ z:Int,0≤z % 4∧z % 4<4:=fun z=>⟨Zct _ (by decide),Zc7 _ (by decide)⟩
 refine Am fun U1 q1 D1 n1=>⟨_,rfl,a,X,1,rfl,hS,by decide,fun z1=>⟨_,_,rfl,rfl,⟨by decide,by decide⟩,_,_,rfl,rfl,(by decide:(0:Int)<4),n1 _ _ ?_⟩⟩
 clear n1 D1
 rw[q1]
 obtain⟨b0,b1⟩:=z4 (z1 / 120)
 generalize z1 / 120 % 4=D at b0 b1
 refine Am fun U2 q2 D2 n2=>fun d W=>n2 _ _ ?_
 clear n2 D2
 rw[q2]
 refine Am fun U3 q3 D3 n3=>⟨small (Za rfl),fun tn ac=>n3 _ _ ?_⟩
 clear n3 D3
 rw[q3]
 have s1:=(Aj (o:=.dK []) W).trans (Aj (o:=.tup [.str "no"]) ac)
 have e1:=Aj (o:=.tup [.str "no"]) ac d _ upd_same
 have y1:SyO (upd (upd H d (.dK [])) tn (.tup [.str "no"])) (.ref tn) .no:=.no (Fz.of upd_same)
 generalize upd (upd H d (.dK [])) tn (.tup [.str "no"])=H1 at s1 e1 y1
 refine Am fun U4 q4 D4 n4=>n4 _ _ ?_
 clear n4 D4
 rw[q4]
 refine seq_use (fun σ' l=>∃ v s kvs,σ'=[some (.ref a),some (.int D),some (.ref d),some v,some (.str s.txt),none,none,none,none,none,none,none,none]∧Bq H l∧SyO l v s∧s.Wf∧s.size=1∧s.depth=0∧s.txt.length≤1∧l d=some (.dK kvs)∧LtD kvs s∧kvs.length≤1∧∀ t,t∈s.prt↔t=s) (fun N hN=>?_) ?_
 ·refine⟨_,rfl,_,_,rfl,rfl,_,rfl,Gv (fun h=>?_) (fun h=>?_)⟩
  ·have h0:0<D:=Zaf h
   obtain⟨c,hc,ec⟩:=pq_ix (i:=D - 1) (by lia) (by lia)
   refine⟨_,rfl,_,_,rfl,rfl,_,_,c,rfl,rfl,small (by decide +kernel),hc,?_⟩
   rw[ec]
   refine⟨_,rfl,small (Za rfl),fun tl aj=>?_⟩
   have S:=Aj (o:=.tup [.str "letter", .str (pq (D - 1))]) aj
   refine⟨_,rfl,_,rfl,d,_,rfl,DPut.k (k:=Sum.inr (pq (D - 1))) (S _ _ e1) (Bf (Zt _)),hN _ _ ?_⟩
   have t6:=TuO.other (o:=.dK (C9 [] (Sum.inr (pq (D - 1))) (.bl true))) (S _ _ e1) fun xs z=>by cases z
   refine⟨.ref tl,.lt (pq (D - 1)),_,rfl,Ci (s1.trans S) W,(SyO.lt (Fz.of upd_same)).stay t6,pq_wf _,rfl,rfl,by show (pq (D - 1)).length≤1;rw[pq_len];exact Zd _,upd_same,⟨fun j hj=>?_,fun x=>?_⟩,Zd _,fun t=>Zg⟩
   ·exact⟨_,((Hm j).mp hj).resolve_right fun z=>nomatch z⟩
   ·rw[Hm]
    show _↔Sg.lt x∈[Sg.lt (pq (D - 1))]
    rw[Zg]
    exact⟨fun h=>h.elim (fun e=>by injection e with e;rw[e]) fun z=>(nomatch z),fun h=>.inl (by injection h with h;rw[h])⟩
  ·exact hN _ _ ⟨.ref tn,.no,[],rfl,s1,y1,trivial,rfl,rfl,by decide +kernel,e1,⟨fun j hj=>(nomatch hj),fun x=>⟨fun z=>(nomatch z),fun z=>by cases Zg.mp z⟩⟩,Zt _,fun t=>Zg⟩
 rintro σ2 H2 ⟨v,s,kvs,rfl,S,y2,wf,sz,dp,tx,hd,lt,kl,pr⟩
 clear e1 y1 s1 q1 q2 q3 q4
 refine Am fun U5 q5 D5 n5=>⟨_,rfl,small (Za rfl),fun m ab=>n5 _ _ ?_⟩
 clear n5 D5
 rw[q5]
 have U:=S.free ab
 have s3:=Aj (o:=.lst [v]) ab
 have I0:SpI H (upd H2 m (.lst [v])) d m v s kvs [v] [s] 0:=⟨S.trans s3,y2.stay (Al s3),wf,by lia,by lia,s3 _ _ hd,lt,kl,upd_same,.cons (y2.stay (Al s3)) .nil,by simp,fun t ht=>by rw[Zg.mp ht];exact Zd _,fun t=>by
  rw[pr,Zg]
  refine⟨.inl,fun h=>h.elim id fun ⟨x,hx,e⟩=>?_⟩
  rw[← pr,e,← lt.mem]
  exact hx,rfl⟩
 generalize upd H2 m (.lst [v])=H3 at I0
 have R:d≠m:=fun z=>by have:=I0.hd;rw[z,I0.hp] at this;cases this
 clear s3 ab S y2 wf tx hd lt kl pr
 refine Am fun U6 q6 D6 n6=>n6 _ _ ?_
 clear n6 D6
 rw[q6]
 refine Am fun U7 q7 D7 n7=>n7 _ _ ?_
 clear n7 D7
 rw[q7]
 refine Am fun U8 q8 D8 n8=>⟨_,rfl,a,X,1,rfl,I0.sm.seq hS,by decide,fun z2=>?_⟩
 have c0:0≤z2 % 120:=Zct _ (by decide)
 have c1:z2 % 120<120:=Zc7 _ (by decide)
 obtain⟨n0,aa⟩:∃ n0:Nat,z2 % 120=n0:=⟨(z2 % 120).toNat,by lia⟩
 have an:((2:Int) ^ 62)=4611686018427387904:=by decide
 refine⟨_,_,rfl,rfl,(by decide:(0:Int)<120),_,rfl,by rw[aa];lia,by rw[aa];lia,?_⟩
 rw[aa,Int.toNat_natCast]
 have fin:∀ (v:V) (s:Sg) (kvs:List (Key×V)) (G:List V) (I:List Sg) (M O u B r:Option V) (i:Nat) (l : Hp),SpI H l d m v s kvs G I i→i≤130→D8.nx [some (.ref a),some (.int D),some (.ref d),some v,some (.str s.txt),some (.ref m),some (.int (s.size:Nat)),some (.int (s.depth:Nat)),M,O,u,B,r] l:=fun v s kvs G I M O u B r i l J hi=>by
  refine n8 _ _ ?_
  rw[q8]
  refine⟨_,rfl,_,rfl,_,rfl,_,rfl,_,rfl,.inr (.inr (.inl ⟨rfl,.inl ⟨kvs,J.hd⟩⟩)),d,kvs,rfl,rfl,J.hd,fun vw ak=>?_⟩
  have sv:=Aj (o:=hKeys vw d) ak
  refine⟨vw,d,kvs,rfl,upd_same,sv _ _ J.hd,fun p hp=>J.lt.ks _ (Za2 hp),fun ll zs ag ah mem=>⟨_,rfl,small (Za rfl),fun t ht=>?_⟩⟩
  have sl:=Aj (o:=.lst (zs.map V.str)) ag
  have ad:=Aj (o:=.tup [v,.str s.txt,.int (s.size:Nat),.int (s.depth:Nat),.ref ll,.ref m]) ht
  have sA:=(sv.trans sl).trans ad
  have pl:=J.pl
  exact q t ll m v s zs G I _ (J.sm.trans sA) upd_same (J.sy.stay (Al sA)) (ad _ _ upd_same) (sA _ _ J.hp) (J.st.stay (Al sA)) ⟨J.wf,J.sz,J.tx,ah,fun x=>(mem x).trans (J.lt.mem x),J.nd,fun t=>by
   rw[J.pm]
   exact⟨fun h=>h.imp id fun ⟨x,Z,h2⟩=>⟨x,(mem x).mpr Z,h2⟩,fun h=>h.imp id fun ⟨x,Z,h2⟩=>⟨x,(mem x).mp Z,h2⟩⟩,by lia⟩ U
 refine for_range (lo:=0) (n:=n0) (fun i σ l=>∃ v s kvs G I M O u B r,σ=[some (.ref a),some (.int D),some (.ref d),some v,some (.str s.txt),some (.ref m),some (.int (s.size:Nat)),some (.int (s.depth:Nat)),M,O,u,B,r]∧SpI H l d m v s kvs G I i) ?_ ?_ ?_
 ·exact⟨v,s,kvs,_,_,none,none,none,none,none,by rw[sz,dp];rfl,I0⟩
 ·rintro i σ H4 hi ⟨v,s,kvs,G,I,M,O,u,B,r,rfl,J⟩
  refine gN ?_
  dsimp only [List.set]
  refine Am fun V1 p1 E1 m1=>⟨_,rfl,_,rfl,a,X,_,rfl,J.sm.seq hS,by lia,fun z=>m1 _ _ ?_⟩
  clear m1 E1
  rw[p1]
  refine seq_use (fun σ' l=>∃ z:Int,σ'=[some (.ref a),some (.int D),some (.ref d),some v,some (.str s.txt),some (.ref m),some (.int (s.size:Nat)),some (.int (s.depth:Nat)),some (.int (0+(i:Int))),some (.int z),u,B,r]∧Bq H4 l) (fun N hN=>?_) ?_
  ·refine⟨_,rfl,a,X,0,rfl,J.sm.seq hS,by decide,fun w0=>⟨_,_,rfl,rfl,(by decide:(0:Int)<4),_,_,rfl,rfl,_,rfl,Gv (fun _=>?_) (fun _=>hN _ _ ⟨z,rfl,Bq.refl _⟩)⟩⟩
   refine⟨_,rfl,_,_,rfl,rfl,(by decide:(0:Int)<2),_,rfl,_,_,rfl,rfl,⟨by decide,by decide⟩,_,_,rfl,rfl,(by decide:(0:Int)<3),_,_,rfl,rfl,.inl ⟨by decide,by decide⟩,_,rfl,a,X,0,rfl,J.sm.seq hS,by decide,fun w1=>⟨_,_,rfl,rfl,(by decide:(0:Int)<4),rfl,.inr ⟨_,rfl,_,_,rfl,rfl,.inr ⟨by split <;> decide,by split <;> decide⟩,_,_,rfl,rfl,?_⟩⟩⟩
   generalize z % 2+6 * (z / 2 % 3) * _=Y
   refine⟨_,rfl,_,rfl,small (Za rfl),fun l4 al=>?_⟩
   have s4:=Aj (o:=.lst [.int Y,.int Y,.int 0,.int 1]) al
   refine⟨_,rfl,a,X,0,rfl,(J.sm.trans s4).seq hS,by decide,fun w2=>?_⟩
   obtain⟨i0,i1⟩:=z4 w2
   obtain⟨z',af⟩:∃ z' : Int,atI [V.int Y,.int Y,.int 0,.int 1] (w2 % 4)=some (.int z'):=by
    generalize w2 % 4=y at i0 i1
    have e:y=0∨y=1∨y=2∨y=3:=by lia
    rcases e with rfl | rfl | rfl | rfl
    ·exact⟨Y,at0⟩
    ·exact⟨Y,at1⟩
    ·exact⟨0,at2⟩
    ·exact⟨1,at3⟩
   exact⟨_,_,rfl,rfl,(by decide:(0:Int)<4),l4,_,_,_,rfl,rfl,SqL.of upd_same,af,hN _ _ ⟨z',rfl,s4⟩⟩
  rintro σ5 H5 ⟨z,rfl,s5⟩
  clear p1
  have J5:=J.same s5
  refine Am fun V2 p2 E2 m2=>⟨_,rfl,_,rfl,_,rfl,v,s,z,rfl,J5.sy,by have:=J.tx;lia,fun t v' H6 s6 e6 y6=>⟨t,_,rfl,SqT.of e6,rfl,_,_,rfl,_,_,rfl,rfl,m2 _ _ ?_⟩⟩
  clear m2 E2
  rw[p2]
  clear p2
  have C:=J5.same s6
  have k0:0≤z % 6:=Zct _ (by decide)
  have k1:z % 6<6:=Zc7 _ (by decide)
  have ae:=stp_le (z % 6) (pq (z / 6 % 3)) s
  have ai:=stp_dp (z % 6) (pq (z / 6 % 3)) s
  have em:(s.size:Int)+(1+(if decide (1<z % 6)=true then 1 else 0))=((stp (z % 6) (pq (z / 6 % 3)) s).size:Nat):=by
   rw[ae]
   by_cases g:z % 6=0∨z % 6=1
   ·rw[Zw g,Zs (fun y=>by have:=Zaf y;lia)]
    lia
   ·rw[Zs g,Zw (Z2 (by lia))]
    lia
  have ed:(s.depth:Int)+(if decide (V.int (z % 6)=V.int 1)=true then 1 else 0)=((stp (z % 6) (pq (z / 6 % 3)) s).depth:Nat):=by
   rw[ai]
   by_cases g:z % 6=1
   ·rw[Zw g,Zw (Z2 (by rw[g]))]
    rfl
   ·rw[Zs g,Zs (fun y=>g (by have:=Zaf y;injection this))]
    rfl
  refine Am fun V3 p3 E3 m3=>⟨_,rfl,_,_,rfl,rfl,(by decide:(0:Int)<6),_,_,rfl,rfl,.inr ⟨_,rfl,_,_,rfl,rfl,m3 _ _ ?_⟩⟩
  clear m3 E3
  rw[p3]
  clear p3
  refine Co fun V4 p4=>⟨_,rfl,_,rfl,_,_,rfl,rfl,_,_,rfl,rfl,_,rfl,Gv (fun h=>fin v s kvs G I _ _ _ _ _ i H6 C (by lia)) (fun h=>?_)⟩
  have Z:(stp (z % 6) (pq (z / 6 % 3)) s).size≤120:=by
   have:¬ (120:Int)<(s.size:Int)+(1+(if decide (1<z % 6)=true then 1 else 0)):=fun y=>h (Z2 y)
   rw[em] at this
   lia
  have wl:=stp_tx (z % 6) s (pq_len (z / 6 % 3))
  refine⟨_,rfl,_,rfl,?_,_,_,rfl,rfl,_,rfl,Gv (fun h=>fin v s kvs G I _ _ _ _ _ i H6 C (by lia)) (fun h=>?_)⟩
  ·exact small (by have:=J.tx;lia)
  have h2:(stp (z % 6) (pq (z / 6 % 3)) s).txt.length≤120:=by
   have:¬ (120:Int)<((stp (z % 6) (pq (z / 6 % 3)) s).txt.length:Nat):=fun y=>h (Z2 y)
   lia
  show V4 _ _ _
  rw[p4]
  have lw:=C.st.length
  have ap:=C.pl
  refine⟨_,rfl,_,rfl,_,rfl,_,rfl,_,_,rfl,rfl,?_⟩
  rw[em]
  refine⟨_,rfl,_,rfl,_,_,rfl,rfl,(by decide:(0:Int)<6),rfl,.inr ⟨_,rfl,_,_,rfl,rfl,?_⟩⟩
  rw[ed]
  refine⟨_,rfl,.inl ⟨rfl,_,SqL.of C.hp⟩,_,rfl,m,_,_,rfl,rfl,C.hp,Bf (by lia),?_⟩
  have e7:upd H6 m (.lst (G++[v'])) d=some (.dK kvs):=by rw[Ai R];exact C.hd
  refine⟨_,rfl,_,_,rfl,rfl,(by decide:(0:Int)<6),_,_,rfl,rfl,_,rfl,Gv (fun h=>?_) (fun h=>?_)⟩
  ·have g:¬ (z % 6=0∨z % 6=1):=fun y=>by have:1<z % 6:=Zaf h;lia
   obtain⟨c,hc,ec⟩:=pq_ix (i:=z / 6 % 3) (Zct _ (by decide)) (Zc7 _ (by decide))
   refine⟨_,rfl,_,rfl,_,_,rfl,rfl,⟨by decide,by decide⟩,_,_,rfl,rfl,(by decide:(0:Int)<3),_,_,c,rfl,rfl,small (by decide +kernel),hc,d,_,rfl,DPut.k (k:=Sum.inr ⟨#[c]⟩) e7 (Bf (by have:=C.kl;lia)),?_⟩
   rw[ec]
   exact⟨v',_,_,_,_,_,_,_,_,_,rfl,C.step U W R y6 (pq_wf _) Z h2 (.inr ⟨g,rfl⟩) (by have:=Cg kvs (Sum.inr (pq (z / 6 % 3))) (.bl true);have:=C.kl;lia)⟩
  ·have g:z % 6=0∨z % 6=1:=by have:¬ 1<z % 6:=fun y=>h (Z2 y);lia
   have J7:=C.step U W R y6 (pq_wf _) Z h2 (.inl ⟨g,rfl⟩) (by have:=C.kl;lia)
   rw[upd_id e7] at J7
   exact⟨v',_,_,_,_,_,_,_,_,_,rfl,J7⟩
 ·rintro σ l ⟨v,s,kvs,G,I,M,O,u,B,r,rfl,J⟩
  exact fin v s kvs G I M O u B r n0 l J (by lia)
end
theorem sDv_self:∀ s:Sg,dq (sDv s) (sDv s)=true:=by
 have e:∀ (x:Str) (i:List Dv),dqs i i=true→dq (.t (.f (.str x)::i)) (.t (.f (.str x)::i))=true:=fun x i h=>by
  show (eqV (.str x) (.str x) && dqs i i)=true
  rw[h,Ja rfl];rfl
 have c:∀ (d:Dv) (i:List Dv),dq d d=true→dqs i i=true→dqs (d::i) (d::i)=true:=fun d i h g=>by
  show (dq d d && dqs i i)=true
  rw[h,g];rfl
 intro s
 induction s with
 | no=>exact e _ [] rfl
 | lt x=>exact e _ _ (c (.f (.str x)) [] (by show eqV (V.str x) (V.str x)=true;exact Ja rfl) rfl)
 | not a k=>exact e _ _ (c _ [] k rfl)
 | shown a k=>exact e _ _ (c _ [] k rfl)
 | bin j a b l m=>exact e _ _ (c _ _ l (c _ [] m rfl))
theorem dq_sy (s t:Sg):dq (sDv s) (sDv t)=decide (s=t):=by
 by_cases h:s=t
 ·rw[h,sDv_self,Z2 rfl]
 ·rw[Z9 h]
  cases e:dq (sDv s) (sDv t) with
  | false=>rfl
  | true=>exact absurd (sDv_inj s t e) h
theorem dqs_self (h:∀ d∈ds,dq d d=true):dqs ds ds=true:=by
 induction ds with
 | nil=>rfl
 | cons d ds b =>
  show (dq d d && dqs ds ds)=true
  rw[h d (Z0 ..),b fun e a=>h e (Zz _ a)]
  rfl
theorem rc_str {x y:Str}:RcLt A s (.str x t) (.str y u) (sL x y):=fun a w E Q h=>(PyProof.Rows.lt_str h:wpAny (model a w) A (compareOp .Lt _ _) Q E s)
section
variable {X:Cx} {pins:List (Addr×Obj)} {σ:L2.St} {H:Hp} {sh:Shared}
theorem eq_sy (I:Inv X pins σ H sh){A:Around}{s t:Sg}(hu:A.units+2 * s.high+4<cLine)(hv:SyO H v s)(hw:SyO H u t)(rv:Bl v x)(ru:Bl u y):SeqAt.EqAt A sh x y (decide (s=t)):=by
 have h:=eq_dv I (s.high+1) A (sDv s) (sDv t) v u x y (Jw s) (by lia) (Fp hv) (Fp hw) rv ru
 rw[dq_sy] at h
 exact h
theorem Cu {s:Sg}(h:SyO H v s):∃ (a:Addr) (r:List V),v = .ref a∧Fz H a (.str s.word::r)∧(match s with | .no=>r=[] | .lt x=>r=[.str x] | .not b=>∃ c,r=[c]∧SyO H c b | .shown b=>∃ c,r=[c]∧SyO H c b | .bin _ b d=>∃ c e,r=[c,e]∧SyO H c b∧SyO H e d):=by
 cases h with
 | no h=>exact⟨_,_,rfl,h,rfl⟩
 | lt h=>exact⟨_,_,rfl,h,rfl⟩
 | not h g=>exact⟨_,_,rfl,h,_,rfl,g⟩
 | shown h g=>exact⟨_,_,rfl,h,_,rfl,g⟩
 | bin h g k=>exact⟨_,_,rfl,h,_,_,rfl,g,k⟩
theorem Dw {s c:Sg}(h:c∈s.inner):c.high+1≤s.high:=by
 cases s with
 | no=>cases h
 | lt x=>cases h
 | not b=>rw[Zg.mp (show c∈[b] from h)];exact Zd _
 | shown b=>rw[Zg.mp (show c∈[b] from h)];exact Zd _
 | bin j b d =>
  rcases Zr.mp (show c∈[b,d] from h) with e | e
  ·rw[e];simp only[Sg.high];lia
  ·rw[Zg.mp e];simp only[Sg.high];lia
theorem lex_tail (I:Inv X pins σ H sh){A:Around}{s t:Sg}{its its2:List Value}(hu:A.units+2 * s.high+4<cLine)(hs:SyO H (.ref a) s)(ht:SyO H (.ref b) t)(ha:Fz H a (.str s.word::r))(hb:Fz H b (.str t.word::r'))(r1:Bi r its)(r2:Bi r' its2)(hw:s.wc=t.wc)(rc:∀ c∈s.inner,∀ d x y u v,SyO H x c→SyO H y d→Bl x u→Bl y v→RcLt A sh u v (c.ord d)):LexAt A sh (decide (its.length+1<its2.length+1)) (its.zip its2) (s.ord t):=by
 obtain⟨T,q,K,w,o⟩:=Cu hs
 obtain⟨S,J,N,z,p⟩:=Cu ht
 cases K
 cases N
 have L:r=q:=by have:=ha.symm.trans w;injection this with this;injection this with this;injection this
 have G:r'=J:=by have:=hb.symm.trans z;injection this with this;injection this with this;injection this
 subst L G
 have step:∀ {c d:Sg} {x y:V} {u v:Value} {r:List (Value×Value)} {f e:Bool},c∈s.inner→SyO H x c→SyO H y d→Bl x u→Bl y v→(c=d→LexAt A sh f r e)→(¬ c=d→e=c.ord d)→LexAt A sh f ((u,v)::r) e:=fun {c d x y u v r f e} B n m i h w z=>by
  have W:=Dw B
  have l:=eq_sy (A:=A) I (by lia) n m i h
  by_cases q:c=d
  ·rw[Z2 q] at l;exact .eq l (w q)
  ·rw[Z9 q] at l;rw[z q];exact .lt l (rc c B d x y u v n m i h)
 rcases same_wc hw with ⟨rfl,rfl⟩ | ⟨x,y,rfl,rfl⟩ | ⟨c,d,rfl,rfl⟩ | ⟨c,d,rfl,rfl⟩ | ⟨j,c,e,d,g,rfl,rfl⟩
 ·subst o p
  cases r1
  cases r2
  exact .nil
 ·subst o p
  obtain⟨u,rfl,i⟩:=Cs r1
  obtain⟨v,rfl,h⟩:=Cs r2
  obtain⟨O,rfl⟩:=(show ∃ k,u=Value.str x k from i)
  obtain⟨M,rfl⟩:=(show ∃ k,v=Value.str y k from h)
  have l:=Zc4 (A:=A) (s:=sh) x O y M
  show LexAt A sh _ _ (sL x y)
  by_cases q:x=y
  ·subst q
   rw[Zal] at l
   rw[Db]
   exact .eq l .nil
  ·rw[Zam.mpr q] at l
   exact .lt l rc_str
 ·obtain⟨x,rfl,n⟩:=o
  obtain⟨y,rfl,m⟩:=p
  obtain⟨u,rfl,i⟩:=Cs r1
  obtain⟨v,rfl,h⟩:=Cs r2
  show LexAt A sh _ _ (c.ord d)
  exact step (Zg.mpr rfl) n m i h (fun e=>by rw[e,A9];exact .nil) (fun _=>rfl)
 ·obtain⟨x,rfl,n⟩:=o
  obtain⟨y,rfl,m⟩:=p
  obtain⟨u,rfl,i⟩:=Cs r1
  obtain⟨v,rfl,h⟩:=Cs r2
  show LexAt A sh _ _ (c.ord d)
  exact step (Zg.mpr rfl) n m i h (fun e=>by rw[e,A9];exact .nil) (fun _=>rfl)
 ·obtain⟨x,Q,rfl,n,D⟩:=o
  obtain⟨y,U,rfl,m,F⟩:=p
  obtain⟨u,R,rfl,i,E⟩:=vals2 r1
  obtain⟨v,P,rfl,h,C⟩:=vals2 r2
  rw[Sg.ord,Zw rfl]
  refine step (c:=c) (d:=d) (Z0 ..) n m i h (fun q=>?_) (fun q=>by rw[Zs q])
  rw[Zw q]
  exact step (c:=e) (d:=g) (Zz _ (Zg.mpr rfl)) D F E C (fun q=>by rw[q,A9];exact .nil) (fun _=>rfl)
theorem lex_sy (I:Inv X pins σ H sh){A:Around}{s t:Sg}{its its2:List Value}(hu:A.units+2 * s.high+4<cLine)(hs:SyO H (.ref a) s)(ht:SyO H (.ref b) t)(ha:Fz H a (.str s.word::r))(hb:Fz H b (.str t.word::r'))(r1:Bi (.str s.word::r) its)(r2:Bi (.str t.word::r') its2)(rc:∀ c∈s.inner,∀ d x y u v,SyO H x c→SyO H y d→Bl x u→Bl y v→RcLt A sh u v (c.ord d)):LexAt A sh (decide (its.length<its2.length)) (its.zip its2) (s.ord t):=by
 cases r1 with
 | cons i r1 =>
 cases r2 with
 | cons h r2 =>
 obtain⟨l,rfl⟩:=(show ∃ k,_=Value.str s.word k from i)
 obtain⟨j,rfl⟩:=(show ∃ k,_=Value.str t.word k from h)
 have g:=Zc4 (A:=A) (s:=sh) s.word l t.word j
 by_cases f:s.wc=t.wc
 ·rw[Hn f,Zal] at g
  rw[Hn f]
  exact .eq g (lex_tail I hu hs ht ha hb r1 r2 f rc)
 ·rw[Zam.mpr (fun e=>f (Jp e))] at g
  refine .lt g ?_
  rw[Dp f,← Hi]
  exact rc_str
open PySem.W in
theorem kat_of_lex {fin b bb:Bool}{Q:Bool→Shared→Prop}(h:LexAt A sh fin ps b):∀ i,1≤i→Q b sh→KatLex prog w A bb fin Q ps i sh:=by
 induction h with
 | nil=>exact fun i _ q=>kat_nil q
 | eq a _ e=>exact fun i c q=>kat_cons (a prog w _ _ (kat_yes (e (i+1) (by lia) q)))
 | lt a d =>
  intro i c q
  refine kat_cons (a prog w _ _ (kat_no ?_))
  rw[show (bb && i == 0)=false by rw[Zam.mpr (by lia:i≠0),Bool.and_false]]
  exact kat_one _ _ (d prog w _ _ q)
open PySem.W in
theorem ask_sy (I:Inv X pins σ H sh){A:Around}{E:Value→Shared→Prop}{n:Nat}{s t:Sg}{Q:Bool→Shared→Prop}(hn:s.high≤n)(hu:A.units+2 * n+5<cLine)(hs:SyO H v s)(ht:SyO H u t)(rv:Bl v x)(ru:Bl u y)(rc:∀ c∈s.inner,∀ d x y u v,SyO H x c→SyO H y d→Bl x u→Bl y v→RcLt A sh u v (c.ord d))(q:Q (s.ord t) sh):wpAny (model prog w) A (keyLt' (tuples' true) x y) Q E sh:=by
 obtain⟨a,r,rfl,j,_⟩:=Cu hs
 obtain⟨b,M,rfl,l,_⟩:=Cu ht
 cases rv
 cases ru
 obtain⟨L,i,⟨o,G,_,m,J⟩,_⟩:=I.tuple (SqT.of j)
 obtain⟨K,h,⟨O,p,_,N,z⟩,_⟩:=I.tuple (SqT.of l)
 cases i with
 | cons B i =>
 cases h with
 | cons D h =>
 obtain⟨F,rfl⟩:=(show ∃ k,_=Value.str s.word k from B)
 obtain⟨C,rfl⟩:=(show ∃ k,_=Value.str t.word k from D)
 refine kat_lt G J p z ?_
 have g:=Zc4 (A:=A) (s:=sh) s.word F t.word C
 rw[Zh,Zh]
 show KatLex prog w A true _ Q ((_,_)::_) 0 sh
 by_cases f:s.wc=t.wc
 ·rw[Hn f,Zal] at g
  refine kat_cons ?_
  rw[Hn f]
  exact g prog w _ _ (kat_yes (kat_of_lex (lex_tail I (by lia) hs ht j l i h f rc) 1 (Zd _) q))
 ·rw[Zam.mpr (fun e=>f (Jp e))] at g
  refine kat_cons (g prog w _ _ (kat_no (oneLt_str ?_)))
  have e:s.ord t=sL s.word t.word:=by rw[Dp f,Hi]
  rw[e] at q
  exact q
theorem rc_step (I:Inv X pins σ H sh){A:Around}{s t:Sg}(hu:A.units+2 * s.high+5<cLine)(hs:SyO H v s)(ht:SyO H u t)(rv:Bl v x)(ru:Bl u y)(rc:∀ c∈s.inner,∀ d x y u v,SyO H x c→SyO H y d→Bl x u→Bl y v→RcLt A.in1 sh u v (c.ord d)):RcLt A sh x y (s.ord t):=by
 intro G w E Q h
 obtain⟨a,r,rfl,k,_⟩:=Cu hs
 obtain⟨b,S,rfl,l,_⟩:=Cu ht
 cases rv
 cases ru
 obtain⟨B,P,p,_⟩:=I.tuple (SqT.of k)
 obtain⟨j,D,L,_⟩:=I.tuple (SqT.of l)
 obtain⟨⟨R,J,K,M⟩,o,f,m,q⟩:=id p
 obtain⟨⟨N,z,C,n⟩,g,e,O,i⟩:=id L
 simp only at f q e i
 subst f q e i
 exact richCompare_meets_room (op:=.Lt) ⟨_,o,rfl⟩ ⟨_,g,rfl⟩ PySem.F.slot_tuple_lt PySem.F.entry_tuple_lt (PySem.F.args_tuple_lt_2 _ _) (Ft a b B.toArray j.toArray m O J z M n (s.ord t))
  ⟨o,g,by
   rw[Zh,Zh]
   exact lex_sy I (by show A.units+1+2 * s.high+4<cLine;lia) hs ht k l P D rc,(fun x=>nomatch x),h⟩ (by lia)
theorem rc_sy (I:Inv X pins σ H sh):∀ (n:Nat) (A:Around) (s t:Sg) (v u:V) (x y:Value),s.high≤n→A.units+2 * n+5<cLine→SyO H v s→SyO H u t→Bl v x→Bl u y→RcLt A sh x y (s.ord t):=by
 intro n
 induction n with
 | zero=>exact fun A s t v u x y k i b ht e f=>rc_step I (by lia) b ht e f (fun c a=>by have:=Dw a;lia)
 | succ n j=>exact fun A s t v u x y k i b ht e f=>rc_step I (by lia) b ht e f (fun c a d x y u v l g m h=>j A.in1 c d x y u v (by have:=Dw a;lia) (by show A.units+1+2 * n+5<cLine;lia) l g m h)
end
theorem ord_le {a b c:Sg}(h1:b.ord a=false)(h2:c.ord b=false):c.ord a=false:=by
 cases e:c.ord a with
 | false=>rfl
 | true =>
  by_cases q:a=b
  ·rw[q,h2] at e;cases e
  ·have d:=(ord_total a b q).resolve_right (fun z=>by rw[h1] at z;cases z)
   have:=E7 c a b e d
   rw[h2] at this
   cases this
def SrtE (ts:List Sg):Prop:=ts.Pairwise fun a b=>b.ord a=false
section
open PySem.W
variable {X:Cx}
theorem kat_tups {H:Hp}{sh:Shared}(I:Inv X pins σ H sh):∀ {vs:List V} {ts:List Sg} {its:List Value},Fh H vs ts→Bi vs its→∃ fs,KatTups sh.heap its fs∧fs.length=its.length∧∀ f∈fs,∃ x t,f=Value.str x t
 | _,_,_,.nil,.nil=>⟨[],KatTups.nil,rfl,fun f hf=>by cases hf⟩
 | _,_,_,.cons hy st,.cons rx rv=>by
  obtain⟨fs,h1,h2,h3⟩:=kat_tups I st rv
  obtain⟨a,r,rfl,e,_⟩:=Cu hy
  cases rx
  obtain⟨its',r1,⟨o,ho,hc,m,hd⟩,_⟩:=I.tuple (SqT.of e)
  cases r1 with
  | cons w1 r1 =>
  obtain⟨k1,rfl⟩:=(show ∃ k,_=Value.str _ k from w1)
  refine⟨_::fs,KatTups.cons ho hc hd rfl h1,by rw[Zab,Zab,h2],fun f hf=>?_⟩
  rcases Zr.mp hf with rfl | hf
  ·exact⟨_,_,rfl⟩
  ·exact h3 f hf
theorem few_srt {ts:List Sg}(h:ts.length<2):SrtE ts:=by
 match ts,h with
 | [],_=>exact List.Pairwise.nil
 | [t],_=>exact List.pairwise_singleton _ _
end
section
open PySem.W
variable {X:Cx}
theorem sy_det {pins:List (Addr×Obj)}{σ:L2.St}{H:Hp}{s:Shared}(I:Inv X pins σ H s){v:V}{t u:Sg}(h:SyO H v t)(k:SyO H v u):t=u:=by
 have:=dq_det I (sDv t) (sDv u) v (Fp h) (Fp k)
 rw[dq_sy] at this
 exact Zaf this
open Classical in
def ixOf (its:List Value)(x:Value):Nat:=if h:∃ i,its[i]?=some x then choose h else 0
theorem ixOf_at {its:List Value}{x:Value}(h:x∈its):its[ixOf its x]?=some x:=by
 unfold ixOf
 have:=Zak.mp h
 rw[dif_pos this]
 exact Classical.choose_spec this
theorem call_sortedX {n:Nat}(hu:X.A.units+2 * n+7<cLine):Dd X (.builtin "sorted") (fun xs H Q=>∃ (a:Addr) (vs:List V) (ts:List Sg),xs=[.ref a]∧SqL X.K H a vs∧Fh H vs ts∧(∀ t∈ts,t.high≤n) ∧
  ∀ (l:Addr) (ws:List V) (us:List Sg),H l=none→ws.length=vs.length→Fh H ws us→us.Perm ts→SrtE us→Q (.ref l) (upd H l (.lst ws))):=by
 intro Z s σ H xs us Q I r h
 obtain⟨a,vs,ts,rfl,ha,L,hn,q⟩:=h
 obtain⟨u,rfl,ru⟩:=Cs r
 cases ru
 obtain⟨f,G,pl,hz⟩:=I.list ha
 have aa:f.length=vs.length:=G.length.symm
 have af:vs.length=ts.length:=L.length
 have laid:∀ (out:List Value) (ws:List V) (w:Nat),Bi ws out→ws.length=vs.length→Inv X Z σ (upd H (s.heap.objs.size+1) (.lst ws)) { s with heap:=sortedAll s.heap f out.toArray,toks:=w }:=fun out ws w m U=>by
  have ac:((s.heap.push (seqObj "list" #[] 0)).update s.heap.objs.size (Obj.mapSeq fun x=>x++f.toArray)).objs.size=s.heap.objs.size+1:=by
   rw[Heap.size_update,Za1]
  have O:∃ e,(sortedAll s.heap f out.toArray).get? (s.heap.objs.size+1)=some (seqObj "list" out.toArray e):=sortedHeap_at (n:=0) (by
   have:=Zn ((s.heap.push (seqObj "list" #[] 0)).update s.heap.objs.size (Obj.mapSeq fun x=>x++f.toArray)) (o:=seqObj "list" f.toArray 0) rfl
   rw[ac] at this
   exact this)
  obtain⟨e,O⟩:=O
  refine I.laid (a:=s.heap.objs.size+1) (o:=.lst ws) (h':=sortedAll s.heap f out.toArray) (t':=w) (fun b o e=>sortedAll_old e) (Zbp _) ⟨by rw[U];exact hz,out,e,m,?_⟩
  rw[O]
 have fr:H (s.heap.objs.size+1)=none:=I.hok.fresh (Zbp _)
 by_cases R:vs.length<2
 ·refine sorted_few pl.isList (by lia) ⟨.ref (s.heap.objs.size+1),_,laid f vs s.toks G rfl,rfl,q _ vs ts fr rfl L (List.Perm.refl _) (few_srt (by lia))⟩
 ·obtain⟨T,hT⟩:∃ T:Value→Sg,T=fun x=>ts.getD (ixOf f x) .no:=⟨_,rfl⟩
  have p:∀ x∈f,∃ v,vs[ixOf f x]?=some v∧T x∈ts∧SyO H v (T x)∧Bl v x:=fun x k=>by
   have h0:=ixOf_at k
   have hi:=(Zj.mp h0).1
   have m:vs[ixOf f x]?=some vs[ixOf f x]:=Zi (by lia)
   obtain⟨t,ht,j⟩:=Bu L m
   obtain⟨y,B,J⟩:=G.get m
   rw[h0] at B
   cases B
   have e:T x=t:=by rw[hT];dsimp only;rw[Z4,ht];rfl
   rw[e]
   exact⟨_,m,Ze ht,j,J⟩
  have ae:∀ i x t,f[i]?=some x→ts[i]?=some t→T x=t:=fun i x t k ht=>by
   obtain⟨v,_,_,j,J⟩:=p x (Ze k)
   obtain⟨v',ad,W⟩:=Bx L ht
   obtain⟨x',Y,F⟩:=G.get ad
   rw[k] at Y
   cases Y
   obtain⟨b,_,rfl,_⟩:=Cu j
   obtain⟨c,_,rfl,_⟩:=Cu W
   cases J
   cases F
   exact sy_det I j W
  refine sorted_big (κ:=tuples' true) (g:=fun x y=>(T x).ord (T y)) (fun x y h=>Gg h) (fun x y z N R=>ord_le N R) pl.isList (by lia) (by lia) (fun h' Q M q=>?_) (fun h' x y s' C M k j r' hC=>?_) (fun out w P p2=>?_)
  ·have S:=I.kept (t':=s.toks) M
   obtain⟨fs,k1,k2,k3⟩:=kat_tups S L G
   refine kat_kind (T:=.type "str") k1 (by lia) (fun v m=>?_) rfl q
   obtain⟨x,t,rfl⟩:=k3 v m
   exact fun A Q E s _ q=>Zk q
  ·obtain⟨w,rfl⟩:=r'
   obtain⟨v,_,ht,ab,J⟩:=p x k
   obtain⟨v',_,ag,B,F⟩:=p y j
   have S:=I.kept (t':=w) M
   exact ask_sy (n:=n) S (hn _ ht) (by show X.A.units+1+1+2 * n+5<cLine;lia) ab B J F (fun c hc d x y u v k j r1 r2=>rc_sy S n _ c d x y u v (by have:=Dw hc;have:=hn _ ht;lia) (by show X.A.units+1+1+2 * n+5<cLine;lia) k j r1 r2) (hC _ ⟨w,rfl⟩)
  ·have D:∀ x∈out,x∈f:=fun x k=>P.mem_iff.mp k
   have m:Bi (out.map fun x=>vs.getD (ixOf f x) .non) out:=by
    clear P p2
    induction out with
    | nil=>exact .nil
    | cons x xs ih =>
     obtain⟨v,N,_,_,h3⟩:=p x (D x (Z0 ..))
     refine .cons ?_ (ih fun y j=>D y (Zz _ j))
     dsimp only
     rw[Z4,N]
     exact h3
   have hs:Fh H (out.map fun x=>vs.getD (ixOf f x) .non) (out.map T):=by
    clear P p2 m
    induction out with
    | nil=>exact .nil
    | cons x xs ih =>
     obtain⟨v,N,_,R,_⟩:=p x (D x (Z0 ..))
     refine .cons ?_ (ih fun y j=>D y (Zz _ j))
     dsimp only
     rw[Z4,N]
     exact R
   have U:(out.map fun x=>vs.getD (ixOf f x) .non).length=vs.length:=by rw[Zl,P.length_eq];exact aa
   refine⟨.ref (s.heap.objs.size+1),_,laid _ _ w m U,rfl,q _ _ (out.map T) fr U hs ?_ ?_⟩
   ·have e:f.map T=ts:=by
     refine Zcr fun i=>?_
     rw[Zp]
     by_cases hi:i<f.length
     ·rw[Zi hi,Zi (show i<ts.length by lia)]
      exact congrArg some (ae i _ _ (Zi hi) (Zi (by lia)))
     ·rw[Zb0 (by lia),Zb0 (by lia)]
      rfl
    rw[← e]
    exact P.map T
   ·unfold SrtE
    rw[List.pairwise_map]
    exact p2
end
section
variable {X:Cx}
inductive rNiS (K:PySem.W.Frag) (n:Nat) (x y:V) (H:Hp) (Q:VK):Prop
 | mk (p:Addr) (ms:List V) (ts:List Sg) (t:Sg) (_:y = .ref p) (_:SqL K H p ms) (_:Fh H ms ts) (_:SyO H x t) (_:(∀ u∈ts,u.high+1≤n)) (_:Q (.bl (!decide (t∈ts))) H)
open Classical in
theorem op_notinS {n:Nat}(hu:X.A.units+2 * n+4<cLine):OpR X (compareOp .NotIn) (rNiS X.K n):=by
 intro T s σ H x y v u Q I U Y h
 obtain⟨p,F,L,t,rfl,hp,M,ht,Z,q⟩:=h
 cases Y
 obtain⟨o,r,pl,hz⟩:=I.list hp
 have D:∀ (j:Nat) (w:Value),o[j]?=some w→∃ m b,F[j]?=some m∧L[j]?=some b∧SyO H m b∧Bl m w:=fun j w f=>by
  have hl:=r.length
  have aa:=(Zj.mp f).1
  have c:F[j]?=some (F[j]'(by lia)):=Zi (by lia)
  obtain⟨w',g,k⟩:=r.get c
  rw[f] at g
  cases g
  obtain⟨b,N,P⟩:=Bu M c
  exact⟨_,b,c,N,P,k⟩
 have l:∀ (m:V) (b : Sg) (w:Value),SyO H m b→Bl m w→decide (∃ d,Bl d w∧SyO H d t)=decide (b=t):=fun m b w c J=>by
  refine decide_eq_decide.mpr ⟨fun ⟨d,O,C⟩=>?_,fun e=>⟨m,J,by rw[← e];exact c⟩⟩
  obtain⟨a,_,W,_⟩:=SyO.ref c
  obtain⟨a',_,G,_⟩:=SyO.ref C
  subst W G
  cases J
  cases O
  exact sDv_inj _ _ (dq_det I _ _ _ (Fp c) (Fp C))
 refine SeqAt.notIn_listAt (fun w=>decide (∃ d,Bl d w∧SyO H d t)) pl.isList (fun w f=>?_) ⟨.bl _,H,I,rfl,?_⟩
 ·have g : w∈o:=by simpa using f
  obtain⟨j,i⟩:=Zak.mp g
  obtain⟨m,b,R,E,B,z⟩:=D j w i
  have:=eq_dv I n X.A.in1 (sDv b) (sDv t) m x w v (by have:=Jw b;have:=Z b (Ze E);lia) (by have e1:X.A.in1.units=X.A.units+1:=rfl;lia) (Fp B) (Fp ht) z U
  rw[dq_sy] at this
  rw[l m b w B z]
  exact this
 ·have e:(o.toArray.any fun w=>decide (∃ d,Bl d w∧SyO H d t))=decide (t∈L):=by
   rw[List.any_toArray,Zcm,List.any_eq_true,decide_eq_true_iff]
   refine⟨fun ⟨w,f,e⟩=>?_,fun e=>?_⟩
   ·obtain⟨j,i⟩:=Zak.mp f
    obtain⟨m,b,R,E,B,z⟩:=D j w i
    rw[l m b w B z] at e
    rw[← Zaf e]
    exact Ze E
   ·obtain⟨j,i⟩:=Zak.mp e
    obtain⟨m,c,S⟩:=Bx M i
    obtain⟨w,f,k⟩:=r.get c
    exact⟨w,Ze f,by rw[l m t w S k];exact Z2 rfl⟩
  rw[e]
  exact q
end
theorem sDv_rK {K:PySem.W.Frag}{H:Hp}{v:V}{s:Sg}(h:Sy K H v s):DvR K H (sDv s) v:=by
 induction h with
 | no h=>exact⟨_,_,rfl,h,⟨rfl,rfl⟩,trivial⟩
 | lt h=>exact⟨_,_,rfl,h,⟨rfl,rfl⟩,⟨rfl,rfl⟩,trivial⟩
 | not h d a=>exact⟨_,_,rfl,h,⟨rfl,rfl⟩,a,trivial⟩
 | shown h d a=>exact⟨_,_,rfl,h,⟨rfl,rfl⟩,a,trivial⟩
 | bin h d e c b=>exact⟨_,_,rfl,h,⟨rfl,rfl⟩,c,b,trivial⟩
def rAll (K:PySem.W.Frag):List V→Hp→VK→Prop:=fun xs H Q=>∃ (l:Addr) (bs:List Bool),xs=[.ref l]∧SqL K H l (bs.map V.bl)∧Q (.bl (bs.all id)) H
section
variable {X:Cx}
theorem call_allR (hc:X.calm=true):Dd X (.builtin "all") (rAll X.K):=call_all hc
end
theorem srt_strict {os:List Sg}(h:SrtE os)(n:os.Nodup):Srt os:=by
 induction os with
 | nil=>exact .nil
 | cons t os g =>
  obtain⟨c,d⟩:=Zbh.mp h
  obtain⟨b,f⟩:=Zbs.mp n
  refine Zbh.mpr ⟨fun u a=>?_,g d f⟩
  have:=c u a
  exact (ord_total t u fun e=>b (by rw[e];exact a)).resolve_right fun z=>by rw[this] at z;cases z
theorem comp_shw {K:PySem.W.Frag}{l D:Addr}{us:List V}{os:List Sg}{τ:L2.St}{H1:Hp}{Qd:Hp→Prop}(el:H1 l=some (.lst us))(st:Fh H1 us os)(hln:us.length≤2000)(hD:H1 D=none)(q:∀ ws,Fh H1 ws (shw os)→Qd (upd H1 D (.lst ws))) :
  ∃ W:Nat→Nat→Hp→Prop,(∃ m,W 0 m (upd H1 D (.lst [])))∧∀ i m H2,W i m H2 →
   ((Itl K l).stop i H2∧Qd H2)∨((Itl K l).go i H2∧∃ N:Hp→Prop,(∀ H',N H'→∃ m',m'<m∧W (i+1) m' H')∧∀ x H3,(Itl K l).yld i H2 x H3→tTest (tOp rEq (tOp (rIxT K) (tVar 0) (tC (.int 0))) (tC (.str "shown"))) (some x::τ) H3 fun ok H4 =>
    if ok=true then tVar 0 (some x::τ) H4 fun y H5=>∃ zs,H5 D=some (.lst zs)∧zs.length<sizeLine∧N (upd H5 D (.lst (zs++[y]))) else N H4):=by
 have lst:=st.length
 refine B6 (xs:=us) (fun j H'=>∃ ws,H'=upd H1 D (.lst ws)∧Fh H1 ws (shw (os.take j))) ⟨[],rfl,.nil⟩ (fun j H' _ ⟨ws,e,_⟩=>by rw[e];exact SqL.of (by rw[Ai (Ae el hD)];exact el)) ?_ ?_
 ·rintro j x H' g ⟨ws,rfl,sw⟩
  obtain⟨t,ht,d⟩:=Bu st g
  obtain⟨a,r,rfl,f⟩:=d.w0
  have k:=sw.length
  have h:(shw (os.take j)).length≤os.length:=Zah (List.length_filter_le _ _) (by rw[Z6];lia)
  have b:shw (os.take (j+1))=shw (os.take j)++(if decide (t.word = "shown")=true then [t] else []):=by
   unfold shw
   rw[Zao,ht,List.filter_append]
   show _++List.filter _ [t]=_
   rw[List.filter_cons]
   rfl
  refine⟨_,rfl,a,_,_,_,rfl,rfl,SqT.of (by rw[Ai (Ae f hD)];exact f),at0,rfl,_,rfl,?_⟩
  by_cases c:t.word = "shown"
  ·rw[Z2 c,Zw rfl] at b
   refine ifT (congrArg V.str c) ⟨_,rfl,_,upd_same,Bf (by lia),?_⟩
   rw[C4]
   exact⟨_,rfl,by rw[b];exact sw.snoc d⟩
  ·rw[Z9 c,Zs Zu,Zbr] at b
   exact ifF (Ev c) ⟨_,rfl,by rw[b];exact sw⟩
 ·rintro H' ⟨ws,rfl,sw⟩
  rw[lst,Zaz] at sw
  exact q ws sw
theorem Fi:∀ s:Sg,s.prt.length≤s.size
 | .no=>Zd _
 | .lt _=>Zd _
 | .not a=>by have:=Fi a;show a.prt.length+1≤1+a.size;lia
 | .shown a=>by have:=Fi a;show a.prt.length+1≤1+a.size;lia
 | .bin j a b=>by have:=Fi a;have:=Fi b;show (a.prt++b.prt).length+1≤1+(a.size+b.size);rw[Zv];lia
theorem srt_nodup {os:List Sg}(h:Srt os):os.Nodup:=List.Pairwise.imp (fun {a b} h e=>by rw[e,A9] at h;cases h) h
theorem G7:∀ s:Sg,s.Wf→s.wt≤4 * s.size
 | .no,_=>Za rfl
 | .lt x,h=>by
  show 2+x.length≤4 * 1
  rcases h with rfl | rfl | rfl <;> decide +kernel
 | .not a,h=>by have:=G7 a h;show 2+a.wt≤4 * (1+a.size);lia
 | .shown a,h=>by have:=G7 a h;show 3+a.wt≤4 * (1+a.size);lia
 | .bin j a b,h=>by have:=G7 a h.1;have:=G7 b h.2;show 4+a.wt+b.wt≤4 * (1+(a.size+b.size));lia
def sLs (zs:List Str):Dv:=.l (zs.map fun x=>.f (.str x))
theorem sLs_r {K:PySem.W.Frag}{H:Hp}:∀ zs:List Str,DvRs K H (zs.map fun x=>.f (.str x)) (zs.map V.str)
 | []=>trivial
 | _::zs=>⟨⟨rfl,rfl⟩,sLs_r zs⟩
theorem sLs_p (zs:List Str):(sLs zs).dp≤1:=by
 have:dps (zs.map fun x=>.f (.str x))=0:=by
  induction zs with
  | nil=>rfl
  | cons x zs a=>show max 0 (dps (zs.map fun x=>.f (.str x)))=0;rw[a];rfl
 show 1+dps (zs.map fun x=>.f (.str x))≤1
 lia
theorem sLs_q (zs:List Str):dq (sLs zs) (sLs zs)=true:=dqs_self fun d a=>by
 obtain⟨x,_,rfl⟩:=Zar.mp a
 simp[dq,eqV]
def rIsTp (K:PySem.W.Frag):List V→Hp→VK→Prop:=fun xs H Q=>∃ a ys,xs=[V.ref a,V.ty "tuple"]∧SqT K H a ys∧Q (V.bl true) H
theorem Ig {A:Around}{k m n:Nat}(hr:Room k A)(h:2 * n+m≤16 * k+190):A.units+2 * n+m<cLine:=by have:=hr.un;lia
inductive spPar (vs:List V) (H:Hp) (Q:VK) (_:XK):Prop
 | mk (lf ld:Addr) (us ws:List V) (os:List Sg) (_:vs=[.ref lf,.ref ld]) (_:H lf=some (.lst us)) (_:Fh H us os) (_:H ld=some (.lst ws)) (_:Fh H ws os) (_:os.length≤1000) (_:∀ t∈os,t.high≤125) (_:∀ H',Bq H H'→Q (.bl true) H')
inductive spLaw (K:PySem.W.Frag) (vs:List V) (H:Hp) (Q:VK) (_:XK):Prop
 | mk (a:Addr) (ns:List Int) (_:vs=[.ref a]) (_:SqL K H a (ns.map V.int)) (_:ns.length≤63) (_:∀ H',Q (.bl true) H')
section
variable {P:Program} {w:World} {K:PySem.W.Frag} {mg:Str→Option Value} {base:Heap}
theorem ok_par {f:Addr}{fd:FuncData}(F:Fun K "_law_parts_are" "_law_parts_are" sPar f fd)(T:Txt K w.params mg)  :
  FnOk P w K mg base CX0 12 f fd ["_law_found","_law_due"] spPar:=by
 refine Bs F ["_law_found","_law_due"] fun sc aa A W s0 H vs Q E hr h=>?_
 obtain⟨z,N,k,L,os,rfl,g,C,p,O,hl,hh,q⟩:=h
 refine⟨_,Ab (Bo (PW.pt (Jf (Er (Fx (A3 call_isLst (by rfl) T.isi Za9 (Aa (pv 0) (Aa (Fe (by rfl) T.list PyProof.Rows.boot_list (v:=.ty "list") rfl) Ac))))) (Il (Ao op_ne (A3 A0 (by rfl) T.len Zax (Aa (pv 0) Ac)) (A3 A0 (by rfl) T.len Zax (Aa (pv 1) Ac)) (Aq _)))))
  (Ah (Ap J2))
  Av)
  (Ah (Ap (A3 (call_allR rfl) (by rfl) T.all PyProof.Rows.boot_all (Aa (pe_comp2 rfl [] (pi_zipL (by rfl) T.zip (Aa (pv 0) (Aa (pv 1) Ac))) (fun _ _ _ _=>Ep) (fun _ _ _ _=>(pe_and (A3 (show Dd _ _ (rIsTp K) from call_isTup) (by rfl) T.isi Za9 (Aa (pv 0) (Aa (Fe (by rfl) T.tup PyProof.Rows.boot_tuple (v:=.ty "tuple") rfl) Ac))) (Ih (C1 (show OpR _ _ (rDv K 130 false) from op_eqD (n:=130) (Ig (m:=4) (n:=130) hr (by decide))) (pv 0) (pv 1) (Aq _)))))) Ac)))),?_⟩
 try dsimp only [Di,Cx.nox,Cx.wish]
 have S:=C.length
 have G:=O.length
 refine Co fun U1 Y=>?_
 refine⟨_,rfl,z,k,rfl,SqL.of g,true,rfl,?_⟩
 refine Cv ⟨_,rfl,z,_,rfl,.inl (SqL.of g),_,rfl,N,_,rfl,.inl (SqL.of p),rfl,_,rfl,?_⟩
 rw[S,G,Z2 rfl]
 refine Cv (show U1 _ _ _ from ?_)
 rw[Y]
 refine⟨_,rfl,_,rfl,z,N,k,L,rfl,SqL.of g,SqL.of p,fun D u=>?_⟩
 refine comp_zipL (xs:=k) (ys:=L) (fun i c=>(∀ b o,b≠D→H b=some o→c b=some o)∧c D=some (.lst ((List.replicate i true).map V.bl))) (by lia) ⟨fun b o n e=>by rw[Ai n];exact e,upd_same⟩ (fun i c ⟨d,_⟩=>⟨SqL.of (d _ _ (Ae g u) g),SqL.of (d _ _ (Ae p u) p)⟩) ?_ ?_
 ·rintro i x y t c R X ht ⟨d,l⟩
  obtain⟨j,I,M⟩:=Bu C R
  obtain⟨s2,U,y2⟩:=Bu O X
  rw[I] at U
  cases U
  have hi:=(Zj.mp R).1
  have nD:t≠D:=(Ae l ht).symm
  have s:∀ b o,H b=some o→upd c t (.tup [x,y]) b=some o:=fun b o e=>by
   have J:=d b o (Ae e u) e
   rw[Ai (Ae J ht)]
   exact J
  obtain⟨a,r,rfl,Z⟩:=M.w0
  have ab:=hh j (Ze I)
  have ac:=Jw j
  obtain⟨d1,B⟩:=Gh j
  refine cpY ?_
  refine⟨_,rfl,a,_,rfl,SqT.of (s _ _ Z),true,rfl,Eg ?_⟩
  refine⟨_,rfl,_,rfl,sDv j,sDv j,Fp (M.stay (Al s)),Fp (y2.stay (Al s)),by lia,.inl ⟨_,_,B,B⟩,_,by rw[Ai nD.symm];exact l,Bf (by rw[Zl,List.length_replicate];lia),fun b o n e=>?_,?_⟩
  ·rw[Ai n];exact s b o e
  ·rw[upd_same,sDv_self,List.replicate_succ',Zac]
   rfl
 ·rintro c ⟨d,l⟩
  refine⟨D,_,rfl,SqL.of l,?_⟩
  have e:(List.replicate k.length true).all id=true:=by rw[List.all_eq_true];intro b hb;rw[List.eq_of_mem_replicate hb];rfl
  rw[e]
  exact q c fun b o e=>d b o (Ae e u) e
theorem ok_law {f:Addr}{fd:FuncData}(F:Fun K "law" "law" sLaw f fd)(T:Txt K w.params mg)(GD:Df P w K mg base CX0 4 "_law_spread" ["_law_script"] (spSpd K))(GZ:Df P w K mg base CX0 36 "size_of" ["saying"] spSz)(GE:Df P w K mg base CX0 36 "depth_of" ["saying"] spDp)(GL:Df P w K mg base CX0 36 "letters_of" ["saying"] spLt)(GW:Df P w K mg base CX0 2 "written" ["saying"] (spWr K))(GR:Df P w K mg base CX0 3 "read" ["text"] (spRead K))(GP:Df P w K mg base CX0 36 "parts_of" ["saying"] spPo)(GB:Df P w K mg base CX0 37 "shown_parts" ["saying"] spSw)(GA:Df P w K mg base CX0 12 "_law_parts_are" ["_law_found","_law_due"] spPar)(GH:Df P w K mg base CX0 1 "_law_whole" ["_law_found"] spWhl) :
  FnOk P w K mg base CX0 39 f fd ["_law_script"] (spLaw K):=by
 refine Bs F ["_law_script","_law_saying","_law_text","_law_size","_law_deep","_law_letters","_law_parts","_law_letter","_law_boxed","_law_told","_law_turn","_law_found","_law_some"] fun j bl A bh s0 H vs Q E c h=>?_
 obtain⟨a,ns,rfl,hS,hl,q⟩:=h
 refine⟨_,Ab (ps_asg (Ak GD c A6 (Aa (pv 0) Ac)) (Hy rfl (Br (Bn (i:=1) j.nd rfl (Or.inl rfl)) (Br (Bn (i:=2) j.nd rfl (Or.inl rfl)) (Br (Bn (i:=3) j.nd rfl (Or.inl rfl)) (Br (Bn (i:=4) j.nd rfl (Or.inl rfl)) (Br (Bn (i:=5) j.nd rfl (Or.inl rfl)) (Br (Bn (i:=6) j.nd rfl (Or.inl rfl)) Fm))))))))
  (Ab (Fu Za0 rfl (C3 (pv 5)) (Bn (i:=7) j.nd rfl (Or.inl rfl))
  (Ah (Bo (Ao (op_notinS (n:=126) (Ig (m:=4) (n:=126) c (by decide))) (Bg (Aa Aw (Aa (pv 7) Ac))) (pv 6) rfl)
  (Ah (Bj (Cy Zq Zx Zy Ba (pv 6) (Aa (Bg (Aa Aw (Aa (pv 7) Ac))) Ac))))
  Av)))
  (Ab (An (i:=6) j.nd rfl (Or.inl rfl) (A3 (call_sortedX (n:=125) (Ig (m:=7) (n:=125) c (by decide))) (by rfl) T.sorted PyProof.Rows.boot_sorted (Aa (pv 6) Ac)))
  (Ab (Ia (i:=8) j.nd rfl (Or.inl rfl) rfl [] (C3 (pv 6)) (fun _ _ _ _=>(pts_one rfl (Ao Cw (Ar (show IxR _ (rIxT K) from Az) (pv 0) Ad (fun _ _=>rfl)) Aw (Aq _)))) (fun _ _ _ _=>(pv 0)))
  (Ab (An (i:=9) j.nd rfl (Or.inl rfl) (Bp (Aa (Ak GZ c A6 (Aa (pv 1) Ac)) (Aa (Ak GE c A6 (Aa (pv 1) Ac)) Ac))))
  (Ab (Bo (PW.pt (Jf (Ao (op_neDv (n:=1) (Ig (m:=4) (n:=1) c (by decide))) (pv 9) (Bp (Aa (pv 3) (Aa (pv 4) Ac))) (Aq _)) (Jf (Er (Fx (Ak GH c A6 (Aa (Ar Ax (pv 9) Ad (fun _ _=>rfl)) Ac)))) (Jf (Er (Fx (Ak GH c A6 (Aa (Ar Ax (pv 9) Ad (fun _ _=>rfl)) Ac)))) (Il (Ao (op_neDv (n:=1) (Ig (m:=4) (n:=1) c (by decide))) (Ak GL c A6 (Aa (pv 1) Ac)) (pv 5) (Aq _)))))))
  (Ah (Ap J2))
  Av)
  (Ab (Bo (PW.pt (Jf (Ao op_ne (Ak GW c A6 (Aa (pv 1) Ac)) (pv 2) (Aq _)) (Jf (Er (Fx (A3 Iv (by rfl) T.isi Za9 (Aa (Ak GW c A6 (Aa (pv 1) Ac)) (Aa (Fe (by rfl) T.str PyProof.Rows.boot_str (v:=.ty "str") rfl) Ac))))) (Il (Ao (op_neDv (n:=130) (Ig (m:=4) (n:=130) c (by decide))) (Ak GR c A6 (Aa (pv 2) Ac)) (pv 1) (Aq _))))))
  (Ah (Ap J2))
  Av)
  (Ab (Fu Za0 rfl (pi_range1 (by rfl) T.range (Aa Ad Ac)) (Bn (i:=10) j.nd rfl (Or.inl rfl))
  (Ab (An (i:=11) j.nd rfl (Or.inl rfl) (Ak GP c A6 (Aa (pv 1) Ac)))
  (Ab (An (i:=12) j.nd rfl (Or.inl rfl) (Ak GB c A6 (Aa (pv 1) Ac)))
  (Ab (Bo (PW.pt (Jf (Er (Fx (Ak GA c A6 (Aa (pv 11) (Aa (pv 6) Ac))))) (Il (Er (Fx (Ak GA c A6 (Aa (pv 12) (Aa (pv 8) Ac))))))))
  (Ah (Ap J2))
  Av)
  (Ab (Bj (Ib Zq PySem.F.slot_list_clear PySem.F.type_list_clear mt_clear (pv 11)))
  (Ah (Bj (Cy Zq Zx Zy Ba (pv 12) (Aa (Bg (Aa Aw Ac)) Ac)))))))))
  (Ah (Ap J2))))))))),?_⟩
 try dsimp only [Di,Cx.nox,Cx.wish]
 refine Am fun U1 q1 D1 n1=>⟨_,rfl,a,ns,rfl,hS,fun t0 ll lp v s C ws ps H1 s1 e0 y1 d ag Y S bc=>⟨t0,_,rfl,SqT.of e0,rfl,_,_,rfl,_,_,rfl,_,_,rfl,_,_,rfl,_,_,rfl,_,_,rfl,rfl,n1 _ _ ?_⟩⟩
 clear n1 D1
 rw[q1]
 have aw:ll≠lp:=fun z=>by
  rw[z,ag] at d
  injection d with d
  injection d with d
  cases C with
  | nil =>
   subst d
   cases Y
   exact ((S.pm s).mp (prt_self s)).elim (fun z=>(nomatch z)) fun ⟨_,z,_⟩=>(nomatch z)
  | cons x C =>
   subst d
   cases Y with
   | cons h _ =>
    obtain⟨_,_,e,_⟩:=h.ref
    cases e
 have hb:∀ t∈s.prt,t.high+1≤120:=fun t ht=>by
  have:=prt_size ht
  have:=Em t
  have:=S.sz
  lia
 refine Am fun U2 q2 D2 n2=>⟨_,rfl,ll,rfl,⟨_,SqL.of d⟩,?_⟩
 refine for_list (xs:=C.map V.str) (fun i σ I=>∃ r g v7,σ=[some (.ref a),some v,some (.str s.txt),some (.int (s.size:Nat)),some (.int (s.depth:Nat)),some (.ref ll),some (.ref lp),v7,none,none,none,none,none]∧SyO I v s∧I ll=some (.lst (C.map V.str))∧I lp=some (.lst r)∧Fh I r g∧g.Nodup∧(∀ t,t∈g↔t∈ps∨∃ x∈C.take i,t = .lt x)) ⟨ws,ps,none,rfl,y1,d,ag,Y,S.nd,fun t=>⟨.inl,fun h=>h.elim id fun ⟨_,z,_⟩=>(nomatch z)⟩⟩ (fun i σ I hi ⟨r,g,v7,e,_,X,_⟩=>SqL.of X) ?_ ?_
 ·rintro i x σ I J ⟨r,g,v7,rfl,y2,X,B,U,nd,W⟩
  refine gN ?_
  rw[Zp] at J
  obtain⟨z,p,rfl⟩:=Zbw.mp J
  have zm:z∈C:=Ze p
  have tk:∀ t,(∃ x∈C.take (i+1),t=Sg.lt x)↔(∃ x∈C.take i,t=Sg.lt x)∨t=Sg.lt z:=fun t=>by
   rw[Zao,p]
   constructor
   ·rintro⟨x,J,e⟩
    rcases Zaa.mp J with h | h
    ·exact .inl ⟨x,h,e⟩
    ·exact .inr (by rw[e,Zg.mp h])
   ·rintro (⟨x,J,e⟩ | e)
    ·exact⟨x,Zaa.mpr (.inl J),e⟩
    ·exact⟨z,Zaa.mpr (.inr (Zg.mpr rfl)),e⟩
  have ao:∀ t∈g,t∈s.prt:=fun t ht=>(S.pm t).mpr (((W t).mp ht).imp id fun ⟨x,J,e⟩=>⟨x,List.mem_of_mem_take J,e⟩)
  have bj:g.length≤s.prt.length:=Jx nd ao
  refine⟨_,rfl,small (Za rfl),fun tl bb=>?_⟩
  have L:=Aj (o:=.tup [.str "letter", .str z]) bb
  refine⟨_,rfl,lp,r,g,.lt z,rfl,SqL.of (L _ _ B),U.stay (Al L),.lt (Fz.of upd_same),fun u hu=>by have:=hb u (ao u hu);lia,_,rfl,?_⟩
  by_cases aa:Sg.lt z∈g
  ·rw[Z2 aa]
   refine Cv ⟨r,g,_,rfl,y2.stay (Al L),L _ _ X,L _ _ B,U.stay (Al L),nd,fun t=>?_⟩
   rw[tk,W]
   refine⟨fun h=>h.imp id .inl,fun h=>h.elim .inl fun h=>h.elim .inr fun e=>?_⟩
   rw[e]
   exact (W _).mp aa
  ·rw[Z9 aa]
   refine Eg ⟨_,rfl,.inl ⟨rfl,_,SqL.of (L _ _ B)⟩,_,rfl,small (Za rfl),fun ax ba=>?_⟩
   have N:=L.trans (Aj (o:=.tup [.str "letter", .str z]) ba)
   have t2:=(Al N).trans (TuO.lst (o:=.lst (r++[.ref ax])) (N _ _ B))
   have pl:s.prt.length≤s.size:=Fi s
   have ls:=U.length
   refine⟨lp,_,_,rfl,rfl,N _ _ B,Bf (by have:=S.sz;lia),r++[.ref ax],g++[.lt z],_,rfl,y2.stay t2,by rw[Ai aw];exact N _ _ X,upd_same,(U.stay t2).snoc ((SyO.lt (Fz.of upd_same)).stay (TuO.lst (N _ _ B))),?_,fun t=>?_⟩
   ·exact List.nodup_append.mpr ⟨nd,by simp,fun a ha b hb e=>aa (by rw[← Zg.mp hb,← e];exact ha)⟩
   ·rw[tk,Zaa,W,Zg,or_assoc]
 ·rintro σ H2 ⟨r,g,v7,rfl,y2,X,B,U,nd,W⟩
  refine n2 _ _ ?_
  clear n2 D2
  rw[q2]
  have mm:∀ t,t∈g↔t∈s.prt:=fun t=>by
   rw[W,S.pm,Zl,Zaz]
  clear e0 y1 d ag Y bc s1 aw W
  refine Am fun U3 q3 D3 n3=>⟨_,rfl,lp,r,g,rfl,SqL.of B,U,fun t ht=>by have:=hb t ((mm t).mp ht);lia,fun l2 w2 y ap lw av perm au=>n3 _ _ ?_⟩
  clear n3 D3
  rw[q3]
  have s3:=Aj (o:=.lst w2) ap
  have y3:=y2.stay (Al s3)
  have ab:=s3 _ _ X
  have e3:upd H2 l2 (.lst w2) l2=some (.lst w2):=upd_same
  have M:=av.stay (Al s3)
  generalize upd H2 l2 (.lst w2)=H3 at y3 ab e3 M ⊢
  have af:Srt y:=srt_strict au (perm.nodup_iff.mpr nd)
  have am:∀ t,t∈y↔t∈s.prt:=fun t=>by rw[perm.mem_iff,mm]
  have lu:y.length≤s.prt.length:=Jx (srt_nodup af) fun t ht=>(am t).mp ht
  have aq:∀ {os:List Sg},Om os (vis s [])→os=y:=fun O=>Hu O.srt af fun t=>by
   rw[O.mem,vis_prt,am]
   exact⟨fun h=>h.elim (fun z=>(nomatch z)) id,.inr⟩
  have p:s.high≤300∧s.size≤1500:=by have:=S.sz;have:=Em s;exact⟨by lia,by lia⟩
  have wt:=G7 s S.wf
  have tx:=S.tx
  have sz:=S.sz
  have pl:=Fi s
  have bm:=M.length
  clear s3 q1 q2 q3 y2 X B U nd mm av perm au ap lw
  refine Am fun U4 q4 D4 n4=>⟨_,rfl,l2,rfl,⟨_,SqL.of e3⟩,fun D hD=>comp_shw e3 M (by lia) hD fun w4 a0=>n4 _ _ ?_⟩
  clear n4 D4
  rw[q4]
  have s4:=Aj (o:=.lst w4) hD
  have G:=y3.stay (Al s4)
  have ad:=s4 _ _ ab
  have e4:=s4 _ _ e3
  have al:=M.stay (Al s4)
  have eD:upd H3 D (.lst w4) D=some (.lst w4):=upd_same
  have ae:=a0.stay (Al s4)
  generalize upd H3 D (.lst w4)=H4 at G ad e4 al eD ae ⊢
  clear s4 hD a0 y3 ab e3 M q4
  refine Am fun U5 q5 D5 n5=>⟨_,rfl,v,s,rfl,G,p,fun H5 s5=>⟨_,rfl,v,s,rfl,G.stay (Al s5),p,fun H6 s6=>⟨small (Za rfl),fun lt as=>n5 _ _ ?_⟩⟩⟩
  clear n5 D5
  rw[q5]
  have s7:=(s5.trans s6).trans (Aj (o:=.lst [.int (s.size:Nat),.int (s.depth:Nat)]) as)
  have et:upd H6 lt (.lst [.int (s.size:Nat),.int (s.depth:Nat)]) lt=some (.lst [.int (s.size:Nat),.int (s.depth:Nat)]):=upd_same
  generalize upd H6 lt (.lst [.int (s.size:Nat),.int (s.depth:Nat)])=H7 at s7 et ⊢
  clear as s5 s6 q5
  refine Co fun U6 q6=>?_
  refine⟨_,rfl,_,rfl,_,rfl,small (Za rfl),fun p8 ay=>?_⟩
  have x8:=Aj (o:=.lst [.int (s.size:Nat),.int (s.depth:Nat)]) ay
  have s8:=s7.trans x8
  have R:=x8 _ _ et
  refine⟨.l [.f (.int (s.size:Nat)),.f (.int (s.depth:Nat))],.l [.f (.int (s.size:Nat)),.f (.int (s.depth:Nat))],⟨lt,_,rfl,SqL.of R,⟨rfl,rfl⟩,⟨rfl,rfl⟩,trivial⟩,⟨p8,_,rfl,SqL.of upd_same,⟨rfl,rfl⟩,⟨rfl,rfl⟩,trivial⟩,Za rfl,.inr ⟨_,_,rfl,rfl⟩,?_⟩
  rw[show dq (.l [.f (.int (s.size:Nat)),.f (.int (s.depth:Nat))]) (.l [.f (.int (s.size:Nat)),.f (.int (s.depth:Nat))])=true by simp[dq,dqs,eqV]]
  generalize upd H7 p8 (.lst [.int (s.size:Nat),.int (s.depth:Nat)])=H8 at s8 R ⊢
  clear x8 ay s7 et
  refine⟨_,rfl,Cv ⟨_,rfl,lt,_,_,_,rfl,rfl,SqL.of R,at0,(s.size:Nat),rfl,true,rfl,Cv ⟨_,rfl,lt,_,_,_,rfl,rfl,SqL.of R,at1,(s.depth:Nat),rfl,true,rfl,Cv ?_⟩⟩⟩
  refine⟨_,rfl,v,s,rfl,G.stay (Al s8),S.wf,p.1,p.2,fun r9 z9 H9 s9 _ e9 aj an=>⟨_,rfl,?_⟩⟩
  have ez:z9=C:=Ha aj S.zl fun x=>by
   rw[an,vis_prt,S.zm]
   exact⟨fun h=>h.elim (fun z=>(nomatch z)) id,.inr⟩
  subst ez
  have Z:=s8.trans s9
  refine⟨sLs z9,sLs z9,⟨r9,_,rfl,SqL.of e9,sLs_r z9⟩,⟨ll,_,rfl,SqL.of (Z _ _ ad),sLs_r z9⟩,sLs_p z9,.inr ⟨_,_,rfl,rfl⟩,?_⟩
  rw[sLs_q]
  refine⟨_,rfl,Cv (show U6 _ _ _ from ?_)⟩
  rw[q6]
  clear q6 R s8 s9 e9 aj an
  refine Co fun U7 q7=>?_
  refine⟨_,rfl,v,s,rfl,SyO.sy K (G.stay (Al Z)),by lia,fun HA sA=>⟨_,rfl,rfl,_,rfl,?_⟩⟩
  rw[Z2 rfl]
  have ah:=Z.trans sA
  refine Cv ⟨_,rfl,v,s,rfl,SyO.sy K (G.stay (Al ah)),by lia,fun HB sB=>⟨_,rfl,.inl ⟨_,rfl,true,rfl,Cv ?_⟩⟩⟩
  refine⟨_,rfl,s,rfl,S.wf,by lia,fun vC HC sC yC=>⟨_,rfl,?_⟩⟩
  have k:=(ah.trans sB).trans sC
  have a6:=Jw s
  have bd:=hb s (prt_self s)
  obtain⟨d1,ed⟩:=Gh s
  refine⟨sDv s,sDv s,sDv_rK yC,Fp (G.stay (Al k)),by lia,.inl ⟨_,_,ed,ed⟩,?_⟩
  rw[sDv_self]
  refine⟨_,rfl,Cv (show U7 _ _ _ from ?_)⟩
  rw[q7]
  clear q7 sA sB sC yC ah Z a6 bd ed
  have yC:=G.stay (Al k)
  have eC:=k _ _ e4
  have a8:=al.stay (Al k)
  have a7:=k _ _ eD
  have bf:=ae.stay (Al k)
  clear G e4 al eD ae ad k
  have hh:∀ t∈y,t.high≤125:=fun t ht=>by have:=hb t ((am t).mp ht);lia
  refine Am fun U8 q8 D8 n8=>?_
  refine⟨2,rfl,by decide,by decide,for_range (lo:=0) (n:=2) (fun i σ I=>∃ vA vB vC,σ=[some (.ref a),some v,some (.str s.txt),some (.int (s.size:Nat)),some (.int (s.depth:Nat)),some (.ref ll),some (.ref l2),v7,some (.ref D),some (.ref lt),vA,vB,vC]∧Bq HC I) ⟨none,none,none,rfl,Bq.refl _⟩ ?_ ?_⟩
  ·rintro i σ HE hi ⟨vA,vB,vC,rfl,sE⟩
   refine gN ?_
   refine Am fun V1 p1 E1 m1=>⟨_,rfl,v,s,rfl,yC.stay (Al sE),p.1,p.2,fun lf uf of HF sF hf ef a4 a9=>m1 _ _ ?_⟩
   clear m1 E1
   rw[p1]
   have ac:=sE.trans sF
   refine Am fun V2 p2 E2 m2=>⟨_,rfl,v,s,rfl,yC.stay (Al ac),p.1,p.2,fun lg ug og HG sG hg eg ar be=>m2 _ _ ?_⟩
   clear m2 E2
   rw[p2]
   have ak:=ac.trans sG
   cases aq a9
   cases aq be
   refine Co fun V3 p3=>?_
   have bk:(shw y).length≤y.length:=List.length_filter_le _ _
   refine⟨_,rfl,_,rfl,lf,l2,uf,w2,y,rfl,sG _ _ ef,a4.stay (Al sG),ak _ _ eC,a8.stay (Al ak),by lia,hh,fun HI sI=>⟨true,rfl,Cv ?_⟩⟩
   have ai:=ak.trans sI
   refine⟨_,rfl,_,rfl,lg,D,ug,w4,shw y,rfl,sI _ _ eg,ar.stay (Al sI),ai _ _ a7,bf.stay (Al ai),by lia,fun t ht=>hh t (List.mem_filter.mp ht).1,fun HJ sJ=>⟨true,rfl,Cv (show V3 _ _ _ from ?_)⟩⟩
   rw[p3]
   have a3:=ai.trans sJ
   have a1:=(sI.trans sJ) _ _ (sG _ _ ef)
   have a2:=(sI.trans sJ) _ _ eg
   have bg:lg≠lf:=(Ae ef hg).symm
   have bi:=ar.length
   refine⟨_,rfl,.inl ⟨rfl,_,SqL.of a1⟩,lf,_,rfl,rfl,a1,?_⟩
   have az:upd HJ lf (.lst []) lg=some (.lst ug):=by rw[Ai bg];exact a2
   refine⟨_,rfl,.inl ⟨rfl,_,SqL.of az⟩,small (Za rfl),fun tn a5=>?_⟩
   have sN:=Aj (o:=.tup [.str "no"]) a5
   exact⟨lg,_,_,rfl,rfl,sN _ _ az,Bf (by lia),_,_,_,rfl,Ci ((Ci a3 (sE.free hf)).trans sN) (ac.free hg)⟩
  ·rintro σ HE ⟨vA,vB,vC,rfl,sE⟩
   refine n8 _ _ ?_
   rw[q8]
   exact q _
end
theorem Jz {K:PySem.W.Frag}{a:Addr}{dd:Option Addr}{i:List Value}{m:Nat}{sl:Array (Option Value)}{xs:List V}(l:K.lookup a=some ⟨.type "tuple", dd,.seq i.toArray m,sl⟩)(v:Bi xs i)(hx:xs.length≤100000):TK K a xs :=
 ⟨_,i.toArray,m,l,rfl,rfl,by rw[Zh,← v.length];exact small hx,by simpa using v⟩
theorem all_mk {l:PySem.W.OpenLaw}{w:World}{K:PySem.W.Frag}{h:Heap}{mg:Str→Option Value}{ntV ntP ndL ndB ndJ ndS nq0 nqp nqq nqr nq1 nq2 nq3:Nat}(X:K.In h)(G:h.Ns mainGlobals mg)(hfa:mg "law" = some (.ref fa))(aN:Gf K "Numbering" N)(pgN:PySem.W.plainGet K N Str.empty=true)(hdN:PySem.W.hasDictIn K N=true)(poN:PySem.W.plainOver K N=true)(saN:PySem.W.findIn K (.ref N) "__setattr__" = some (some (.builtin "object.__setattr__")))(mkN:PySem.W.makesIn K N=true)(kcN:Kf K N)(nN1:Pn K N "sayings")(nN2:Pn K N "forms")(nN3:Pn K N "numbers")(nN4:Pn K N "sizes")(nN5:Pn K N "heights")(nN6:Pn K N "firsts")(nN7:Pn K N "lasts")(nN8:Pn K N "highest")(nN9:Pn K N "strays")(nN10:Pn K N "met")(nN11:Pn K N "looks")(nN12:Pn K N "came_again")(nN13:Pn K N "home")(nN14:Pn K N "work")(F1:Gd K "inner_of" sIn f1 d1)(F2:Gd K "way_down" sWd f2 d2)(F3:Gd K "one_step_more" sOs f3 d3)(F4:Md K N "__init__" "Numbering.__init__" sInit f4 d4)(F5:Md K N "number" "Numbering.number" sNum f5 d5)(F6:Md K N "number_within" "Numbering.number_within" sNw f6 d6)(F7:Md K N "begin_apart" "Numbering.begin_apart" sBa f7 d7)(F8:Md K N "number_outer" "Numbering.number_outer" sNo f8 d8)(F9:Md K N "number_known" "Numbering.number_known" sNk f9 d9)(F10:Md K N "place_known" "Numbering.place_known" sPk f10 d10)(F11:Md K N "turns_of" "Numbering.turns_of" sTo f11 d11)(F12:Md K N "may_be" "Numbering.may_be" sMb f12 d12)(F13:Md K N "number_form" "Numbering.number_form" sNf f13 d13)(F14:Gd K "look_of" sLo f14 d14)(F15:Gd K "numbered" sNd f15 d15)(F16:Gd K "sorted_numbers" sSn f16 d16)(F17:Gd K "places_of" sPl f17 d17)(F18:Gd K "ranked" sRd f18 d18)(F19:Gd K "spot_of" sSp f19 d19)(F20:Gd K "gap" sGp f20 d20)(F21:Gd K "rank_at" sRa f21 d21)(F22:Gd K "spread" sSd f22 d22)(F23:Gd K "size_of" sSz f23 d23)(F24:Gd K "depth_of" sDp f24 d24)(F25:Gd K "depth_by_forms" sDf f25 d25)(F26:Gd K "parts_of" sPo f26 d26)(F27:Gd K "shown_parts" sSw f27 d27)(F28:Gd K "letters_of" sLt f28 d28)(F29:Gd K "letters_by_forms" sLf f29 d29)(F30:Gd K "written" sWr f30 d30)(F31:Gd K "pieces_of" sPc f31 d31)(F32:Gd K "read" sRe f32 d32)(F33:Gd K "begun" sBg f33 d33)(F34:Gd K "gone_on" sGo f34 d34)(F35:Gd K "denied" sDn f35 d35)(F36:Gd K "_law_cell_at" sCa f36 d36)(F37:Gd K "_law_mixed" sMx f37 d37)(F38:Gd K "_law_whole" sWh f38 d38)(F39:Gd K "_law_step" sStp f39 d39)(F40:Gd K "_law_number" sNm f40 d40)(F41:Gd K "_law_spread" sSpd f41 d41)(F42:Gd K "_law_parts_are" sPar f42 d42)(F43:Gd K "law" sLaw f43 d43)(z1:Gz K "isinstance")(z2:Gz K "list")(z3:Gz K "len")(z4:Gz K "range")(z5:Gz K "tuple")(z6:Gz K "sum")(z7:Gz K "max")(z8:Gz K "min")(z9:Gz K "enumerate")(z10:Gz K "zip")(z11:Gz K "sorted")(z12:Gz K "all")(z13:Gz K "set")(z14:Gz K "str")(z15:Gz K "int")(z16:Gz K "ValueError")(z17:Gz K "any")(z18:Gz K "bool")(z19:Gz K "reversed")(gV:Gf K "LEAVES_numbering" taV)(tV:K.lookup taV=some ⟨.type "tuple", ddV,.seq itV.toArray ntV,twV⟩)(vV:Bi [.str "no", .str "letter"] itV)(gP:Gf K "APART" taP)(tP:K.lookup taP=some ⟨.type "tuple", ddP,.seq itP.toArray ntP,twP⟩)(vP:Bi [.int 1000000000,.int 60000000,.int 20000000,.int 5000000,.int 500000,.int 100000,.int 20000] itP)(gZ:PySem.W.nsIn K mainGlobals "TINY_SIZE" = some (some (.int 8 ttZ)))(gH:PySem.W.nsIn K mainGlobals "LOW_HEIGHT" = some (some (.int 400 ttH)))(adL:Gf K "LEAVES_texts" dtL)(ldL:K.lookup dtL=some ⟨.type "dict", none,.dict esL ndL,#[]⟩)(kdL:PySem.W.KeysLit w.params esL.toList)(odL:(dtL == sysModules)=false)(adB:Gf K "BEGINNINGS" dtB)(ldB:K.lookup dtB=some ⟨.type "dict", none,.dict esB ndB,#[]⟩)(kdB:PySem.W.KeysLit w.params esB.toList)(odB:(dtB == sysModules)=false)(adJ:Gf K "JOINS" dtJ)(ldJ:K.lookup dtJ=some ⟨.type "dict", none,.dict esJ ndJ,#[]⟩)(kdJ:PySem.W.KeysLit w.params esJ.toList)(odJ:(dtJ == sysModules)=false)(adS:Gf K "JOIN_SIGNS" dtS)(ldS:K.lookup dtS=some ⟨.type "dict", none,.dict esS ndS,#[]⟩)(kdS:PySem.W.KeysLit w.params esS.toList)(odS:(dtS == sysModules)=false)(gq0:PySem.W.nsIn K dtL "0" = some (some (.ref xq0)))(tq0:K.lookup xq0=some ⟨.type "tuple", dq0,.seq iq0.toArray nq0,sq0⟩)(vq0:Bi [.str "no"] iq0)(gqp:PySem.W.nsIn K dtL "p" = some (some (.ref xqp)))(tqp:K.lookup xqp=some ⟨.type "tuple", dqp,.seq iqp.toArray nqp,sqp⟩)(vqp:Bi [.str "letter", .str "p"] iqp)(gqq:PySem.W.nsIn K dtL "q" = some (some (.ref xqq)))(tqq:K.lookup xqq=some ⟨.type "tuple", dqq,.seq iqq.toArray nqq,sqq⟩)(vqq:Bi [.str "letter", .str "q"] iqq)(gqr:PySem.W.nsIn K dtL "r" = some (some (.ref xqr)))(tqr:K.lookup xqr=some ⟨.type "tuple", dqr,.seq iqr.toArray nqr,sqr⟩)(vqr:Bi [.str "letter", .str "r"] iqr)(gq1:PySem.W.nsIn K dtB "~" = some (some (.ref xq1)))(tq1:K.lookup xq1=some ⟨.type "tuple", dq1,.seq iq1.toArray nq1,sq1⟩)(vq1:Bi [.str "not"] iq1)(gq2:PySem.W.nsIn K dtB "[" = some (some (.ref xq2)))(tq2:K.lookup xq2=some ⟨.type "tuple", dq2,.seq iq2.toArray nq2,sq2⟩)(vq2:Bi [.str "shown"] iq2)(gq3:PySem.W.nsIn K dtB "(" = some (some (.ref xq3)))(tq3:K.lookup xq3=some ⟨.type "tuple", dq3,.seq iq3.toArray nq3,sq3⟩)(vq3:Bi [] iq3)(bq0:PySem.W.nsIn K dtB "0" = some none)(bqp:PySem.W.nsIn K dtB "p" = some none)(bqq:PySem.W.nsIn K dtB "q" = some none)(bqr:PySem.W.nsIn K dtB "r" = some none)(jq1:PySem.W.nsIn K dtJ "&" = some (some (.str "and" tj1)))(sg1:PySem.W.nsIn K dtS "and" = some (some (.str "&" ts1)))(jq2:PySem.W.nsIn K dtJ "|" = some (some (.str "or" tj2)))(sg2:PySem.W.nsIn K dtS "or" = some (some (.str "|" ts2)))(jq3:PySem.W.nsIn K dtJ ">" = some (some (.str "if" tj3)))(sg3:PySem.W.nsIn K dtS "if" = some (some (.str ">" ts3))) :
  ∃ fd:FuncData,(∀ (s:Shared) (v:Value),BindsTo s fd ⟨[v],[]⟩ [("_law_script", v)])∧∀ base:Heap,K.In base→base.Ns mainGlobals mg→FnOk l.prog w K mg base CX0 39 fa fd ["_law_script"] (spLaw K):=by
 have e:=hfa.symm.trans (Zbz X G F43.a)
 cases e
 have TM:Txt K w.params mg:=⟨Z8 X G z1,Z8 X G z2,Z8 X G z3,Z8 X G z4,Z8 X G z5,Z8 X G z6,Z8 X G z7,Z8 X G z8,Z8 X G z9,Z8 X G z10,Z8 X G z11,Z8 X G z12,Z8 X G z13,Z8 X G z14,Z8 X G z15,Z8 X G z16,Z8 X G z17,Z8 X G z18,⟨taV,Zbz X G gV,Jz tV vV (Za rfl)⟩,⟨ttZ,Zbz X G gZ⟩,⟨ttH,Zbz X G gH⟩,⟨taP,Zbz X G gP,Jz tP vP (Za rfl)⟩⟩
 have TN:TxC K mg N:=⟨⟨pgN,hdN,poN,saN⟩,nN1,nN2,nN3,nN4,nN5,nN6,nN7,nN8,nN9,nN10,nN11,nN12,nN13,nN14,Zbz X G aN⟩
 have TW:TxtW K w.params mg:=⟨⟨dtS,Zbz X G adS,⟨esS,ndS,ldS,kdS⟩,fun j=>match j with | .and=>⟨ts1,sg1⟩ | .or=>⟨ts2,sg2⟩ | .if_=>⟨ts3,sg3⟩⟩,Z8 X G z19⟩
 have lx:∀ x,LtP x→∃ a,PySem.W.nsIn K dtL x=some (some (.ref a))∧TK K a [.str "letter", .str x]:=fun x hx=>by
   rcases hx with rfl | rfl | rfl
   ·exact⟨xqp,gqp,Jz tqp vqp (Za rfl)⟩
   ·exact⟨xqq,gqq,Jz tqq vqq (Za rfl)⟩
   ·exact⟨xqr,gqr,Jz tqr vqr (Za rfl)⟩
 have bx:∀ x,LtP x→PySem.W.nsIn K dtB x=some none:=fun x hx=>by
   rcases hx with rfl | rfl | rfl
   ·exact bqp
   ·exact bqq
   ·exact bqr
 have T6:Txt6 K w.params mg:=⟨⟨dtL,Zbz X G adL,⟨esL,ndL,ldL,kdL⟩,odL,⟨xq0,gq0,Jz tq0 vq0 (Za rfl)⟩,lx⟩,⟨dtB,Zbz X G adB,⟨esB,ndB,ldB,kdB⟩,odB,⟨xq1,gq1,Jz tq1 vq1 (Za rfl)⟩,⟨xq2,gq2,Jz tq2 vq2 (Za rfl)⟩,⟨xq3,gq3,Jz tq3 vq3 (Za rfl)⟩,bq0,bx⟩,⟨dtJ,Zbz X G adJ,⟨esJ,ndJ,ldJ,kdJ⟩,odJ,fun j=>match j with | .and=>⟨tj1,jq1⟩ | .or=>⟨tj2,jq2⟩ | .if_=>⟨tj3,jq3⟩⟩,Z8 X G z9,Z8 X G z12,Z8 X G z5⟩
 obtain⟨_,_,kV,dc,pm,an,cd,ct,_,rfl,_,_⟩:=id F43.F.ex
 refine⟨PySem.W.fnOf "law" "law" (Cj sLaw) (Cc sLaw) (Bd sLaw) .none kV dc pm an cd ct,fun s v=>.of_eq rfl,fun base _ _=>?_⟩
 have D0:∀ {k f d ps sp CX},FnOk l.prog w K mg base CX k f d ps sp→FnOk l.prog w K mg base CX k f d ps sp:=id
 have D1:∀ {x st k f d ps sp CX},Gd K x st f d→FnOk l.prog w K mg base CX k f d ps sp→Da K d ps []→Df l.prog w K mg base CX k x ps sp:=fun F g b=>⟨g,F.F.kp,b,Zbz X G F.a⟩
 have D2:∀ {C x q st k f d ps sp CX},Md K C x q st f d→FnOk l.prog w K mg base CX k f d ps sp→Da K d ps []→Dm l.prog w K mg base CX k C x ps sp:=fun F g b=>⟨g,b,F.m⟩
 have NI:=D1 F1 (ok_in F1.F TM) (fb1 F1.F)
 have NW:=D1 F2 (ok_wd F2.F TM) (fb2 F2.F)
 have NO:=D1 F3 (ok_os F3.F) (fb1 F3.F)
 have NT:=D0 (ok_init F4.F TN)
 have NBa:=D2 F7 (ok_ba F7.F TN) (fb1 F7.F)
 have NTo:=D2 F11 (ok_to F11.F TN) (fb2 F11.F)
 have NMb:=D2 F12 (ok_mb F12.F TM TN) (fb4 F12.F)
 have NNf:=D2 F13 (ok_nf F13.F TM TN NI NO) (fb3 F13.F)
 have NLo:=D1 F14 (ok_lo F14.F) (fb2 F14.F)
 have NNo:=D2 F8 (ok_no F8.F TM TN NNf NLo) (fb3 F8.F)
 have NPk:=D2 F10 (ok_pk F10.F TM TN NW NTo NMb) (fb4 F10.F)
 have NNk:=D2 F9 (ok_nk F9.F TM TN NNf NLo NPk) (fb3 F9.F)
 have NNw:=D2 F6 (ok_nw F6.F TM TN NBa NW NNk NNo) (fb4 F6.F)
 have NU:=D2 F5 (ok_num F5.F TM TN NNw) (fb2 F5.F)
 have NN:=D1 F15 (ok_nd F15.F TN ⟨mkN,F4.a,F4.i,kcN⟩ NT (fb1 F4.F) NU) (fb1 F15.F)
 have GGp:=D1 F20 (ok_gp F20.F) (fb0 F20.F)
 have GRd:=D1 F18 (ok_rd F18.F TM NI) (fb2 F18.F)
 have GSp:=D1 F19 (ok_sp F19.F TM GRd) (fb4 F19.F)
 have GRa:=D1 F21 (ok_ra F21.F TM GGp) (fb3 F21.F)
 have GPl:=D1 F17 (ok_pl F17.F TM) (fb1 F17.F)
 have GSd:=D1 F22 (ok_sd F22.F GPl GGp) (fb1 F22.F)
 have GSn:=D1 F16 (ok_sn F16.F TM GRd GSp GRa GSd) (fb1 F16.F)
 have GSz:=D1 F23 (ok_sz F23.F TN NN) (fb1 F23.F)
 have GDf:=D1 F25 (ok_df F25.F TM NI) (fb1 F25.F)
 have GDp:=D1 F24 (ok_dp F24.F TN NN GDf) (fb1 F24.F)
 have GPo:=D1 F26 (ok_po F26.F TN NN GSn) (fb1 F26.F)
 have GSw:=D1 F27 (ok_sw F27.F GPo) (fb1 F27.F)
 have GLf:=D1 F29 (ok_lf F29.F TM) (fb1 F29.F)
 have GLt:=D1 F28 (ok_lt F28.F TN NN GLf) (fb1 F28.F)
 have GPc:=D1 F31 (ok_pc F31.F TW) (fb1 F31.F)
 have GWr:=D1 F30 (ok_wr F30.F TM TW GPc) (fb1 F30.F)
 have GDn:=D1 F35 (ok_dn F35.F) (fb2 F35.F)
 have GBg:=D1 F33 (ok_bg F33.F T6 GDn) (fb3 F33.F)
 have GGo:=D1 F34 (ok_go F34.F TM T6 GDn) (fb4 F34.F)
 have GRe:=D1 F32 (ok_re F32.F T6 GBg GGo) (fb1 F32.F)
 have GCa:=D1 F36 (ok_ca F36.F TM) (fb2 F36.F)
 have GMx:=D1 F37 (ok_mx F37.F GCa) (fb2 F37.F)
 have GWh:=D1 F38 (ok_wh F38.F TM) (fb1 F38.F)
 have GStp:=D1 F39 (ok_stp F39.F TM) (fb3 F39.F)
 have GNm:=D1 F40 (ok_nm F40.F TM GMx) (fb2 F40.F)
 have GSpd:=D1 F41 (ok_spd F41.F TM GCa GNm GStp) (fb1 F41.F)
 have GPar:=D1 F42 (ok_par F42.F TM) (fb2 F42.F)
 exact ok_law F43.F TM GSpd GSz GDp GLt GWr GRe GPo GSw GPar GWh
theorem walk {l:PySem.W.OpenLaw}{q:Program}{loose:List Str}{XP:(Str→Option Value)→Heap→Prop}{YP:World→Heap→Prop}{d:DefRec}{K:Params→PySem.W.Frag}(hn:l.most=some 63)(hdf:d.params.defaults=[])(hY:∀ (w:World) (h:Heap),YP w h→(K w.params).In h)(F:∀ (w:World) (mg:Str→Option Value) (fa:Addr) (h:Heap),(K w.params).In h→h.Ns mainGlobals mg→mg d.name=some (.ref fa) →
   ∃ fd:FuncData,(∀ (s:Shared) (u:Value),BindsTo s fd ⟨[u],[]⟩ [("_law_script", u)])∧∀ base:Heap,(K w.params).In base→base.Ns mainGlobals mg→FnOk l.prog w (K w.params) mg base CX0 39 fa fd ["_law_script"] (spLaw (K w.params))) :
  PySem.W.WalkO q loose XP YP l.row.toRowW d [] (fun f vs=>PySem.call f vs) :=
 L2.walk_of (n:=63) (k:=39) (x := "_law_script") (CX:=fun _=>CX0) (sp:=fun w=>spLaw (K w.params)) hn (by decide) hdf ⟨rfl,by decide,by decide⟩ hY F (fun _ _ a b c _ e=>⟨a,b,rfl,e,c,fun _=>rfl⟩) fun _ _ _ _ _ z=>z
theorem x_of_o {q:Program}{loose:List Str}{XP:(Str→Option Value)→Heap→Prop}{K:Params→PySem.W.Frag}{as:List Addr}{n t:Nat}{r:PySem.W.RowW}{d:DefRec}{kwd:List (Str×Expr)}{run:Value→List Value→Sem Value}(e:∀ P,as=(K P).map (·.1))(h:PySem.W.WalkO q loose XP (fun w h=>(K w.params).In h) r d kwd run):PySem.W.WalkX q loose XP (PySem.W.X.obsZ as) (PySem.W.X.valZ K n t) r d kwd run :=
 fun w s g u C G y a o l F f k kV i j A m E x b c bs L B D z v p =>
  h w s g u C G (PySem.W.Frag.In.keeps (PySem.W.X.z_facts e y).2.1 L.keeps) a o l F f k kV i j A m E x b c bs B D z v p
end
end My
namespace PySem.W.Fast
theorem tw4921035073857288600:True:=⟨⟩
theorem tw14273909102049415309:True:=⟨⟩
theorem tw13511970564168766109:True:=⟨⟩
theorem tw10975731137506351175:True:=⟨⟩
theorem tw947817400140707147:True:=⟨⟩
theorem tw7744905722352841152:True:=⟨⟩
theorem tw2220393993734572402:True:=⟨⟩
theorem tw2758835156490822022:True:=⟨⟩
theorem tw9703787238530754326:True:=⟨⟩
theorem tw11008531473606128105:True:=⟨⟩
theorem tw1268522903623731314:True:=⟨⟩
theorem tw15117266922239042597:True:=⟨⟩
theorem tw6635867438406402075:True:=⟨⟩
theorem tw1300412003236268915:True:=⟨⟩
theorem tw14339706561411920003:True:=⟨⟩
theorem tw3923870860056172840:True:=⟨⟩
theorem tw17414542413835467457:True:=⟨⟩
theorem tw7738814876974648391:True:=⟨⟩
theorem tw13475896408313771136:True:=⟨⟩
theorem tw13228428286663932517:True:=⟨⟩
theorem tw17752160280419626173:True:=⟨⟩
theorem tw13606018279659310876:True:=⟨⟩
theorem tw3087504349863841696:True:=⟨⟩
theorem tw11387424305007147155:True:=⟨⟩
theorem tw8694836443847545983:True:=⟨⟩
theorem tw16039877379953827387:True:=⟨⟩
theorem tw7703581636782480382:True:=⟨⟩
theorem tw3913414584329169111:True:=⟨⟩
theorem tw11181594263504502066:True:=⟨⟩
theorem tw9948164228789498317:True:=⟨⟩
theorem tw18239938267898568457:True:=⟨⟩
theorem tw1651983599129867626:True:=⟨⟩
theorem tw12067926032120267235:True:=⟨⟩
theorem tw16329749605797662215:True:=⟨⟩
theorem tw9254161591277582824:True:=⟨⟩
theorem tw3031662934280576838:True:=⟨⟩
theorem tw6415841005117379542:True:=⟨⟩
theorem tw18202263966588469435:True:=⟨⟩
theorem tw14728212935896755561:True:=⟨⟩
theorem tw18092606594903449384:True:=⟨⟩
theorem tw12117346082553223426:True:=⟨⟩
theorem tw12447783816986263110:True:=⟨⟩
theorem tw6900012646159079231:True:=⟨⟩
theorem tw15329191112136453414:True:=⟨⟩
theorem tw17153722547883897166:True:=⟨⟩
theorem tw8007428204674245395:True:=⟨⟩
theorem tw4909513637231193323:True:=⟨⟩
theorem tw9176363039773377253:True:=⟨⟩
theorem tw5965550529294119633:True:=⟨⟩
theorem tw13323396080105845245:True:=⟨⟩
theorem tw14243305124381104272:True:=⟨⟩
theorem tw11215796542988445571:True:=⟨⟩
theorem tw9529381489251877004:True:=⟨⟩
theorem tw6305734409043960471:True:=⟨⟩
theorem tw10499036331126655910:True:=⟨⟩
theorem tw18198899718580097547:True:=⟨⟩
theorem tw4911267579268905049:True:=⟨⟩
theorem tw8185565358505327999:True:=⟨⟩
theorem tw1928625091952165974:True:=⟨⟩
theorem tw14308947314055427263:True:=⟨⟩
theorem tw11541818724724299191:True:=⟨⟩
theorem tw9705606723620705934:True:=⟨⟩
theorem tw16015440607400953692:True:=⟨⟩
theorem tw12024260118861713101:True:=⟨⟩
theorem tw13797216600263512336:True:=⟨⟩
theorem tw8449459940674401258:True:=⟨⟩
theorem tw4672778231585195711:True:=⟨⟩
theorem tw8746582505856199066:True:=⟨⟩
theorem tw16274566960264447546:True:=⟨⟩
theorem tw16696581706930396417:True:=⟨⟩
theorem tw11058531688009528255:True:=⟨⟩
theorem tw9250557621957173522:True:=⟨⟩
end PySem.W.Fast
open PySem PySem.W PyProof.Rows My
set_option maxRecDepth 100000 in
set_option maxHeartbeats 0 in
theorem PySem.Challenge.cw_selfsay_k08_great_sayings_holds : PySem.Challenge.rw_selfsay_k08_great_sayings.Holds := by
  w_on;o_law;z_head;(case hw => w_witness2)
  k_fill
  refine My.x_of_o (fun P => by kernel_rfl) ?_
  refine My.walk (l := PySem.Challenge.rw_selfsay_k08_great_sayings) rfl rfl (fun w h Y => Y) ?F
  case F =>
    intro w d c h b G a
    exact all_mk b G a ei ei ei ei ei ei ei ei ei ei ei ei ei ei ei ei ei ei ei ei ei gd gd gd md md md md md md md md md md gd gd gd gd gd gd gd gd gd gd gd gd gd gd gd gd gd gd gd gd gd gd gd gd gd gd gd gd gd gd ei ei ei ei ei ei ei ei ei ei ei ei ei ei ei ei ei ei ei ei ei (.cons ⟨_, rfl⟩ (.cons ⟨_, rfl⟩ .nil)) ei ei (.cons ⟨_, rfl⟩ (.cons ⟨_, rfl⟩ (.cons ⟨_, rfl⟩ (.cons ⟨_, rfl⟩ (.cons ⟨_, rfl⟩ (.cons ⟨_, rfl⟩ (.cons ⟨_, rfl⟩ .nil))))))) ei ei ei ei (by k_keys) (by decide) ei ei (by k_keys) (by decide) ei ei (by k_keys) (by decide) ei ei (by k_keys) (by decide) ei ei (.cons ⟨_, rfl⟩ .nil) ei ei (.cons ⟨_, rfl⟩ (.cons ⟨_, rfl⟩ .nil)) ei ei (.cons ⟨_, rfl⟩ (.cons ⟨_, rfl⟩ .nil)) ei ei (.cons ⟨_, rfl⟩ (.cons ⟨_, rfl⟩ .nil)) ei ei (.cons ⟨_, rfl⟩ .nil) ei ei (.cons ⟨_, rfl⟩ .nil) ei ei (by exact .nil) ei ei ei ei ei ei ei ei ei ei
