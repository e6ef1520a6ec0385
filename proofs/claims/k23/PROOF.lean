import PyProof.Rows.All
import Wide.All
import OpenK.AllK
import Wide.FinOn
import Lean
import PyProof.EqAt
import PyProof.EqKinds
import PyProof.TupleCall
import PyProof.ExcInit
import PyProof.ExcClass3
import PyProof.ExcBaseAll.ValueError
import PyProof.StationsW
import PyProof.FString
import PyProof.Rows.FStr
import PyProof.NsDelKeeps
import PyProof.RulesAs
import PyProof.ExcArgs
import PySem.Str
import PySem.Builtin.Str.Common
import PyProof.ReprReads
import PyProof.Rows.Range3
import PyProof.P3Eq
import PySem.Challenge.RW_broadrow_k23_refusals_apart
open PySem.W renaming Frag → a0a, findIn → a0l, fnOf → a0r, mg_of → a0v, kia_one → a0z, kitOne → a0E, hasDictIn → a0I, takerIn → a0K, InstAt → a0R, specialIn → a0S, any_some → a0V, keepIn → a0W, nsIn → a00, clsIn → a02, takesIn → a07, mroIn → a08, emptyDict → a1h, codeIn → a1s, methodObj → a1u, cellsFrom_some → a1C, instObj → a1E, OpenLaw → a1K, looks_findIn → a1O, lookIn → a1R, notCls → a1T, kitAny → a1U, looks_clsIn → a1V, callWith_K → a1Y, Looks → a10, check_slot → a11, looks_find → a12, isNs_of_in → a14, kitx_list → a18, kitx_dict → a19, handedIn → a2e, plainGet → a2f, findObj → a2q, WalkO → a2y, subIn → a2z
open List renaming replicate → a0b, mem_append_right → a0c, mem_cons_self → a0e, mem_cons_of_mem → a0f, length_map → a0g, size_toArray → a0i, getElem?_eq_some_iff → a0n, length_cons → a0o, getElem?_cons_succ → a0p, length_append → a0t, map_cons → a0u, getElem?_map → a0w, length_replicate → a0A, append_nil → a0B, replicate_succ → a0C, range → a0D, getElem?_append_right → a0F, filterMap_cons → a0G, getElem?_append_left → a0J, mem_singleton → a0L, mem_append_left → a0N, mem_cons → a0Q, length_take → a0U, mem_append → a0Y, nodup_cons → a0Z, getElem?_set_ne → a03, mem_of_getElem? → a04, getElem?_replicate → a09, nil_append → a1a, getElem?_cons_zero → a1b, getElem?_set_self → a1d, take_of_length_le → a1e, flatten_cons → a1f, append_assoc → a1g, lookup_cons → a1k, all_eq_true → a1l, sum_cons → a1n, lookup → a1z, length_drop → a1A, of_mem_zip → a1H, map_nil → a1J, take → a1M, drop → a1N, mem_filterMap → a1W, mem_map → a2b, map_map → a2d, drop_length → a2i, mem_filter → a2m, foldl_cons → a2n, length_set → a2s, mem_range → a2t, drop_zero → a2v, foldl → a2w, take_nil → a2A, drop_nil → a2B
open Bool renaming and_eq_true → a0d, false_ne_true → a0m, and_eq_true_iff → a1m, and_true → a15, or_eq_true → a2r, and_false → a2u
open Nat renaming lt_of_lt_of_le → a0h, le_refl → a0j, le_trans → a0k, ne_of_lt → a0y, zero_le → a0T, lt_of_le_of_lt → a0X, lt_irrefl → a01, ne_of_gt → a05, le_of_lt → a1F, add_comm → a1I, le_of_ble_eq_true → a1L, add_le_add_right → a1Q, zero_add → a2c, le_of_not_lt → a2h, succ_le_succ → a2j, le_add_right → a2k, le_succ → a2o, mul_comm → a2G, lt_trans → a2J
open Option.some renaming inj → a0q, injEq → a1x
open PyProof.Rows renaming slot_tuple_getitem → a0s, callWith_builtin1 → a1i, callWith_type1 → a1o, boot_isinstance → a2l, boot_tuple → a2C, eq_dataH → a2H, ne_dataH → a2I, boot_abs → a2M
open PySem.W.Looks renaming here → a0x
open Array renaming length_toList → a0H, all_eq_true' → a1c, find?_toList → a1X, size_append → a2a, mk → a2D, toList → a2F
open PySem.Builtin.Str renaming occurrences → a0M
open False renaming elim → a0O
open PySem renaming mem_of_lookup → a0P, reprText → a1t, Str → a1Z, handedOut → a2p, call → a2x, Within → a2E, PyData → a2K
open True renaming intro → a06
open Or renaming inr → a1j, inl → a1r
open PySem.F renaming excBase_ValueError → a1p, args_tuple_add_2 → a1w, entry_tuple_add → a1y, slot_tuple_add → a1D
open Prod renaming snd → a1q, fst → a2P
open Option renaming isSome_iff_exists → a1v, bind_some → a1B, toList_none → a13, getD_none → a2g
open Ne renaming symm → a1G
open String renaming length_toList → a1P
open PySem.Str renaming join → a1S
open Sum renaming inl → a16, inr → a17
open Classical renaming em → a2L
open Prod.mk renaming inj → a2N
open And renaming left → a2O
open List.Pairwise renaming nil → a2Q
open PySem.Within renaming cons → a2R
set_option genSizeOf false
set_option genInjectivity false
set_option Elab.async false
set_option linter.all false
set_option maxRecDepth 100000
namespace L2
open PySem PySem.Spec PyProof.Rows
noncomputable abbrev Key:=Sum Int Str
noncomputable def nr:Key->Value->Bool
 | .inl k,v=>Value.isInt k v
 | .inr x,v=>Value.isStrOf x v
noncomputable def vz (w:World):Key->Int
 | .inl k=>hashInt k
 | .inr x=>hashStr w x
theorem ay:∀ {k:Key} {v:Value},nr k v=true->(∃ i t,k=a16 i/\v=Value.int i t)\/(∃ x t,k=a17 x/\v=Value.str x t)
 | .inl i,v,h=>by
  obtain ⟨t,e⟩:=Value.isInt_shape (k:=i) (v:=v) h
  exact .inl ⟨i,t,rfl,e⟩
 | .inr x,v,h=>by
  obtain ⟨t,e⟩:=Value.isStrOf_shape (x:=x) (v:=v) h
  exact .inr ⟨x,t,rfl,e⟩
theorem rh (a b:Int):decide ((a16 a:Key)=a16 b)=(a==b):=by
 by_cases e:a=b
 ·subst e; simp
 ·have h:¬ (a16 a:Key)=a16 b:=fun q=>e (Sum.inl.inj q)
  rw [decide_eq_false h]
  exact (beq_eq_false_iff_ne.mpr e).symm
theorem pf (a b:Str):decide ((a17 a:Key)=a17 b)=decide (a=b):=by
 by_cases e:a=b
 ·subst e; simp
 ·have h:¬ (a17 a:Key)=a17 b:=fun q=>e (Sum.inr.inj q)
  rw [decide_eq_false h,decide_eq_false e]
theorem pb (a:Int)(b:Str):decide ((a16 a:Key)=a17 b)=false:=decide_eq_false (fun q=>nomatch q)
theorem qM (a:Str)(b:Int):decide ((a17 a:Key)=a16 b)=false:=decide_eq_false (fun q=>nomatch q)
noncomputable def dW (prog:Program)(w:World):PySem.KeyKind prog w Key where
 is:=nr
 hash:=vz w
 inj:=fun v a b ha hb=>by
  rcases ay ha with ⟨i,t,rfl,rfl⟩ | ⟨x,t,rfl,rfl⟩
  ·rcases ay hb with ⟨j,u,rfl,e⟩ | ⟨y,u,rfl,e⟩
   ·injection e with e1 _; rw [e1]
   ·exact nomatch e
  ·rcases ay hb with ⟨j,u,rfl,e⟩ | ⟨y,u,rfl,e⟩
   ·exact nomatch e
   ·injection e with e1 _; rw [e1]
 byValue:=fun k v h=>by
  rcases ay h with ⟨i,t,rfl,rfl⟩ | ⟨x,t,rfl,rfl⟩<;>rfl
 pyHash:=fun hv h=>by
  rcases ay hv with ⟨i,t,rfl,rfl⟩ | ⟨x,t,rfl,rfl⟩
  ·exact wpAny_pyHash_int h
  ·exact wpAny_pyHash_str h
 eqBool:=fun hu hv h=>by
  rcases ay hu with ⟨i,t,rfl,rfl⟩ | ⟨x,t,rfl,rfl⟩
  ·rcases ay hv with ⟨j,u,rfl,rfl⟩ | ⟨y,u,rfl,rfl⟩
   ·rw [rh] at h; exact wpAny_eqBool_int h
   ·rw [pb] at h; exact SeqAt.EqAt.int_str i t y u _ _ _ _ h
  ·rcases ay hv with ⟨j,u,rfl,rfl⟩ | ⟨y,u,rfl,rfl⟩
   ·rw [qM] at h; exact SeqAt.EqAt.str_int x t j u _ _ _ _ h
   ·rw [pf] at h; exact wpAny_eqBool_str h
 «strs»:=fun k x t v h=>by
  rcases ay h with ⟨i,u,rfl,e⟩ | ⟨y,u,rfl,e⟩
  ·exact nomatch e
  ·injection e with e1 _
   subst e1
   cases v<;>rfl
end L2
namespace L2
open PySem PySem.Spec PyProof.Rows
set_option genInjectivity true
inductive V where
 | non | bl (b:Bool) | int (i:Int) | str (x:Str) | byt (b:Array UInt8) | flt (b:UInt64) | ref (a:Addr) | ty (n:String)
 deriving DecidableEq
set_option genInjectivity false
noncomputable def RelV:V->Value->Prop
 | .non,u=>u=Value.none
 | .bl b,u=>u=Value.bool b
 | .int i,u=>∃ t,u=Value.int i t
 | .str x,u=>∃ t,u=Value.str x t
 | .byt b,u=>∃ t,u=Value.bytes b t
 | .flt b,u=>∃ t,u=Value.float b t
 | .ref a,u=>u=Value.ref a
 | .ty n,u=>u=Value.type n
noncomputable abbrev Vals:List V->List Value->Prop:=Paired RelV
theorem Vals.length {xs:List V}{us:List Value}(r:Vals xs us):xs.length=us.length:=Paired.length r
theorem Vals.get:∀ {xs:List V} {us:List Value} {i:Nat} {x:V},Vals xs us->xs[i]?=some x->∃ u,us[i]?=some u/\RelV x u
 | _,_,_,_,.nil,e=>by simp at e
 | _,_,0,_,.cons r _,e=>by simp at e; subst e; exact ⟨_,rfl,r⟩
 | _,_,i+1,x,.cons _ t,e=>by
  obtain ⟨u,h1,h2⟩:=Vals.get (i:=i) (x:=x) t (by simpa using e)
  exact ⟨u,by simpa using h1,h2⟩
theorem Vals.append:∀ {xs ys:List V} {us ws:List Value},Vals xs us->Vals ys ws->Vals (xs++ys) (us++ws)
 | _,_,_,_,.nil,s=>s
 | _,_,_,_,.cons r t,s=>.cons r (Vals.append t s)
theorem Vals.take:∀ {xs:List V} {us:List Value} (n:Nat),Vals xs us->Vals (xs.take n) (us.take n)
 | _,_,0,_=>.nil
 | _,_,_+1,.nil=>.nil
 | _,_,n+1,.cons r t=>.cons r (Vals.take n t)
theorem Vals.drop:∀ {xs:List V} {us:List Value} (n:Nat),Vals xs us->Vals (xs.drop n) (us.drop n)
 | _,_,0,r=>r
 | _,_,_+1,.nil=>.nil
 | _,_,n+1,.cons _ t=>Vals.drop n t
noncomputable def RelO:Option V->Option Value->Prop
 | some v,some u=>RelV v u
 | none,none=>True
 | _,_=>False
noncomputable def KV {κ:Type}:List (κ×V)->List (κ×Value)->Prop:=Paired fun (p:κ×V) (q:κ×Value)=>p.1=q.1/\RelV p.2 q.2
noncomputable def kV:Key->V
 | .inl i=>.int i
 | .inr x=>.str x
inductive HO where
 | lst (xs:List V)
 | tup (xs:List V)
 | dK (kvs:List (Key×V)) | dT (kvs:List (List Key×V))
 | set (S:Int->Bool) (n:Nat)
 | ins (C dx:Addr) (fs:List (Str×V))
 | own (x:Addr)
 | xd (fs:List (Str×V))
 | met (f x:Addr)
 | rng (lo hi:Int)
 | frz (o:Obj) (u:HO)
 | tbl (ps:Array Value)
 | ext (φ:Heap->Prop)
noncomputable abbrev Hp:=Addr->Option HO
noncomputable def upd (H:Hp)(a:Addr)(o:HO):Hp:=fun b=>if b=a then some o else H b
theorem aA {H:Hp}{a:Addr}{o:HO}:upd H a o a=some o:=by unfold upd; rw [if_pos rfl]
theorem ae {H:Hp}{a b:Addr}{o:HO}(h:b≠a):upd H a o b=H b:=by unfold upd; rw [if_neg h]
theorem aF {H:Hp}{a b:Addr}{o:HO}(h:H a=some o)(h':H b=none):a≠b:=by
 intro e; subst e; rw [h] at h'; cases h'
section
variable (P:Program)(w:World)
noncomputable def ObjOk (H:Hp)(h:Heap)(a:Addr):HO->Prop
 | .lst xs=>xs.length<=sizeLine/\∃ (its:List Value) (n:Nat),Vals xs its/\h.get? a=some { cls:=.type "list",data:=.seq its.toArray n }
 | .tup xs=>xs.length<=sizeLine/\∃ its:List Value,Vals xs its/\IsTup h a its.toArray
 | .dK kvs=>kvs.length<=sizeLine/\(a==sysModules)=false/\∃ vs,KV kvs vs/\h.DictOf (dW P w) a vs
 | .dT kvs=>kvs.length<=sizeLine/\(a==sysModules)=false/\∃ xs:List (List Key×Addr×Value),
   Paired (fun (p:List Key×V) (q:List Key×Addr×Value)=>p.1=q.1/\H q.2.1=some (.tup (p.1.map kV))/\RelV p.2 q.2.2) kvs xs /\
   ∃ o es ep,h.get? a=some o/\o.ExactDict/\o.data=.dict es ep/\es.toList=xs.map (entryOfKey (tupleKind (dW P w)))/\(xs.map (·.1)).Nodup
 | .set S n=>h.SetOf (intKind P w) a S n
 | .ins C dx fs=>H dx=some (.own a)/\fs.length<=1000/\dx≠a/\h.get? a=some (a1E C dx) /\
   ∃ mA,h.Ns1 dx mA/\(∀ f,RelO (fs.lookup f) (mA f))/\a2E mA (fs.map (·.1))
 | .own _=>∃ o,h.get? a=some o
 | .xd fs=>∃ mA,h.Ns1 a mA/\∀ f,RelO (fs.lookup f) (mA f)
 | .rng lo hi=>∃ t u v,h.get? a=some { cls:=.type "range",data:=.fields #[.int lo t,.int hi u,.int 1 v] }
 | .frz o u=>h.get? a=some o/\ObjOk H h a u
 | .tbl ps=>h.get? a=some { cls:=.none,data:=.fields ps }
 | .met f x=>h.get? a=some (a1u (.ref f) (.ref x))
 | .ext φ=>φ h/\(∃ o,h.get? a=some o)/\∀ h1 h2:Heap,φ h1->(∀ o,h1.get? a=some o->h2.get? a=some o)->φ h2
noncomputable def HOk (H:Hp)(h:Heap):Prop:=∀ a o,H a=some o->ObjOk P w H h a o
end
section
variable {P:Program}{w:World}{H H':Hp}{h h':Heap}{a:Addr}{o:HO}
theorem ObjOk.lt (x:ObjOk P w H h a o):a < h.objs.size:=by
 cases o with
 | lst xs=>obtain ⟨_,_,_,_,e⟩:=x; exact Heap.lt_size e
 | tup xs=>obtain ⟨_,_,_,p⟩:=x; exact p.lt
 | dK kvs=>obtain ⟨_,_,_,_,o,_,_,e,_⟩:=x; exact Heap.lt_size e
 | dT kvs=>obtain ⟨_,_,_,_,o,_,_,e,_⟩:=x; exact Heap.lt_size e
 | set S n=>obtain ⟨o,_,_,_,e,_⟩:=x; exact Heap.lt_size e
 | ins C dx fs=>obtain ⟨_,_,_,e,_⟩:=x; exact Heap.lt_size e
 | own y=>obtain ⟨_,e⟩:=x; exact Heap.lt_size e
 | xd fs=>obtain ⟨_,⟨_,_,_,e,_⟩,_⟩:=x; exact Heap.lt_size e
 | rng lo hi=>obtain ⟨_,_,_,e⟩:=x; exact Heap.lt_size e
 | frz ob u=>obtain ⟨e,_⟩:=x; exact Heap.lt_size e
 | tbl ps=>exact Heap.lt_size (show h.get? a=some _ from x)
 | met f y=>exact Heap.lt_size (show h.get? a=some _ from x)
 | ext φ=>obtain ⟨_,⟨_,e⟩,_⟩:=x; exact Heap.lt_size e
theorem Paired.mapP {α β:Type}{F G:α->β->Prop}:∀ {l₁:List α} {l₂:List β},Paired F l₁ l₂->(∀ a b,F a b->G a b)->Paired G l₁ l₂
 | _,_,.nil,_=>.nil
 | _,_,.cons r t,f=>.cons (f _ _ r) (Paired.mapP t f)
theorem ObjOk.stay (x:ObjOk P w H h a o)(k:∀ b u,(b=a\/H b=some (.own a))->h.get? b=some u->h'.get? b=some u)
  (ho:∀ b,H b=some (.own a)->H' b=some (.own a)) (ht:∀ b xs,H b=some (.tup xs)->H' b=some (.tup xs)):ObjOk P w H' h' a o:=by
 induction o with
 | lst xs=>obtain ⟨z,its,n,r,e⟩:=x; exact ⟨z,its,n,r,k _ _ (.inl rfl) e⟩
 | tup xs=>obtain ⟨z,its,r,ob,e,c⟩:=x; exact ⟨z,its,r,ob,k _ _ (.inl rfl) e,c⟩
 | dK kvs=>obtain ⟨z,y,vs,r,ob,es,ep,e,c⟩:=x; exact ⟨z,y,vs,r,ob,es,ep,k _ _ (.inl rfl) e,c⟩
 | dT kvs =>
  obtain ⟨z,y,xs,r,ob,es,ep,e,c⟩:=x
  exact ⟨z,y,xs,Paired.mapP r fun p q z=>⟨z.1,ht _ _ z.2.1,z.2.2⟩,ob,es,ep,k _ _ (.inl rfl) e,c⟩
 | set S n=>obtain ⟨ob,es,ep,t,e,c⟩:=x; exact ⟨ob,es,ep,t,k _ _ (.inl rfl) e,c⟩
 | ins C dx fs =>
  obtain ⟨d,z,ne,e,mA,⟨od,es,ep,e2,c⟩,r⟩:=x
  exact ⟨ho _ d,z,ne,k _ _ (.inl rfl) e,mA,⟨od,es,ep,k _ _ (.inr d) e2,c⟩,r⟩
 | own y=>obtain ⟨ob,e⟩:=x; exact ⟨ob,k _ _ (.inl rfl) e⟩
 | xd fs=>obtain ⟨mA,⟨od,es,ep,e,c⟩,r⟩:=x; exact ⟨mA,⟨od,es,ep,k _ _ (.inl rfl) e,c⟩,r⟩
 | rng lo hi=>obtain ⟨t,u,v,e⟩:=x; exact ⟨t,u,v,k _ _ (.inl rfl) e⟩
 | frz ob u ih=>obtain ⟨e,q⟩:=x; exact ⟨k _ _ (.inl rfl) e,ih q⟩
 | tbl ps =>
  have e:h.get? a=some { cls:=.none,data:=.fields ps }:=x
  show h'.get? a=some { cls:=.none,data:=.fields ps }
  exact k a _ (.inl rfl) e
 | met f y =>
  have e:h.get? a=some (a1u (.ref f) (.ref y)):=x
  show h'.get? a=some (a1u (.ref f) (.ref y))
  exact k a _ (.inl rfl) e
 | ext φ=>obtain ⟨p,⟨o,e⟩,st⟩:=x; exact ⟨st _ _ p fun o q=>k _ _ (.inl rfl) q,⟨o,k _ _ (.inl rfl) e⟩,st⟩
theorem HOk.lt (x:HOk P w H h)(e:H a=some o):a < h.objs.size:=(x a o e).lt
theorem HOk.fresh (x:HOk P w H h)(e:h.objs.size<=a):H a=none:=by
 cases q:H a with
 | none=>rfl
 | some u=>exact absurd (a0h (x.lt q) e) (a01 _)
theorem HOk.kept (x:HOk P w H h)(k:∀ b u,h.get? b=some u->h'.get? b=some u):HOk P w H h':=fun a o e =>
 (x a o e).stay (fun b u _ q=>k b u q) (fun _ q=>q) fun _ _ q=>q
theorem HOk.laid (x:HOk P w H h)(k:∀ b u,h.get? b=some u->h'.get? b=some u)(hp:h.objs.size<=a)(new:ObjOk P w (upd H a o) h' a o):HOk P w (upd H a o) h':=fun b u e=>by
 have hn:=x.fresh hp
 by_cases hb:b=a
 ·subst hb; rw [aA] at e; cases e; exact new
 ·rw [ae hb] at e
  exact (x b u e).stay (fun c v _ q=>k c v q) (fun c q=>by rw [ae (aF q hn)]; exact q) fun c xs q=>by rw [ae (aF q hn)]; exact q
end
noncomputable def Rd (H:Hp)(a:Addr)(u:HO):Prop:=H a=some u\/∃ o,H a=some (.frz o u)
theorem Rd.ok {P:Program}{w:World}{H:Hp}{h:Heap}{a:Addr}{u:HO}(r:Rd H a u)(x:HOk P w H h):ObjOk P w H h a u:=by
 rcases r with r | ⟨o,r⟩
 ·exact x a u r
 ·obtain ⟨_,q⟩:=x a _ r
  exact q
noncomputable def Mut:Option HO->Prop
 | some (.lst _)=>True
 | some (.dK _)=>True
 | some (.dT _)=>True
 | some (.set _ _)=>True
 | some (.ins _ _ _)=>True
 | some (.ext _)=>True
 | _=>False
section
variable {P:Program}{w:World}{H:Hp}{h h':Heap}{x e:Addr}{o':HO}
theorem HOk.write (ok:HOk P w H h)(mu:Mut (H x))(he:e=x\/H e=some (.own x))(k:∀ b u,b≠e->h.get? b=some u->h'.get? b=some u)(heo:∃ u,h'.get? e=some u)
  (new:ObjOk P w (upd H x o') h' x o'):HOk P w (upd H x o') h':=fun b u q=>by
 have nown:∀ c y,H c=some (.own y)->c≠x:=fun c y r z=>by subst z; rw [r] at mu; exact mu
 have ntup:∀ c xs,H c=some (.tup xs)->c≠x:=fun c xs r z=>by subst z; rw [r] at mu; exact mu
 by_cases hb:b=x
 ·subst hb; rw [aA] at q; cases q; exact new
 ·rw [ae hb] at q
  by_cases hbe:b=e
  ·have q':H b=some (.own x):=by
    rcases he with z | z
    ·exact absurd (hbe.trans z) hb
    ·rw [hbe]; exact z
   rw [q] at q'; cases q'
   obtain ⟨v,hv⟩:=heo
   exact ⟨v,by rw [hbe]; exact hv⟩
  ·refine (ok b u q).stay (fun c v hc r=>k c v ?_ r) (fun c r=>by rw [ae (nown c b r)]; exact r) fun c xs r=>by rw [ae (ntup c xs r)]; exact r
   rcases hc with rfl | hc
   ·exact hbe
   ·rintro rfl
    rcases he with z | z
    ·exact nown c b hc z
    ·rw [hc] at z; cases z; exact hb rfl
end
structure Un (fs ex:List Addr)(H H':Hp)(h h':Heap):Prop where
 keep:∀ b o,h.get? b=some o->H b=none->b ∉ fs->b ∉ ex->h'.get? b=some o
 slot:∀ b o,h.get? b=some o->H b=none->b∈fs->b ∉ ex->∃ sl,h'.get? b=some { o with slots:=sl }
 free:∀ b o,h.get? b=some o->H b=none->b ∉ ex->H' b=none
 there:∀ b o,h.get? b=some o->b ∉ ex->∃ o',h'.get? b=some o'
 tups:∀ b xs,H b=some (.tup xs)->H' b=some (.tup xs)
 frzs:∀ b o u,H b=some (.frz o u)->H' b=some (.frz o u)
 tbls:∀ b ps,H b=some (.tbl ps)->∃ more,H' b=some (.tbl (ps++more))
section
variable {fs fs' ex ex':List Addr}{H H1 H2:Hp}{h h1 h2 h':Heap}{a x e:Addr}{o:HO}
theorem Un.any (u:Un fs ex H H1 h h1){b:Addr}{ob:Obj}(q:h.get? b=some ob)(n:H b=none)(hx:b ∉ ex):∃ sl,h1.get? b=some { ob with slots:=sl }:=by
 by_cases hb:b∈fs
 ·exact u.slot b ob q n hb hx
 ·exact ⟨ob.slots,u.keep b ob q n hb hx⟩
theorem Un.kept (k:∀ b u,h.get? b=some u->h'.get? b=some u):Un fs ex H H h h' :=
 ⟨fun b ob q _ _ _=>k b ob q,fun b ob q _ _ _=>⟨ob.slots,k b ob q⟩,fun _ _ _ n _=>n,fun b ob q _=>⟨ob,k b ob q⟩,fun _ _ q=>q,fun _ _ _ q=>q,fun _ ps q=>⟨#[],by rw [q]; simp⟩⟩
theorem Un.refl:Un fs ex H H h h:=Un.kept fun _ _ q=>q
theorem Un.laid (k:∀ b u,h.get? b=some u->h'.get? b=some u)(hp:h.objs.size<=a)(hn:H a=none):Un fs ex H (upd H a o) h h' where
 keep:=fun b u q _ _ _=>k b u q
 slot:=fun b u q _ _ _=>⟨u.slots,k b u q⟩
 free:=fun b u q n _=>by rw [ae (a0y (a0h (Heap.lt_size q) hp))]; exact n
 there:=fun b u q _=>⟨u,k b u q⟩
 tups:=fun b xs q=>by rw [ae (aF q hn)]; exact q
 frzs:=fun b u xs q=>by rw [ae (aF q hn)]; exact q
 tbls:=fun b ps q=>⟨#[],by rw [ae (aF q hn),q]; simp⟩
theorem Un.write (mu:Mut (H x))(he:e=x\/H e=some (.own x))(k:∀ b u,b≠e->h.get? b=some u->h'.get? b=some u)(heo:∃ u,h'.get? e=some u):Un fs ex H (upd H x o) h h':=by
 have hx:∀ b,H b=none->b≠x:=fun b n z=>by subst z; rw [n] at mu; exact mu
 have hb:∀ b,H b=none->b≠e:=fun b n z=>by
  subst z
  rcases he with r | r
  ·exact hx b n r
  ·rw [n] at r; cases r
 have hm:∀ b u,H b=some u->¬ Mut (some u)->b≠x:=fun b u q nm z=>by subst z; rw [q] at mu; exact nm mu
 refine ⟨fun b u q n _ _=>k b u (hb b n) q,fun b u q n _ _=>⟨u.slots,k b u (hb b n) q⟩,fun b u q n _=>by rw [ae (hx b n)]; exact n,fun b u q _=>?_,
  fun b xs q=>by rw [ae (hm b _ q fun z=>z)]; exact q,fun b u xs q=>by rw [ae (hm b _ q fun z=>z)]; exact q,fun b ps q=>⟨#[],by rw [ae (hm b _ q fun z=>z),q]; simp⟩⟩
 by_cases hbe:b=e
 ·subst hbe; exact heo
 ·exact ⟨u,k b u hbe q⟩
end
noncomputable def trk (h:Heap)(H:Hp):List Addr:=(a0D h.objs.size).filter fun a=>(H a).isSome
noncomputable def dS (h:Heap)(H:Hp):Heap:=PySem.W.hideAll h (trk h H)
theorem gG (h:Heap)(H:Hp):(dS h H).objs.size=h.objs.size:=PySem.W.hideAll_size _ _
theorem jW {h:Heap}{H:Hp}{b:Addr}{o:Obj}(e:h.get? b=some o)(n:H b=none):(dS h H).get? b=some o :=
 PySem.W.hideAll_get _ e fun hm=>by
  have q:(H b).isSome=true:=(a2m.mp hm).2
  rw [n] at q; simp at q
theorem lu {h:Heap}{H:Hp}{b:Addr}{o:Obj}(e:(dS h H).get? b=some o):h.get? b=some o/\H b=none:=by
 have e':h.get? b=some o:=PySem.W.of_hideAll (trk h H) e
 refine ⟨e',?_⟩
 cases q:H b with
 | none=>rfl
 | some x =>
  have hm:b∈trk h H:=a2m.mpr ⟨a2t.mpr (Heap.lt_size e'),by simp [q]⟩
  have z:(dS h H).get? b=none:=PySem.W.hideAll_none (trk h H) hm
  rw [z] at e; cases e
noncomputable def l5 (g h:Heap)(L:Addr):List (Addr×Obj):=(a0D h.objs.size).filterMap fun a=>if a=L\/(g.get? a).isSome=true then none else (h.get? a).map fun o=>(a,o)
noncomputable def rest (g h:Heap)(L d:Addr):List (Addr×Obj):=(l5 g h L).filter fun p=>decide (p.1≠d)
end L2
namespace L2
open PySem PySem.Spec PyProof.Rows
structure Mod (K:a0a)(mg:Str->Option Value)(base:Heap):Prop where
 kin:K.In base
 glob:base.Ns mainGlobals mg
 blt:∃ mb,base.Ns builtinsNs mb/\∀ x:Str,x≠"__name__"->mb x=bootBuiltins x
 nolimit:base.NoLimit
structure Cx where
 prog:Program
 w:World
 K:a0a
 mg:Str->Option Value
 base:Heap
 A:Around
 N:List Str
 s₀:Shared
 H₀:Hp
 env:Env
 outer:List Env
 stack:List Env
 ex:List Addr
 fn:Str->Bool
 calm:Bool
 pn:List (Addr×Obj)
 xe:Value->Shared->Prop
noncomputable def frs (l:List Env):List Addr:=l.filterMap (·.frame)
noncomputable abbrev Cx.fs (X:Cx):List Addr:=frs X.outer
noncomputable def Vis (sc:Scope)(x:Str):Prop:=sc.names.lookup x=some .local\/sc.names.lookup x=some .cell\/sc.names.lookup x=some .free
noncomputable def Loc (sc:Scope)(x:Str):Prop:=sc.names.lookup x=some .local\/sc.names.lookup x=some .cell
noncomputable def vk (env:Env)(h:Heap)(m:Str->Option Value)(x:Str)(u:Value):Prop :=
 (env.kindOf x=some .local/\m x=some u)\/((env.kindOf x=some .cell\/env.kindOf x=some .free)/\∃ c,env.cells.lookup x=some c/\h.IsCell c (some u))
structure Cx.Ok (X:Cx):Prop where
 mod:Mod X.K X.mg X.base
 kind:X.env.scope.kind=.function
 glob:X.env.globals=mainGlobals
 blt:X.env.builtins=builtinsNs
 above:X.s₀.heap.objs.size<=X.env.locals
 inj:∀ x y c,X.env.cells.lookup x=some c->X.env.cells.lookup y=some c->x=y
 has:∀ x,(X.env.kindOf x=some .cell\/X.env.kindOf x=some .free)->∃ c,X.env.cells.lookup x=some c
 cab:∀ x c,X.fn x=true->X.env.cells.lookup x=some c->X.s₀.heap.objs.size<=c
 hd:X.calm=true->X.A.handled=none
 frames:X.A.frames=some X.stack
 stk:X.stack=X.outer\/(X.stack=X.env::X.outer/\X.env.frame=some X.env.locals)
 exf:∀ b∈X.ex,b≠X.env.locals/\∀ x c,X.env.cells.lookup x=some c->c≠b
 bs:∀ b o,X.base.get? b=some o->X.s₀.heap.get? b=some o/\X.H₀ b=none
 bsz:X.base.objs.size<=X.s₀.heap.objs.size
 noex:∀ b o,X.base.get? b=some o->b ∉ X.ex
 exfs:∀ b∈X.ex,b ∉ X.fs
 funs:X.s₀.heap.FunFrames X.base X.outer
 frf:∀ b∈X.fs,X.H₀ b=none
structure Inv (X:Cx)(pins:List (Addr×Obj))(σ:List (Option V))(H:Hp)(s:Shared):Prop where
 ok:X.Ok
 os:s.os=X.s₀.os
 bare:AllBare s.gens
 base:Un X.fs X.ex X.H₀ H X.s₀.heap s.heap
 loc:∃ m,s.heap.Ns X.env.locals m/\∀ (i:Nat) (x:Str) (v:V),X.N[i]?=some x->σ[i]?=some (some v)->Vis X.env.scope x->∃ u,RelV v u/\vk X.env s.heap m x u
 cell:∀ x c,X.env.cells.lookup x=some c->∃ v,s.heap.IsCell c v
 free:H X.env.locals=none
 freeC:∀ x c,X.env.cells.lookup x=some c->H c=none
 pin:∀ p∈X.pn++pins,s.heap.get? p.1=some p.2/\H p.1=none/\p.1≠X.env.locals/\p.1 ∉ X.fs/\∀ v,p.2.data≠.cell v
 hok:HOk X.prog X.w H s.heap
 len:σ.length=X.N.length
section
variable {X:Cx}{pins:List (Addr×Obj)}{σ:List (Option V)}{H H':Hp}{s:Shared}{h':Heap}
theorem Cx.Ok.nofr (ok:X.Ok){b:Addr}{o:Obj}(e:X.base.get? b=some o):b ∉ X.fs:=fun hb=>by
 have:=(ok.funs.mem hb).1
 rw [e] at this; cases this
theorem Inv.bs (I:Inv X pins σ H s):∀ b o,X.base.get? b=some o->s.heap.get? b=some o/\H b=none:=fun b o e =>
 ⟨I.base.keep b o (I.ok.bs b o e).1 (I.ok.bs b o e).2 (I.ok.nofr e) (I.ok.noex b o e),I.base.free b o (I.ok.bs b o e).1 (I.ok.bs b o e).2 (I.ok.noex b o e)⟩
theorem Inv.bk (I:Inv X pins σ H s):∀ b o,X.base.get? b=some o->s.heap.get? b=some o:=fun b o e=>(I.bs b o e).1
theorem Inv.mod (I:Inv X pins σ H s):Mod X.K X.mg X.base:=I.ok.mod
theorem Inv.kIn (I:Inv X pins σ H s):X.K.In s.heap:=I.ok.mod.kin.keeps I.bk
theorem Inv.fr (I:Inv X pins σ H s):∃ m,Fr X.base X.env.locals s.heap m :=
 let ⟨m,hn,_⟩:=I.loc
 ⟨m,hn,I.bk,a0k I.ok.bsz I.ok.above⟩
theorem Inv.lt (I:Inv X pins σ H s):X.env.locals < s.heap.objs.size:=let ⟨_,hn,_⟩:=I.loc; hn.lt
theorem Inv.sz (I:Inv X pins σ H s):X.s₀.heap.objs.size<=s.heap.objs.size:=a0k I.ok.above (a1F I.lt)
theorem Inv.nofs (I:Inv X pins σ H s){a:Addr}(h:s.heap.objs.size<=a):a ∉ X.fs:=fun hb=>by
 obtain ⟨_,o,ho,_⟩:=I.ok.funs.mem hb
 exact absurd (a0h (Heap.lt_size ho) (a0k I.sz h)) (a01 _)
theorem Inv.cne (I:Inv X pins σ H s):∀ x c,X.env.cells.lookup x=some c->c≠X.env.locals:=fun x c e z=>by
 obtain ⟨v,o,ho,hd⟩:=I.cell x c e
 obtain ⟨m,⟨o',es,ep,ho',hd',_⟩,_⟩:=I.loc
 rw [z,ho'] at ho; cases ho; rw [hd'] at hd; cases hd
theorem Inv.funs (I:Inv X pins σ H s):s.heap.FunFrames X.base X.outer:=by
 have all:∀ (l:List Env),(∀ b∈frs l,b∈X.fs)->X.s₀.heap.FunFrames X.base l->s.heap.FunFrames X.base l:=by
  intro l
  induction l with
  | nil=>intro _ _; trivial
  | cons env r ih =>
   intro hs hl
   obtain ⟨hk,⟨L,o,hf,hn,ho,hd⟩,hr⟩:=hl
   have hL:L∈X.fs:=hs L (by unfold frs; rw [a0G,hf]; exact a0e)
   obtain ⟨sl,e⟩:=I.base.slot L o ho (I.ok.frf L hL) hL fun z=>I.ok.exfs L z hL
   exact ⟨hk,⟨L,_,hf,hn,e,hd⟩,ih (fun b hb=>hs b (by unfold frs; rw [a0G,hf]; exact a0f _ hb)) hr⟩
 exact all X.outer (fun _ hb=>hb) I.ok.funs
theorem Inv.stack (I:Inv X pins σ H s):s.heap.FunFrames X.base X.stack:=by
 rcases I.ok.stk with e | ⟨e,hf⟩
 ·rw [e]; exact I.funs
 ·rw [e]
  obtain ⟨m,hn,_⟩:=I.loc
  refine .cons (by rw [I.ok.kind]; decide) hf hn ?_ I.funs
  exact Heap.get?_none_of_le (a0k I.ok.bsz I.ok.above)
theorem Inv.stkSub (I:Inv X pins σ H s):∀ b∈frs X.stack,b∈X.env.locals::X.fs:=fun b hb=>by
 rcases I.ok.stk with e | ⟨e,hf⟩
 ·rw [e] at hb; exact a0f _ hb
 ·rw [e] at hb
  unfold frs at hb
  rw [a0G,hf] at hb
  exact hb
theorem Inv.stkFree (I:Inv X pins σ H s):∀ b∈frs X.stack,H b=none:=fun b hb=>by
 rcases a0Q.mp (I.stkSub b hb) with e | hb
 ·rw [e]; exact I.free
 ·obtain ⟨_,o,ho,_⟩:=I.ok.funs.mem hb
  exact I.base.free b o ho (I.ok.frf b hb) fun z=>I.ok.exfs b z hb
theorem Inv.step {g':Array GenState}{t':Nat}{d':Drawn}{ch:List Addr}(I:Inv X pins σ H s)
  (hch:∀ b∈ch,(b∈X.ex\/X.s₀.heap.objs.size<=b)/\b≠X.env.locals/\(∀ x c,X.env.cells.lookup x=some c->c≠b)/\∀ p∈X.pn++pins,p.1≠b)
  (keep:∀ b o,b≠X.env.locals->b ∉ X.fs->b ∉ ch->s.heap.get? b=some o->H b=none->h'.get? b=some o)
  (slot:∀ b o,b≠X.env.locals->b∈X.fs->b ∉ ch->s.heap.get? b=some o->H b=none->∃ sl,h'.get? b=some { o with slots:=sl }) (free:∀ b o,b ∉ ch->s.heap.get? b=some o->H b=none->H' b=none)
  (there:∀ b o,b ∉ ch->s.heap.get? b=some o->∃ o',h'.get? b=some o')
  (tups:∀ b xs,H b=some (.tup xs)->H' b=some (.tup xs)) (frzs:∀ b o u,H b=some (.frz o u)->H' b=some (.frz o u)) (tbls:∀ b ps,H b=some (.tbl ps)->∃ more,H' b=some (.tbl (ps++more)))
  (ns:∀ m,s.heap.Ns X.env.locals m->h'.Ns X.env.locals m) (hok:HOk X.prog X.w H' h') (hg:AllBare g') :
  Inv X pins σ H' { s with heap:=h',gens:=g',drawn:=d',toks:=t' }:=by
 have neL:∀ b o,X.s₀.heap.get? b=some o->b≠X.env.locals:=fun b o e=>a0y (a0h (Heap.lt_size e) I.ok.above)
 have neC:∀ b o,X.s₀.heap.get? b=some o->b ∉ X.ex->b ∉ ch:=fun b o e hx hb=>by
  rcases (hch b hb).1 with z | z
  ·exact hx z
  ·exact absurd (a0h (Heap.lt_size e) z) (a01 _)
 have cellK:∀ x c,X.env.cells.lookup x=some c->∀ v,s.heap.IsCell c v->h'.IsCell c v:=fun x c e v ⟨o,ho,hd⟩=>by
  have nch:c ∉ ch:=fun z=>(hch c z).2.2.1 x c e rfl
  by_cases hc:c∈X.fs
  ·obtain ⟨sl,q⟩:=slot c o (I.cne x c e) hc nch ho (I.freeC x c e)
   exact ⟨_,q,hd⟩
  ·exact ⟨o,keep c o (I.cne x c e) hc nch ho (I.freeC x c e),hd⟩
 refine ⟨I.ok,I.os,hg,⟨fun b o e n hb hx=>?_,fun b o e n hb hx=>?_,fun b o e n hx=>?_,fun b o e hx=>?_,fun b xs e=>tups b xs (I.base.tups b xs e),fun b o xs e=>frzs b o xs (I.base.frzs b o xs e),fun b ps e=>?_⟩,?_,fun x c e=>?_,?_,fun x c e=>?_,fun p hp=>?_,hok,I.len⟩
 ·exact keep b o (neL b o e) hb (neC b o e hx) (I.base.keep b o e n hb hx) (I.base.free b o e n hx)
 ·obtain ⟨sl,e1⟩:=I.base.slot b o e n hb hx
  obtain ⟨sl',e2⟩:=slot b _ (neL b o e) hb (neC b o e hx) e1 (I.base.free b o e n hx)
  exact ⟨sl',e2⟩
 ·obtain ⟨o',e1⟩:=I.base.there b o e hx
  exact free b o' (neC b o e hx) e1 (I.base.free b o e n hx)
 ·obtain ⟨o',e1⟩:=I.base.there b o e hx
  exact there b o' (neC b o e hx) e1
 ·obtain ⟨m1,e1⟩:=I.base.tbls b ps e
  obtain ⟨m2,e2⟩:=tbls b _ e1
  exact ⟨m1++m2,by rw [e2,Array.append_assoc]⟩
 ·obtain ⟨m,hn,hl⟩:=I.loc
  refine ⟨m,ns m hn,fun i x v e1 e2 e3=>?_⟩
  obtain ⟨u,r,l⟩:=hl i x v e1 e2 e3
  refine ⟨u,r,?_⟩
  rcases l with l | ⟨k,c,e,z⟩
  ·exact .inl l
  ·exact .inr ⟨k,c,e,cellK x c e _ z⟩
 ·obtain ⟨v,z⟩:=I.cell x c e
  exact ⟨v,cellK x c e v z⟩
 ·obtain ⟨m,⟨o,_,_,ho,_⟩,_⟩:=I.loc
  exact free _ o (fun z=>(hch _ z).2.1 rfl) ho I.free
 ·obtain ⟨v,o,ho,hd⟩:=I.cell x c e
  exact free c o (fun z=>(hch c z).2.2.1 x c e rfl) ho (I.freeC x c e)
 ·obtain ⟨e,n,ne,nf,d⟩:=I.pin p hp
  have nch:p.1 ∉ ch:=fun z=>(hch p.1 z).2.2.2 p hp rfl
  exact ⟨keep p.1 p.2 ne nf nch e n,free p.1 p.2 nch e n,ne,nf,d⟩
theorem Inv.un {t':Nat}(I:Inv X pins σ H s)(u:Un X.fs [] H H' s.heap h')(hok:HOk X.prog X.w H' h'):Inv X pins σ H' { s with heap:=h',toks:=t' }:=by
 obtain ⟨m,⟨o,es,ep,ho,r⟩,_⟩:=id I.loc
 obtain ⟨sl,hL⟩:=u.any ho I.free (by simp)
 exact I.step (g':=s.gens) (d':=s.drawn) (ch:=[]) (fun _ z=>nomatch z) (fun b o _ hb _ e n=>u.keep b o e n hb (by simp)) (fun b o _ hb _ e n=>u.slot b o e n hb (by simp)) (fun b o _ e n=>u.free b o e n (by simp)) (fun b o _ e=>u.there b o e (by simp)) u.tups u.frzs u.tbls (fun m' hm=>by
  obtain ⟨o',es',ep',ho',r'⟩:=hm
  rw [ho] at ho'; cases ho'
  exact ⟨_,es',ep',hL,r'⟩) hok I.bare
theorem Inv.call {g':Array GenState}{t':Nat}{d':Drawn}{ch:List Addr}(I:Inv X pins σ H s)(u:Un (frs X.stack) ch H H' s.heap h')(hok:HOk X.prog X.w H' h')(hg:AllBare g')
  (hch:∀ b∈ch,(b∈X.ex\/X.s₀.heap.objs.size<=b)/\b≠X.env.locals/\(∀ x c,X.env.cells.lookup x=some c->c≠b)/\∀ p∈X.pn++pins,p.1≠b) :
  Inv X pins σ H' { s with heap:=h',gens:=g',drawn:=d',toks:=t' }:=by
 obtain ⟨m,⟨o,es,ep,ho,r⟩,_⟩:=id I.loc
 obtain ⟨sl,hL⟩:=u.any ho I.free fun z=>(hch _ z).2.1 rfl
 exact I.step (ch:=ch) hch (fun b o hL hb hc e n=>u.keep b o e n (fun z=>(a0Q.mp (I.stkSub b z)).elim hL hb) hc) (fun b o _ _ hc e n=>u.any e n hc) (fun b o hc e n=>u.free b o e n hc) (fun b o hc e=>u.there b o e hc) u.tups u.frzs u.tbls (fun m' hm=>by
  obtain ⟨o',es',ep',ho',r'⟩:=hm
  rw [ho] at ho'; cases ho'
  exact ⟨_,es',ep',hL,r'⟩) hok hg
theorem Inv.turned {t':Nat}{it:Addr}(I:Inv X pins σ H s)(k:∀ b o,b≠it->s.heap.get? b=some o->h'.get? b=some o)(hn:H it=none)(hL:it≠X.env.locals)
  (h1:it∈X.ex\/X.s₀.heap.objs.size<=it) (h2:∀ x c,X.env.cells.lookup x=some c->c≠it) (h3:∀ p∈X.pn++pins,p.1≠it):Inv X pins σ H { s with heap:=h',toks:=t' }:=by
 have nit:∀ b u,H b=some u->b≠it:=fun b u e z=>by rw [z,hn] at e; cases e
 refine I.step (g':=s.gens) (d':=s.drawn) (ch:=[it]) (fun b hb=>?_) (fun b o _ _ hc e _=>k b o (fun z=>hc (by simp [z])) e) (fun b o _ _ hc e _=>⟨o.slots,k b o (fun z=>hc (by simp [z])) e⟩) (fun _ _ _ _ n=>n)
  (fun b o hc e=>⟨o,k b o (fun z=>hc (by simp [z])) e⟩) (fun _ _ e=>e) (fun _ _ _ e=>e) (fun b ps e=>⟨#[],by rw [e]; simp⟩) (fun m hm=>?_) (fun b u e=>?_) I.bare
 ·have e:b=it:=by simpa using hb
  subst e
  exact ⟨h1,hL,h2,h3⟩
 ·obtain ⟨o,es,ep,ho,r⟩:=hm
  exact ⟨o,es,ep,k _ o (a1G hL) ho,r⟩
 ·refine (I.hok b u e).stay (fun c v hc q=>k c v ?_ q) (fun _ q=>q) fun _ _ q=>q
  rcases hc with z | z
  ·rw [z]; exact nit b u e
  ·exact nit c _ z
theorem Inv.tok (I:Inv X pins σ H s)(t:Nat):Inv X pins σ H { s with toks:=t }:=I.un (h':=s.heap) (t':=t) Un.refl I.hok
theorem Inv.kept {t':Nat}(I:Inv X pins σ H s)(k:∀ b u,s.heap.get? b=some u->h'.get? b=some u):Inv X pins σ H { s with heap:=h',toks:=t' }:=I.un (Un.kept k) (I.hok.kept k)
theorem Inv.laid {a:Addr}{o:HO}{t':Nat}(I:Inv X pins σ H s)(k:∀ b u,s.heap.get? b=some u->h'.get? b=some u)(hp:s.heap.objs.size<=a)(new:ObjOk X.prog X.w (upd H a o) h' a o) :
  Inv X pins σ (upd H a o) { s with heap:=h',toks:=t' }:=I.un (Un.laid k hp (I.hok.fresh hp)) (I.hok.laid k hp new)
theorem Inv.write {x e:Addr}{o:HO}{t':Nat}(I:Inv X pins σ H s)(mu:Mut (H x))(he:e=x\/H e=some (.own x))(k:∀ b u,b≠e->s.heap.get? b=some u->h'.get? b=some u)(heo:∃ u,h'.get? e=some u)
  (new:ObjOk X.prog X.w (upd H x o) h' x o):Inv X pins σ (upd H x o) { s with heap:=h',toks:=t' }:=I.un (Un.write mu he k heo) (I.hok.write mu he k heo new)
theorem Inv.weak {σ':List (Option V)}(I:Inv X pins σ H s)(hl:σ'.length=σ.length)(w:∀ (i:Nat) v,σ'[i]?=some (some v)->σ[i]?=some (some v)):Inv X pins σ' H s :=
 ⟨I.ok,I.os,I.bare,I.base,let ⟨m,hn,hl'⟩:=I.loc; ⟨m,hn,fun i x v e1 e2 e3=>hl' i x v e1 (w i v e2) e3⟩,I.cell,I.free,I.freeC,I.pin,I.hok,hl.trans I.len⟩
theorem Inv.pins_of {pins':List (Addr×Obj)}(I:Inv X pins σ H s)(h:∀ p∈pins',s.heap.get? p.1=some p.2/\H p.1=none/\p.1≠X.env.locals/\p.1 ∉ X.fs/\∀ v,p.2.data≠.cell v):Inv X pins' σ H s :=
 ⟨I.ok,I.os,I.bare,I.base,I.loc,I.cell,I.free,I.freeC,fun p hp=>(a0Y.mp hp).elim (fun z=>I.pin p (a0N _ z)) (h p),I.hok,I.len⟩
theorem eC {N:List Str}(hN:N.Nodup){i j:Nat}{x:Str}(a:N[i]?=some x)(b:N[j]?=some x):i=j:=by
 obtain ⟨h1,e1⟩:=a0n.mp a
 obtain ⟨h2,e2⟩:=a0n.mp b
 exact (List.getElem_inj hN).mp (e1.trans e2.symm)
theorem gS {M:Model}{A:Around}{E:Value->Shared->Prop}{i:Nat}{x:Str}{v:V}{u:Value}{Q:Unit->Shared->Prop}(I:Inv X pins σ H s)(hN:X.N.Nodup)(hi:X.N[i]?=some x)(hx:Loc X.env.scope x)(r:RelV v u)
  (h:∀ s',Inv X pins (σ.set i (some v)) H s'->(∃ a,Heap.SameBut a s.heap s'.heap/\(a=X.env.locals\/X.env.cells.lookup x=some a))->Q () s') (hf:X.fn x=true\/X.env.scope.names.lookup x=some .local:=by first | exact .inl rfl | exact .inr rfl | assumption):wpAny M A (storeName X.env x u) Q E s:=by
 obtain ⟨m,hn,hl⟩:=id I.loc
 have hcls:(X.env.scope.kind==.class || (X.env.scope.kind==.module&&X.env.locals != X.env.globals))=false:=by rw [I.ok.kind]; rfl
 have hiσ:i < σ.length:=by rw [I.len]; exact (a0n.mp hi).1
 have cne:=I.cne
 have tracked:∀ {a:Addr} {h':Heap},(∃ o,s.heap.get? a=some o/\H a=none)->Heap.SameBut a s.heap h'->HOk X.prog X.w H h':=fun {a h'} ha hs b ob e=>by
  obtain ⟨_,_,hfree⟩:=ha
  refine (I.hok b ob e).stay (fun c w' hc q=>(hs.2 c ?_).trans q) (fun _ q=>q) fun _ _ q=>q
  rintro rfl
  rcases hc with rfl | hc
  ·rw [hfree] at e; cases e
  ·rw [hfree] at hc; cases hc
 rcases hx with hk | hk
 ·refine wpAny_storeName_local hk hn (fun h' hn' hs=>?_) hcls
  obtain ⟨oL,_,_,hoL,_⟩:=id hn
  refine h _ ⟨I.ok,I.os,I.bare,⟨fun b o e n hb hx=>?_,fun b o e n hb hx=>?_,I.base.free,fun b o e hx=>?_,I.base.tups,I.base.frzs,I.base.tbls⟩,⟨_,hn',fun j y v' e1 e2 e3=>?_⟩,fun y c e=>?_,I.free,I.freeC,fun p hp=>?_,tracked ⟨oL,hoL,I.free⟩ hs,by simpa using I.len⟩ ⟨_,hs,.inl rfl⟩
  ·exact (hs.2 b (a0y (a0h (Heap.lt_size e) I.ok.above))).trans (I.base.keep b o e n hb hx)
  ·obtain ⟨sl,e1⟩:=I.base.slot b o e n hb hx
   exact ⟨sl,(hs.2 b (a0y (a0h (Heap.lt_size e) I.ok.above))).trans e1⟩
  ·obtain ⟨o',e1⟩:=I.base.there b o e hx
   exact ⟨o',(hs.2 b (a0y (a0h (Heap.lt_size e) I.ok.above))).trans e1⟩
  ·by_cases hj:j=i
   ·subst hj
    rw [hi] at e1; cases e1
    rw [a1d hiσ] at e2
    cases e2
    exact ⟨u,r,.inl ⟨hk,by simp⟩⟩
   ·rw [a03 (a1G hj)] at e2
    obtain ⟨u',r',q⟩:=hl j y v' e1 e2 e3
    refine ⟨u',r',?_⟩
    rcases q with ⟨k,e⟩ | ⟨k,c,e,z⟩
    ·refine .inl ⟨k,?_⟩
     have:y≠x:=fun e=>hj (eC hN e1 (e ▸ hi))
     simp [this,e]
    ·exact .inr ⟨k,c,e,z.sameBut hs (cne y c e)⟩
  ·obtain ⟨w',z⟩:=I.cell y c e
   exact ⟨w',z.sameBut hs (cne y c e)⟩
  ·obtain ⟨e,n,ne,nf,d⟩:=I.pin p hp
   exact ⟨(hs.2 p.1 ne).trans e,n,ne,nf,d⟩
 ·have hfn:X.fn x=true:=by
   rcases hf with z | z
   ·exact z
   ·rw [z] at hk; cases hk
  obtain ⟨c,hc⟩:=I.ok.has x (.inl hk)
  obtain ⟨w',z⟩:=I.cell x c hc
  refine wpAny_storeName_cell I.ok.kind hk hc z (fun h' hc' hs=>?_)
  obtain ⟨oc,hoc,hocd⟩:=id z
  refine h { s with heap:=h' } ⟨I.ok,I.os,I.bare,⟨fun b o e n hb hx=>?_,fun b o e n hb hx=>?_,I.base.free,fun b o e hx=>?_,I.base.tups,I.base.frzs,I.base.tbls⟩,⟨m,hn.sameBut hs (a1G (cne x c hc)),fun j y v' e1 e2 e3=>?_⟩,fun y c' e=>?_,I.free,I.freeC,fun p hp=>?_,tracked ⟨oc,hoc,I.freeC x c hc⟩ hs,by simpa using I.len⟩ ⟨c,hs,.inr hc⟩
  ·exact (hs.2 b (a0y (a0h (Heap.lt_size e) (I.ok.cab x c hfn hc)))).trans (I.base.keep b o e n hb hx)
  ·obtain ⟨sl,e1⟩:=I.base.slot b o e n hb hx
   exact ⟨sl,(hs.2 b (a0y (a0h (Heap.lt_size e) (I.ok.cab x c hfn hc)))).trans e1⟩
  ·obtain ⟨o',e1⟩:=I.base.there b o e hx
   exact ⟨o',(hs.2 b (a0y (a0h (Heap.lt_size e) (I.ok.cab x c hfn hc)))).trans e1⟩
  ·by_cases hj:j=i
   ·subst hj
    rw [hi] at e1; cases e1
    rw [a1d hiσ] at e2
    cases e2
    exact ⟨u,r,.inr ⟨.inl hk,c,hc,hc'⟩⟩
   ·rw [a03 (a1G hj)] at e2
    obtain ⟨u',r',q⟩:=hl j y v' e1 e2 e3
    refine ⟨u',r',?_⟩
    rcases q with q | ⟨k,c',e,z'⟩
    ·exact .inl q
    ·refine .inr ⟨k,c',e,z'.sameBut hs ?_⟩
     rintro rfl
     exact hj (eC hN e1 (I.ok.inj _ _ _ e hc ▸ hi))
  ·by_cases hcc:c'=c
   ·subst hcc; exact ⟨_,hc'⟩
   ·obtain ⟨w2,z2⟩:=I.cell y c' e
    exact ⟨w2,z2.sameBut hs hcc⟩
  ·obtain ⟨e,n,ne,nf,d⟩:=I.pin p hp
   refine ⟨(hs.2 p.1 ?_).trans e,n,ne,nf,d⟩
   intro q
   rw [q,hoc] at e
   have q':oc=p.2:=a0q e
   exact d w' (by rw [<- q']; exact hocd)
theorem eo {M:Model}{A:Around}{E:Value->Shared->Prop}{i:Nat}{x:Str}{v:V}{u:Value}{Q:Unit->Shared->Prop}(I:Inv X pins σ H s)(hN:X.N.Nodup)(hi:X.N[i]?=some x)(hx:Loc X.env.scope x)(r:RelV v u)
  (h:∀ s',Inv X pins (σ.set i (some v)) H s'->Q () s') (hf:X.fn x=true\/X.env.scope.names.lookup x=some .local:=by first | exact .inl rfl | exact .inr rfl | assumption):wpAny M A (storeName X.env x u) Q E s :=
 gS I hN hi hx r (fun s' I' _=>h s' I') hf
theorem Inv.call' {s':Shared}{ch:List Addr}(I:Inv X pins σ H s)(ho:s'.os=s.os)(u:Un (frs X.stack) ch H H' s.heap s'.heap)(hok:HOk X.prog X.w H' s'.heap)(hg:AllBare s'.gens)
  (hch:∀ b∈ch,(b∈X.ex\/X.s₀.heap.objs.size<=b)/\b≠X.env.locals/\(∀ x c,X.env.cells.lookup x=some c->c≠b)/\∀ p∈X.pn++pins,p.1≠b):Inv X pins σ H' s':=by
 obtain ⟨h',g',d',t',o'⟩:=s'
 have e:o'=s.os:=ho
 subst e
 exact I.call (g':=g') (t':=t') (d':=d') u hok hg hch
end
noncomputable abbrev XK:=Value->Option Addr->Hp->Prop
noncomputable abbrev St:=List (Option V)
noncomputable abbrev VK:=V->Hp->Prop
noncomputable abbrev TE:=St->Hp->VK->Prop
noncomputable abbrev TT:=St->Hp->(Bool->Hp->Prop)->Prop
noncomputable abbrev TA:=St->Hp->(List V->Hp->Prop)->Prop
structure bB where
 nx:St->Hp->Prop
 rt:VK
 bk:St->Hp->Prop:=fun _ _=>False
 ct:St->Hp->Prop:=fun _ _=>False
noncomputable abbrev TS:=bB->St->Hp->Prop
noncomputable def EP (X:Cx)(pins:List (Addr×Obj))(σ:St)(Q:VK)(u:Value)(s':Shared):Prop:=∃ v H',Inv X pins σ H' s'/\RelV v u/\Q v H'
noncomputable def TP (X:Cx)(pins:List (Addr×Obj))(σ:St)(Q:Bool->Hp->Prop)(b:Bool)(s':Shared):Prop:=∃ H',Inv X pins σ H' s'/\Q b H'
noncomputable def AP (X:Cx)(pins:List (Addr×Obj))(σ:St)(Q:List V->Hp->Prop)(us:List Value)(s':Shared):Prop:=∃ vs H',Inv X pins σ H' s'/\Vals vs us/\Q vs H'
noncomputable def SP (X:Cx)(pins:List (Addr×Obj))(D:bB)(f:Flow)(s':Shared):Prop :=
 match f with
 | .next=>∃ σ' H',Inv X pins σ' H' s'/\D.nx σ' H'
 | .brk=>∃ σ' H',Inv X pins σ' H' s'/\D.bk σ' H'
 | .cont=>∃ σ' H',Inv X pins σ' H' s'/\D.ct σ' H'
 | .ret u=>∃ v σ' H',Inv X pins σ' H' s'/\RelV v u/\D.rt v H'
noncomputable def PE (X:Cx)(e:Expr)(t:TE):Prop :=
 ∀ (pins:List (Addr×Obj)) (s:Shared) (σ:St) (H:Hp) (Q:VK),Inv X pins σ H s->t σ H Q->wpAny (model X.prog X.w) X.A (eval e X.env) (EP X pins σ Q) X.xe s
noncomputable def PT (X:Cx)(e:Expr)(t:TT):Prop :=
 ∀ (pins:List (Addr×Obj)) (s:Shared) (σ:St) (H:Hp) (Q:Bool->Hp->Prop),Inv X pins σ H s->t σ H Q->wpAny (model X.prog X.w) X.A (isTrue e X.env (eval e X.env)) (TP X pins σ Q) X.xe s
noncomputable def PW (X:Cx)(e:Expr)(t:TT):Prop :=
 ∀ (whole:Sem Value) (pins:List (Addr×Obj)) (s:Shared) (σ:St) (H:Hp) (Q:Bool->Hp->Prop),Inv X pins σ H s->t σ H Q->wpAny (model X.prog X.w) X.A (isTrue e X.env whole) (TP X pins σ Q) X.xe s
theorem PW.pt {X:Cx}{e:Expr}{t:TT}(h:PW X e t):PT X e t:=h _
noncomputable def PA (X:Cx)(es:List Expr)(t:TA):Prop :=
 ∀ (pos:Pos) (pins:List (Addr×Obj)) (s:Shared) (σ:St) (H:Hp) (Q:List V->Hp->Prop),Inv X pins σ H s->t σ H Q->wpAny (model X.prog X.w) X.A (spliced (backTo pos (starEach es X.env))) (AP X pins σ Q) X.xe s
noncomputable def PS (X:Cx)(st:Stmt)(t:TS):Prop :=
 ∀ (pins:List (Addr×Obj)) (s:Shared) (σ:St) (H:Hp) (D:bB),Inv X pins σ H s->t D σ H->wpAny (model X.prog X.w) X.A (exec st X.env) (SP X pins D) X.xe s
noncomputable def PSs (X:Cx)(st:List Stmt)(t:TS):Prop :=
 ∀ (pins:List (Addr×Obj)) (s:Shared) (σ:St) (H:Hp) (D:bB),Inv X pins σ H s->t D σ H->wpAny (model X.prog X.w) X.A (execs st X.env) (SP X pins D) X.xe s
theorem thn {α:Type}{t:Sem α}{Q Q':α->Shared->Prop}{M:Model}{A:Around}{E:Value->Shared->Prop}{s:Shared}(h:wpAny M A t Q E s)(hQ:∀ a s,Q a s->Q' a s):wpAny M A t Q' E s:=wpAny_mono h hQ fun _ _ x=>x
end L2
namespace L2
open PySem PySem.Spec PyProof.Rows
section
variable {X:Cx}
noncomputable def nT (i:Nat):TE:=fun σ H Q=>∃ v,σ[i]?=some (some v)/\Q v H
noncomputable def tC (v:V):TE:=fun _ H Q=>Q v H
theorem aq {i:Nat}{x:Str}{pos:Pos}(hN:X.N[i]?=some x)(hv:Vis X.env.scope x)(hd:(x==("__debug__":Str))=false:=by decide)(hcd:(x==("__classdict__":Str))=false:=by decide):PE X (.Name x pos) (nT i):=by
 intro pins s σ H Q I h
 obtain ⟨v,e,h⟩:=h
 obtain ⟨m,hn,hl⟩:=I.loc
 obtain ⟨u,r,l⟩:=hl i x v hN e hv
 have fin:EP X pins σ Q u s:=⟨v,H,I,r,h⟩
 rcases l with ⟨hk,hm⟩ | ⟨hk,c,hc,hcell⟩
 ·exact wpAny_Name (wpAny_loadName_local I.ok.kind hk hn hm fin) hd
 ·rcases hk with hk | hk
  ·exact wpAny_Name (wpAny_loadName_cell I.ok.kind hk hc hcell fin) hd
  ·exact wpAny_Name (wpAny_loadName_free I.ok.kind hk hc hcell fin hcd) hd
theorem qQ {i j pos}:PE X (.Constant (.int i) j pos) (tC (.int i)):=fun _ _ _ H _ I h=>wpAny_Constant_int ⟨.int i,H,I.tok _,⟨_,rfl⟩,h⟩
theorem su {b j pos}:PE X (.Constant (.bool b) j pos) (tC (.bl b)):=fun _ _ _ H _ I h=>Constant_bool ⟨.bl b,H,I,rfl,h⟩
theorem rz {x j pos}:PE X (.Constant (.str x) j pos) (tC (.str x)):=fun _ _ _ H _ I h=>Calls.Constant_str ⟨.str x,H,I.tok _,⟨_,rfl⟩,h⟩
noncomputable def Gl (X:Cx)(x:Str):Prop:=X.env.kindOf x=some .globalImplicit
theorem cj {E:Value->Shared->Prop}{pins:List (Addr×Obj)}{s:Shared}{σ:St}{H:Hp}{x:Str}{u:Value}{pos:Pos}{Q:Value->Shared->Prop}(I:Inv X pins σ H s)(hg:Gl X x)(hm:X.mg x=some u)(h:Q u s)
  (hd:(x==("__debug__":Str))=false:=by decide):wpAny (model X.prog X.w) X.A (eval (.Name x pos) X.env) Q E s :=
 Calls.Name_function_global I.ok.kind hg (Calls.loadGlobal_global (by rw [I.ok.glob]; exact I.mod.glob.keeps I.bk) hm h) hd
theorem dG {E:Value->Shared->Prop}{pins:List (Addr×Obj)}{s:Shared}{σ:St}{H:Hp}{x:Str}{u:Value}{pos:Pos}{Q:Value->Shared->Prop}(I:Inv X pins σ H s)(hg:Gl X x)(hm:X.mg x=none)(hv:bootBuiltins x=some u)(h:Q u s)
  (hn:x≠"__name__":=by decide) (hd:(x==("__debug__":Str))=false:=by decide):wpAny (model X.prog X.w) X.A (eval (.Name x pos) X.env) Q E s:=by
 obtain ⟨mb,h1,h2⟩:=I.mod.blt
 exact Calls.Name_function_global I.ok.kind hg (Calls.loadGlobal_builtin (by rw [I.ok.glob]; exact I.mod.glob.keeps I.bk) hm (by rw [I.ok.blt]; exact h1.keeps I.bk) ((h2 x hn).trans hv) h) hd
theorem lW {x:Str}{v:V}{u:Value}{pos:Pos}(hg:Gl X x)(hm:X.mg x=some u)(r:RelV v u)(hd:(x==("__debug__":Str))=false:=by decide):PE X (.Name x pos) (tC v) :=
 fun _ _ _ H _ I h=>cj I hg hm ⟨v,H,I,r,h⟩ hd
theorem my {x:Str}{v:V}{u:Value}{pos:Pos}(hg:Gl X x)(hm:X.mg x=none)(hv:bootBuiltins x=some u)(r:RelV v u)(hn:x≠"__name__":=by decide)(hd:(x==("__debug__":Str))=false:=by decide):PE X (.Name x pos) (tC v) :=
 fun _ _ _ H _ I h=>dG I hg hm hv ⟨v,H,I,r,h⟩ hn hd
variable {a b:Expr}{ta tb:TE}{pos:Pos}
noncomputable def PC (X:Cx)(op:CmpOp)(a b:Expr)(t:TE):Prop :=
 ∀ (pins:List (Addr×Obj)) (s:Shared) (σ:St) (H:Hp) (Q:VK),Inv X pins σ H s->t σ H Q ->
  wpAny (model X.prog X.w) X.A (eval a X.env) (fun v s₁=>wpAny (model X.prog X.w) X.A (eval b X.env) (fun u s₂=>wpAny (model X.prog X.w) X.A (compareOp op v u) (EP X pins σ Q) X.xe s₂) X.xe s₁) X.xe s
noncomputable def tB (t:TE):TT:=fun σ H Q=>t σ H fun x H1=>∃ c,x=.bl c/\Q c H1
variable {tA tB':TT}{rest:List Expr}
noncomputable def tOr (t u:TT):TT:=fun σ H Q=>t σ H fun c H1=>if c=true then Q true H1 else u σ H1 Q
noncomputable def sL (t:TT):TT:=fun σ H Q=>t σ H fun c H1=>Q (!c) H1
theorem qg (ha:PT X a tA):PW X (.BoolOp .Or [a] pos) tA:=by
 intro wh pins s σ H Q I h
 refine isTrue_or (thn (ha pins s σ H Q I h) fun c s1 e=>?_)
 cases c with
 | false=>exact isTrue_or_nil e
 | true=>exact e
theorem rQ (ha:PT X a tA)(hb:PW X (.BoolOp .Or (b::rest) pos) tB'):PW X (.BoolOp .Or (a::b::rest) pos) (tOr tA tB'):=by
 intro wh pins s σ H Q I h
 refine isTrue_or (thn (ha pins s σ H _ I h) fun c s1 ⟨H1,I1,q1⟩=>?_)
 cases c with
 | true=>exact ⟨H1,I1,q1⟩
 | false=>exact hb wh pins s1 σ H1 Q I1 q1
theorem qf (ha:PT X a tA):PT X (.UnaryOp .Not a pos) (sL tA):=by
 intro pins s σ H Q I h
 exact isTrue_not (ha pins s σ H (fun c H1=>Q (!c) H1) I h)
noncomputable def tIf (t:TT)(ta tb:TE):TE:=fun σ H Q=>t σ H fun c H1=>if c=true then ta σ H1 Q else tb σ H1 Q
theorem jO {c:Expr}(hc:PT X c tA)(ha:PE X a ta)(hb:PE X b tb):PE X (.IfExp c a b pos) (tIf tA ta tb):=by
 intro pins s σ H Q I h
 refine wpAny_IfExp (thn (hc pins s σ H _ I h) fun d s1 ⟨H1,I1,q1⟩=>?_)
 cases d with
 | true=>exact ha pins s1 σ H1 Q I1 q1
 | false=>exact hb pins s1 σ H1 Q I1 q1
end
end L2
namespace L2
open PySem PySem.Spec PyProof.Rows
noncomputable def SqL (K:a0a)(H:Hp)(a:Addr)(xs:List V):Prop :=
 Rd H a (.lst xs) \/
  ∃ (o:Obj) (its:Array Value) (n:Nat),K.lookup a=some o/\o.cls=.type "list"/\o.dict=none/\o.data=.seq its n/\its.size<=sizeLine/\Vals xs its.toList
noncomputable def SqT (K:a0a)(H:Hp)(a:Addr)(xs:List V):Prop :=
 Rd H a (.tup xs) \/
  ∃ (o:Obj) (its:Array Value) (n:Nat),K.lookup a=some o/\o.cls=.type "tuple"/\o.data=.seq its n/\its.size<=sizeLine/\Vals xs its.toList
noncomputable def vm:Value->Option V
 | .none=>some .non
 | .bool b=>some (.bl b)
 | .int i _=>some (.int i)
 | .str x _=>some (.str x)
 | .bytes b _=>some (.byt b)
 | .float b _=>some (.flt b)
 | .ref a=>some (.ref a)
 | .type n=>some (.ty n)
 | _=>none
theorem RelV.abs {x:V}{u:Value}(r:RelV x u):vm u=some x:=by
 cases x with
 | non=>cases r; rfl
 | bl _=>cases r; rfl
 | int _=>obtain ⟨t,rfl⟩:=r; rfl
 | str _=>obtain ⟨t,rfl⟩:=r; rfl
 | byt _=>obtain ⟨t,rfl⟩:=r; rfl
 | flt _=>obtain ⟨t,rfl⟩:=r; rfl
 | ref _=>cases r; rfl
 | ty _=>cases r; rfl
theorem RelV.inj {x y:V}{u:Value}(r:RelV x u)(q:RelV y u):x=y:=a0q (r.abs.symm.trans q.abs)
theorem Vals.inj:∀ {xs ys:List V} {us:List Value},Vals xs us->Vals ys us->xs=ys
 | _,_,_,.nil,.nil=>rfl
 | _,_,_,.cons r t,.cons r' t'=>by rw [r.inj r',Vals.inj t t']
section
variable {X:Cx}{pins:List (Addr×Obj)}{σ:St}{H:Hp}{s:Shared}{a:Addr}{xs ys:List V}
theorem SqL.of {K:a0a}(h:H a=some (.lst xs)):SqL K H a xs:=.inl (.inl h)
theorem SqT.of {K:a0a}(h:H a=some (.tup xs)):SqT K H a xs:=.inl (.inl h)
theorem Inv.list (I:Inv X pins σ H s)(h:SqL X.K H a xs):∃ its:List Value,Vals xs its/\PlainL s.heap a its.toArray/\xs.length<=sizeLine:=by
 rcases h with h | ⟨o,its,n,hk,hc,hd,hs,hz,r⟩
 ·obtain ⟨z,its,n,r,e⟩:=h.ok I.hok
  exact ⟨its,r,⟨_,n,e,rfl,rfl,rfl⟩,z⟩
 ·refine ⟨its.toList,r,⟨o,n,I.kIn a o hk,hc,hd,by simpa using hs⟩,?_⟩
  have e:=r.length
  simp only [a0H] at e
  omega
theorem Inv.tuple (I:Inv X pins σ H s)(h:SqT X.K H a xs):∃ its:List Value,Vals xs its/\IsTup s.heap a its.toArray/\xs.length<=sizeLine:=by
 rcases h with h | ⟨o,its,n,hk,hc,hs,hz,r⟩
 ·obtain ⟨z,its,r,p⟩:=h.ok I.hok
  exact ⟨its,r,p,z⟩
 ·refine ⟨its.toList,r,⟨o,I.kIn a o hk,hc,n,by simpa using hs⟩,?_⟩
  have e:=r.length
  simp only [a0H] at e
  omega
theorem Inv.list_inj (I:Inv X pins σ H s)(h:SqL X.K H a xs)(h':SqL X.K H a ys):xs=ys:=by
 obtain ⟨its,r,⟨o,n,e,_,_,d⟩,_⟩:=I.list h
 obtain ⟨its',r',⟨o',n',e',_,_,d'⟩,_⟩:=I.list h'
 rw [e] at e'; cases e'
 rw [d] at d'
 injection d' with d1 _
 have:its=its':=by simpa using congrArg a2F d1
 subst this
 exact r.inj r'
theorem Inv.tuple_inj (I:Inv X pins σ H s)(h:SqT X.K H a xs)(h':SqT X.K H a ys):xs=ys:=by
 obtain ⟨its,r,⟨o,e,_,n,d⟩,_⟩:=I.tuple h
 obtain ⟨its',r',⟨o',e',_,n',d'⟩,_⟩:=I.tuple h'
 rw [e] at e'; cases e'
 rw [d] at d'
 injection d' with d1 _
 have:its=its':=by simpa using congrArg a2F d1
 subst this
 exact r.inj r'
end
noncomputable abbrev Cx.wish (X:Cx)(E:Value->Shared->Prop):Cx:={ X with xe:=E }
noncomputable abbrev Cx.nox (X:Cx):Cx:=X.wish fun _ _=>False
theorem Cx.Ok.wish {X:Cx}(ok:X.Ok)(E:Value->Shared->Prop):(X.wish E).Ok :=
 ⟨ok.mod,ok.kind,ok.glob,ok.blt,ok.above,ok.inj,ok.has,ok.cab,ok.hd,ok.frames,ok.stk,ok.exf,ok.bs,ok.bsz,ok.noex,ok.exfs,ok.funs,ok.frf⟩
theorem Cx.Ok.unwish {X:Cx}{E:Value->Shared->Prop}(ok:(X.wish E).Ok):X.Ok :=
 ⟨ok.mod,ok.kind,ok.glob,ok.blt,ok.above,ok.inj,ok.has,ok.cab,ok.hd,ok.frames,ok.stk,ok.exf,ok.bs,ok.bsz,ok.noex,ok.exfs,ok.funs,ok.frf⟩
section
variable {X:Cx}{pins:List (Addr×Obj)}{σ:St}{H:Hp}{s:Shared}{E:Value->Shared->Prop}
theorem Inv.wish (I:Inv X pins σ H s)(E:Value->Shared->Prop):Inv (X.wish E) pins σ H s:=⟨I.ok.wish E,I.os,I.bare,I.base,I.loc,I.cell,I.free,I.freeC,I.pin,I.hok,I.len⟩
theorem Inv.unwish (I:Inv (X.wish E) pins σ H s):Inv X pins σ H s:=⟨I.ok.unwish,I.os,I.bare,I.base,I.loc,I.cell,I.free,I.freeC,I.pin,I.hok,I.len⟩
theorem SP.unwish {D:bB}{f:Flow}{s':Shared}(h:SP (X.wish E) pins D f s'):SP X pins D f s':=by
 cases f with
 | next=>obtain ⟨σ',H',I,q⟩:=h; exact ⟨σ',H',I.unwish,q⟩
 | brk=>obtain ⟨σ',H',I,q⟩:=h; exact ⟨σ',H',I.unwish,q⟩
 | cont=>obtain ⟨σ',H',I,q⟩:=h; exact ⟨σ',H',I.unwish,q⟩
 | ret u=>obtain ⟨v,σ',H',I,r,q⟩:=h; exact ⟨v,σ',H',I.unwish,r,q⟩
theorem PSs.nox {st:List Stmt}{t:TS}(h:PSs X.nox st t):PSs X st t:=fun pins s σ H D I hw =>
 wpAny_mono (h pins s σ H D (I.wish _) hw) (fun _ _ q=>q.unwish) fun _ _ z=>a0O z
end
section
variable {X:Cx}{st:Stmt}{rest:List Stmt}{t u:TS}{e:Expr}{te:TE}{pos:Pos}
noncomputable def m9:TS:=fun D σ H=>D.nx σ H
noncomputable def tV (t u:TS):TS:=fun D σ H=>t { D with nx:=u D } σ H
theorem kS:PSs X [] m9:=fun _ _ σ H _ I h=>wpAny_execs_nil ⟨σ,H,I,h⟩
theorem aR (h1:PS X st t)(h2:PSs X rest u):PSs X (st::rest) (tV t u):=by
 intro pins s σ H D I h
 refine wpAny_execs_cons (thn (h1 pins s σ H { D with nx:=u D } I h) fun f s1 q=>?_)
 cases f with
 | next =>
  obtain ⟨σ',H',I',q⟩:=q
  exact h2 pins s1 σ' H' D I' q
 | ret v=>exact q
 | brk=>exact q
 | cont=>exact q
theorem bc (h1:PS X st t):PSs X [st] t:=by
 intro pins s σ H D I h
 refine wpAny_execs_cons (thn (h1 pins s σ H D I h) fun f s1 q=>?_)
 cases f with
 | next=>exact wpAny_execs_nil q
 | ret v=>exact q
 | brk=>exact q
 | cont=>exact q
theorem Inv.quiet {pins:List (Addr×Obj)}{σ:St}{H:Hp}{s:Shared}(I:Inv X pins σ H s):interactive X.env=false:=by simp [interactive,I.ok.kind]
noncomputable def uI (te:TE):TS:=fun D σ H=>te σ H fun _ H1=>D.nx σ H1
theorem bz (he:PE X e te)(hs:swapsWith e none pos.line X.env=pure false:=by rfl):PS X (.Expr e pos) (uI te):=by
 intro pins s σ H D I h
 exact wpAny_Expr_any (thn (he pins s σ H _ I h) fun v s1 ⟨x,H1,I1,r1,q1⟩=>⟨σ,H1,I1,q1⟩) I.quiet hs
noncomputable def rZ (te:TE):TS:=fun D σ H=>te σ H D.rt
theorem qs (he:PE X e te):PS X (.Return (some e) pos) (rZ te):=by
 intro pins s σ H D I h
 exact wpAny_Return_some (thn (he pins s σ H _ I h) fun v s1 ⟨x,H1,I1,r1,q1⟩=>⟨x,σ,H1,I1,r1,q1⟩)
noncomputable def ux (c:TT)(t u:TS):TS:=fun D σ H=>c σ H fun b H1=>if b=true then t D σ H1 else u D σ H1
theorem sG {c:Expr}{a b:List Stmt}{tc:TT}(hc:PT X c tc)(ha:PSs X a t)(hb:PSs X b u):PS X (.If c a b pos) (ux tc t u):=by
 intro pins s σ H D I h
 refine wpAny_If (thn (hc pins s σ H _ I h) fun d s1 ⟨H1,I1,q1⟩=>?_)
 cases d with
 | true=>exact ha pins s1 σ H1 D I1 q1
 | false=>exact hb pins s1 σ H1 D I1 q1
end
noncomputable abbrev TG:=V->St->Hp->(St->Hp->Prop)->Prop
noncomputable abbrev TGs:=List V->St->Hp->(St->Hp->Prop)->Prop
noncomputable def PG (X:Cx)(target:Expr)(t:TG):Prop :=
 ∀ (pins:List (Addr×Obj)) (s:Shared) (σ:St) (H:Hp) (v:V) (u:Value) (Q:St->Hp->Prop),Inv X pins σ H s->RelV v u->t v σ H Q ->
  wpAny (model X.prog X.w) X.A (assign target X.env u) (fun _ s'=>∃ σ' H',Inv X pins σ' H' s'/\Q σ' H') X.xe s
section
variable {X:Cx}{pos:Pos}
noncomputable def bN (i:Nat):TG:=fun v σ H Q=>Q (σ.set i (some v)) H
theorem fT {i:Nat}{x:Str}(hN:X.N.Nodup)(hi:X.N[i]?=some x)(hx:Loc X.env.scope x)(hf:X.fn x=true\/X.env.scope.names.lookup x=some .local:=by first | exact .inl rfl | exact .inr rfl | assumption):PG X (.Name x pos) (bN i):=by
 intro pins s σ H v u Q I r h
 exact wpAny_assign_Name (eo I hN hi hx r (fun s' I'=>⟨_,H,I',h⟩) hf)
noncomputable def ua:TGs:=fun vs σ H Q=>vs=[]/\Q σ H
noncomputable def f6 (t:TG)(u:TGs):TGs:=fun vs σ H Q=>∃ v r,vs=v::r/\t v σ H fun σ' H'=>u r σ' H' Q
noncomputable def tE (K:a0a)(n:Nat)(t:TGs):TG:=fun v σ H Q=>∃ a xs,v=.ref a/\SqT K H a xs/\xs.length=n/\t xs σ H Q
noncomputable def tm (te:TE)(g:TG):TS:=fun D σ H=>te σ H fun x H1=>g x σ H1 D.nx
theorem pP {i:Nat}{x:Str}{e:Expr}{te:TE}{pos':Pos}(hN:X.N.Nodup)(hi:X.N[i]?=some x)(hx:Loc X.env.scope x)(he:PE X e te)(hs:swapsWith e (some (.Name x pos')) pos.line X.env=pure false:=by rfl)(hf:X.fn x=true\/X.env.scope.names.lookup x=some .local:=by first | exact .inl rfl | exact .inr rfl | assumption) :
  PS X (.Assign [.Name x pos'] e pos) (tm te (bN i)):=by
 intro pins s σ H D I h
 refine wpAny_Assign_Name (thn (he pins s σ H _ I h) fun v s1 ⟨y,H1,I1,r1,q1⟩=>?_) hs
 exact eo I1 hN hi hx r1 (fun s2 I2=>⟨_,H1,I2,q1⟩) hf
end
structure It where
 go:Nat->Hp->Prop
 yld:Nat->Hp->V->Hp->Prop
 stop:Nat->Hp->Prop
noncomputable def d6 (X:Cx)(pins:List (Addr×Obj))(H:Hp)(b:Addr):Prop :=
 H b=none/\b≠X.env.locals/\b ∉ X.fs/\(b∈X.ex\/X.s₀.heap.objs.size<=b)/\(∀ x c,X.env.cells.lookup x=some c->c≠b)/\∀ p∈X.pn++pins,p.1≠b
theorem Inv.fpOk {X:Cx}{pins:List (Addr×Obj)}{σ:St}{H H':Hp}{s:Shared}{b:Addr}(I:Inv X pins σ H s)(hb:s.heap.objs.size<=b)(hn:H' b=none):d6 X pins H' b:=by
 refine ⟨hn,a05 (a0h I.lt hb),I.nofs hb,.inr (a0k I.sz hb),fun x c e z=>?_,fun p hp z=>?_⟩
 ·obtain ⟨v,q⟩:=I.cell x c e
  exact absurd (a0h q.lt (by rw [z]; exact hb)) (a01 _)
 ·exact absurd (a0h (Heap.lt_size (I.pin p hp).1) (by rw [z]; exact hb)) (a01 _)
structure l7 (P:Program)(w:World)(K:a0a)(tg:Expr)(J:It)(fp:List Addr)(it:Addr)(tn:Nat->Heap->Prop):Prop where
 mem:it∈fp
 obj:∀ i h,tn i h->∀ b∈fp,∃ o,h.get? b=some o/\∀ v,o.data≠.cell v
 keep:∀ i h h',tn i h->(∀ b∈fp,∀ o,h.get? b=some o->h'.get? b=some o)->tn i h'
 item:∀ (X:Cx),X.prog=P->X.w=w->X.K=K->X.calm=true->∀ (i:Nat) (pins:List (Addr×Obj)) (s:Shared) (σ:St) (H:Hp) (E:Value->Shared->Prop),Inv X pins σ H s->(∀ b∈fp,d6 X pins H b)->tn i s.heap->J.go i H ->
  wpAny (model P w) X.A (pyNext (.ref it)) (fun r s1=>∃ u,r=some u /\
   wpAny (model P w) X.A (letOwnedTupleGo tg (.ref it) u) (fun _ s2=>∃ x H',Inv X pins σ H' s2/\RelV x u/\J.yld i H x H'/\tn (i+1) s2.heap/\∀ b∈fp,H' b=none) E s1) E s
 done:∀ (X:Cx),X.prog=P->X.w=w->X.K=K->X.calm=true->∀ (i:Nat) (pins:List (Addr×Obj)) (s:Shared) (σ:St) (H:Hp) (E:Value->Shared->Prop),Inv X pins σ H s->(∀ b∈fp,d6 X pins H b)->tn i s.heap->J.stop i H ->
  wpAny (model P w) X.A (pyNext (.ref it)) (fun r s1=>r=none/\Inv X pins σ H s1) E s
 self:∀ (A:Around) (i:Nat) (s:Shared) (Q:Value->Shared->Prop) (E:Value->Shared->Prop),tn i s.heap->Q (.ref it) s->wpAny (model P w) A (pyIter (.ref it)) Q E s
noncomputable abbrev TI:=St->Hp->(It->Hp->Prop)->Prop
noncomputable def PIE (X:Cx)(pins:List (Addr×Obj))(σ:St)(tg:Expr)(R:It->Hp->Prop)(itv:Value)(s2:Shared):Prop :=
 ∃ (it:Addr) (fp:List Addr) (tn:Nat->Heap->Prop) (J:It) (H':Hp),itv=.ref it/\Inv X pins σ H' s2/\l7 X.prog X.w X.K tg J fp it tn/\tn 0 s2.heap/\(∀ b∈fp,d6 X pins H' b)/\R J H'
noncomputable def PI (X:Cx)(tg iter:Expr)(wi:TI):Prop :=
 ∀ (pins:List (Addr×Obj)) (s:Shared) (σ:St) (H:Hp) (R:It->Hp->Prop),Inv X pins σ H s->wi σ H R ->
  wpAny (model X.prog X.w) X.A (eval iter X.env) (fun v s1=>wpAny (model X.prog X.w) X.A (pyIter v) (PIE X pins σ tg R) X.xe s1) X.xe s
theorem jQ {M:Model}{A:Around}{E:Value->Shared->Prop}{s:Shared}{tg:Expr}{it:Addr}{u:Value}{o:Obj}{n:String}{vs:Array Value}{Q:Unit->Shared->Prop}(ho:s.heap.get? it=some o)(hc:o.cls=.type n)(hd:o.data=.fields vs)
  (hn:["enumerate","zip","dict_itemiterator","dict_reverseitemiterator","odict_iterator","itertools.zip_longest","itertools.pairwise"].contains n=false) (hQ:Q () s):wpAny M A (letOwnedTupleGo tg (.ref it) u) Q E s:=by
 unfold letOwnedTupleGo
 cases tg<;>first
  | exact wpAny_pure hQ
  | (cases u<;>first
    | exact wpAny_pure hQ
    | (refine wpAny_bind (wpAny_load ho ?_)
       rw [hc,hd]
       show wpAny M A (if (["enumerate","zip","dict_itemiterator","dict_reverseitemiterator","odict_iterator","itertools.zip_longest","itertools.pairwise"].contains n&&vs[0]?==some (rawInt _))=true then _ else _) Q E s
       rw [if_neg (by intro h; rw [hn,Bool.false_and] at h; cases h)]
       exact wpAny_pure hQ))
noncomputable def Itl (K:a0a)(a:Addr):It :=
 ⟨fun i H=>∃ xs x,SqL K H a xs/\xs[i]?=some x,fun i H x H'=>H'=H/\∀ xs,SqL K H a xs->xs[i]?=some x,fun i H=>∃ xs,SqL K H a xs/\xs.length<=i⟩
noncomputable def Itt (K:a0a)(a:Addr):It :=
 ⟨fun i H=>∃ xs x,SqT K H a xs/\xs[i]?=some x,fun i H x H'=>H'=H/\∀ xs,SqT K H a xs->xs[i]?=some x,fun i H=>∃ xs,SqT K H a xs/\xs.length<=i⟩
noncomputable def Itr (lo:Int)(n:Nat):It:=⟨fun i _=>i < n,fun i H x H'=>H'=H/\x=.int (lo+i),fun i _=>n<=i⟩
theorem gq {P:Program}{w:World}{K:a0a}{tg:Expr}(a it:Addr):l7 P w K tg (Itl K a) [it] it (fun i h=>h.IsListIter it a i) where
 mem:=by simp
 obj:=fun i h st b hb=>by
  have e:b=it:=by simpa using hb
  subst e
  obtain ⟨o,e,c,d⟩:=st
  exact ⟨o,e,fun v z=>by rw [d] at z; cases z⟩
 keep:=fun i h h' st k=>st.at fun o e=>k it (by simp) o e
 item:=by
  intro X hP hw hK hc i pins s σ H E I hf st hg
  subst hP hw hK
  obtain ⟨xs,x,hq,hx⟩:=hg
  obtain ⟨its,rv,p,hz⟩:=I.list hq
  obtain ⟨u,hu,ru⟩:=rv.get hx
  obtain ⟨f0,f1,f2,f3,f4,f5⟩:=hf it (by simp)
  refine wpAny_pyNext_list_item st p.isList (x:=u) (by simpa using hu) fun h' st' sb=>?_
  have I1:Inv X pins σ H { s with heap:=h' }:=I.turned (t':=s.toks) (fun b o hb e=>(sb.2 b hb).trans e) f0 f1 f3 f4 f5
  obtain ⟨o,e,c,d⟩:=id st'
  exact ⟨u,rfl,jQ (s:={ s with heap:=h' }) e c d (by decide) ⟨x,H,I1,ru,⟨rfl,fun ys hy=>by rw [I.list_inj hy hq]; exact hx⟩,st',fun b hb=>(hf b hb).1⟩⟩
 done:=by
  intro X hP hw hK hc i pins s σ H E I hf st hg
  subst hP hw hK
  obtain ⟨xs,hq,hx⟩:=hg
  obtain ⟨its,rv,p,hz⟩:=I.list hq
  obtain ⟨f0,f1,f2,f3,f4,f5⟩:=hf it (by simp)
  have hl:=rv.length
  exact wpAny_pyNext_list_end (I.ok.hd hc) st p.isList (by simp; omega) fun h' eb=>⟨rfl,I.turned (t':=s.toks) (fun b o hb e=>eb b o hb e) f0 f1 f3 f4 f5⟩
 self:=fun _ _ _ _ _ st h=>wpAny_pyIter_listiter st h
theorem eT {P:Program}{w:World}{K:a0a}{tg:Expr}(a it:Addr):l7 P w K tg (Itt K a) [it] it (fun i h=>h.IsTupleIter it a i) where
 mem:=by simp
 obj:=fun i h st b hb=>by
  have e:b=it:=by simpa using hb
  subst e
  obtain ⟨o,e,c,d⟩:=st
  exact ⟨o,e,fun v z=>by rw [d] at z; cases z⟩
 keep:=fun i h h' st k=>st.at fun o e=>k it (by simp) o e
 item:=by
  intro X hP hw hK hc i pins s σ H E I hf st hg
  subst hP hw hK
  obtain ⟨xs,x,hq,hx⟩:=hg
  obtain ⟨its,rv,p,hz⟩:=I.tuple hq
  obtain ⟨u,hu,ru⟩:=rv.get hx
  obtain ⟨f0,f1,f2,f3,f4,f5⟩:=hf it (by simp)
  refine wpAny_pyNext_tuple_item st (show s.heap.IsTuple a its.toArray from p) (x:=u) (by simpa using hu) fun h' st' sb=>?_
  have I1:Inv X pins σ H { s with heap:=h' }:=I.turned (t':=s.toks) (fun b o hb e=>(sb.2 b hb).trans e) f0 f1 f3 f4 f5
  obtain ⟨o,e,c,d⟩:=id st'
  exact ⟨u,rfl,jQ (s:={ s with heap:=h' }) e c d (by decide) ⟨x,H,I1,ru,⟨rfl,fun ys hy=>by rw [I.tuple_inj hy hq]; exact hx⟩,st',fun b hb=>(hf b hb).1⟩⟩
 done:=by
  intro X hP hw hK hc i pins s σ H E I hf st hg
  subst hP hw hK
  obtain ⟨xs,hq,hx⟩:=hg
  obtain ⟨its,rv,p,hz⟩:=I.tuple hq
  obtain ⟨f0,f1,f2,f3,f4,f5⟩:=hf it (by simp)
  have hl:=rv.length
  exact wpAny_pyNext_tuple_end (I.ok.hd hc) st (show s.heap.IsTuple a its.toArray from p) (by simp; omega) fun h' eb=>⟨rfl,I.turned (t':=s.toks) (fun b o hb e=>eb b o hb e) f0 f1 f3 f4 f5⟩
 self:=fun _ _ _ _ _ st h=>wpAny_pyIter_tupleiter st h
theorem eY {P:Program}{w:World}{K:a0a}{tg:Expr}(it:Addr)(lo:Int)(n:Nat):l7 P w K tg (Itr lo n) [it] it (fun i h=>IsRangeIter h it (lo+(i:Nat) * 1) ((n:Int)-(i:Nat)) 1) where
 mem:=by simp
 obj:=fun i h st b hb=>by
  have e:b=it:=by simpa using hb
  subst e
  exact ⟨_,st,fun v z=>by
   have z':Data.fields _=Data.cell v:=z
   cases z'⟩
 keep:=fun i h h' st k=>k it (by simp) _ st
 item:=by
  intro X hP hw hK hc i pins s σ H E I hf st hg
  subst hP hw hK
  obtain ⟨f0,f1,f2,f3,f4,f5⟩:=hf it (by simp)
  have W:=Walks.range (prog:=X.prog) (w:=X.w) (I.ok.hd hc) it lo 1 n
  refine W.item i s _ _ hg st fun v h' tk hv st' kk=>?_
  obtain ⟨t,rfl⟩:=hv
  have I1:Inv X pins σ H { s with heap:=h',toks:=tk }:=I.turned (fun b o hb e=>kk b o (by simpa using hb) e) f0 f1 f3 f4 f5
  refine ⟨_,rfl,jQ (s:={ s with heap:=h',toks:=tk }) (n:="range_iterator") st' rfl rfl (by decide) ⟨.int (lo+i),H,I1,⟨t,?_⟩,⟨rfl,rfl⟩,st',fun b hb=>(hf b hb).1⟩⟩
  rw [Int.mul_one]
 done:=by
  intro X hP hw hK hc i pins s σ H E I hf st hg
  subst hP hw hK
  obtain ⟨f0,f1,f2,f3,f4,f5⟩:=hf it (by simp)
  exact wpAny_pyNext_range_end (I.ok.hd hc) st (by have:n<=i:=hg; omega) fun h' eb=>⟨rfl,I.turned (t':=s.toks) (fun b o hb e=>eb b o hb e) f0 f1 f3 f4 f5⟩
 self:=fun _ _ _ _ _ st h=>wpAny_pyIter_rangeiter st h
end L2
namespace L2
open PySem PySem.Spec PyProof.Rows
section
variable {X:Cx}{tg:Expr}
noncomputable def ni (K:a0a)(tl:TE):TI:=fun σ H R=>tl σ H fun x H1=>∃ a,x=.ref a/\(∃ xs,SqL K H1 a xs)/\R (Itl K a) H1
noncomputable def uX (K:a0a)(tl:TE):TI:=fun σ H R=>tl σ H fun x H1=>∃ a,x=.ref a/\(∃ xs,SqT K H1 a xs)/\R (Itt K a) H1
theorem lF {l:Expr}{tl:TE}(hl:PE X l tl):PI X tg l (ni X.K tl):=by
 intro pins s σ H R I h
 refine thn (hl pins s σ H _ I h) fun v s1 ⟨x,H1,I1,r1,q1⟩=>?_
 obtain ⟨a,e,⟨xs,hq⟩,q⟩:=q1
 subst e
 cases r1
 obtain ⟨its,rv,p,hz⟩:=I1.list hq
 refine wpAny_pyIter_list p.isList ?_
 refine ⟨s1.heap.objs.size,[s1.heap.objs.size],_,_,H1,rfl,I1.kept (t':=s1.toks) fun b o e=>Heap.get?_push_of_some _ e,gq a _,⟨_,Heap.get?_push_size _ rfl,rfl,rfl⟩,fun b hb=>?_,q⟩
 have e:b=s1.heap.objs.size:=by simpa using hb
 subst e
 exact I1.fpOk (a0j _) (I1.hok.fresh (a0j _))
theorem oq {l:Expr}{tl:TE}(hl:PE X l tl):PI X tg l (uX X.K tl):=by
 intro pins s σ H R I h
 refine thn (hl pins s σ H _ I h) fun v s1 ⟨x,H1,I1,r1,q1⟩=>?_
 obtain ⟨a,e,⟨xs,hq⟩,q⟩:=q1
 subst e
 cases r1
 obtain ⟨its,rv,p,hz⟩:=I1.tuple hq
 refine wpAny_pyIter_tuple (show s1.heap.IsTuple a its.toArray from p) ?_
 refine ⟨s1.heap.objs.size,[s1.heap.objs.size],_,_,H1,rfl,I1.kept (t':=s1.toks) fun b o e=>Heap.get?_push_of_some _ e,eT a _,⟨_,Heap.get?_push_size _ rfl,rfl,rfl⟩,fun b hb=>?_,q⟩
 have e:b=s1.heap.objs.size:=by simpa using hb
 subst e
 exact I1.fpOk (a0j _) (I1.hok.fresh (a0j _))
theorem ji {pins:List (Addr×Obj)}{σ:St}{H:Hp}{s:Shared}{R:It->Hp->Prop}{E:Value->Shared->Prop}{lo hi:Int}{t u v:Tok}{tk:Nat}(I:Inv X pins σ H s)(h1:-(2 ^ 62)<=lo)(h2:lo < 2 ^ 62)(h3:-(2 ^ 62)<=hi)(h4:hi < 2 ^ 62)
  (q:R (Itr lo (hi-lo).toNat) H):wpAny (model X.prog X.w) X.A (pyIter (.ref s.heap.objs.size)) (PIE X pins σ tg R) E { s with heap:=s.heap.push { cls:=.type "range",data:=.fields #[.int lo t,.int hi u,.int 1 v] },toks:=tk }:=by
 refine wpAny_pyIter_range (IsRange.new ..) (small_one h1 h2 h3 h4) ?_
 have I1:Inv X pins σ H { s with heap:=s.heap.push { cls:=.type "range",data:=.fields #[.int lo t,.int hi u,.int 1 v] },toks:=tk }:=I.kept fun b o e=>Heap.get?_push_of_some _ e
 refine ⟨(s.heap.push { cls:=.type "range",data:=.fields #[.int lo t,.int hi u,.int 1 v] }).objs.size,[(s.heap.push { cls:=.type "range",data:=.fields #[.int lo t,.int hi u,.int 1 v] }).objs.size],_,_,H,rfl,
  I1.kept (t':=tk) fun b o e=>Heap.get?_push_of_some _ e,eY _ lo (hi-lo).toNat,?_,fun b hb=>?_,q⟩
 ·have e1:lo+((0:Nat):Int) * 1=lo:=by simp
  have e2:(((hi-lo).toNat:Nat):Int)-((0:Nat):Int)=Builtin.Range.rangeSize lo hi 1:=by rw [rangeSize_one]; split<;>omega
  show IsRangeIter _ _ (lo+((0:Nat):Int) * 1) ((((hi-lo).toNat:Nat):Int)-((0:Nat):Int)) 1
  rw [e1,e2]
  exact Heap.get?_push_size _ rfl
 ·have e:b=(s.heap.push { cls:=.type "range",data:=.fields #[.int lo t,.int hi u,.int 1 v] }).objs.size:=by simpa using hb
  subst e
  exact I1.fpOk (a0j _) (I1.hok.fresh (a0j _))
noncomputable def mZ (ta:TA):TI:=fun σ H R=>ta σ H fun vs H1=>∃ j:Int,vs=[.int j]/\-(2 ^ 62)<=j/\j < 2 ^ 62/\R (Itr 0 j.toNat) H1
theorem gL {a:Expr}{ta:TA}{p pos:Pos}(hg:Gl X "range")(hm:X.mg "range"=none)(ha:PA X [a] ta)(hs:starEach [a] X.env=[(false,eval a X.env)]:=by rfl):PI X tg (.Call (.Name "range" p) [a] [] pos) (mZ ta):=by
 intro pins s σ H R I h
 refine Call_ (dG I hg hm boot_range (a1o (thn (ha pos pins s σ H _ I h) fun us s1 ⟨vs,H1,I1,r1,q1⟩=>?_) hs rfl))
 obtain ⟨j,e,q1,q2,q⟩:=q1
 subst e
 cases r1 with
 | cons r rr =>
  cases rr
  obtain ⟨t,rfl⟩:=r
  exact call_range_1 (ji I1 (by omega) (by omega) q1 q2 (by simpa using q))
noncomputable def uz (wi:TI)(g:TG)(tb:TS):TS:=fun D σ H=>wi σ H fun J H1=>∃ W:Nat->Nat->St->Hp->Prop,(∃ m,W 0 m σ H1)/\∀ i m σ H,W i m σ H ->
 (J.stop i H/\D.nx σ H)\/(J.go i H/\∃ N:St->Hp->Prop,(∀ σ' H',N σ' H'->∃ m',m' < m/\W (i+1) m' σ' H')/\∀ x H',J.yld i H x H'->g x σ H' fun σ2 H2=>tb { D with nx:=N,ct:=N,bk:=D.nx } σ2 H2)
noncomputable def cq (fp:List Addr)(h:Heap):List (Addr×Obj):=fp.filterMap fun b=>(h.get? b).map fun o=>(b,o)
theorem aL {fp:List Addr}{h:Heap}{b:Addr}{o:Obj}(hb:b∈fp)(e:h.get? b=some o):(b,o)∈cq fp h:=a1W.mpr ⟨b,hb,by rw [e]; rfl⟩
theorem gg {fp:List Addr}{h:Heap}{p:Addr×Obj}(hp:p∈cq fp h):p.1∈fp/\h.get? p.1=some p.2:=by
 obtain ⟨b,hb,e⟩:=a1W.mp hp
 cases q:h.get? b with
 | none=>rw [q] at e; cases e
 | some o =>
  rw [q] at e
  have e':(b,o)=p:=a0q e
  subst e'
  exact ⟨hb,q⟩
theorem Inv.pinned {pins:List (Addr×Obj)}{σ:St}{H:Hp}{s:Shared}{fp:List Addr}(I:Inv X pins σ H s)(hf:∀ b∈fp,d6 X pins H b)(ho:∀ b∈fp,∃ o,s.heap.get? b=some o/\∀ v,o.data≠.cell v):Inv X (pins++cq fp s.heap) σ H s :=
 I.pins_of fun p hp=>(a0Y.mp hp).elim (fun z=>I.pin p (a0c _ z)) fun z=>by
  obtain ⟨hb,e⟩:=gg z
  obtain ⟨f0,f1,f2,_⟩:=hf p.1 hb
  obtain ⟨o,e',d⟩:=ho p.1 hb
  rw [e] at e'; cases e'
  exact ⟨e,f0,f1,f2,d⟩
theorem Inv.unpinned {pins pl:List (Addr×Obj)}{σ:St}{H:Hp}{s:Shared}(I:Inv X (pins++pl) σ H s):Inv X pins σ H s:=I.pins_of fun p hp=>I.pin p (a0c _ (a0N _ hp))
theorem oX {iter:Expr}{body:List Stmt}{wi:TI}{g:TG}{tb:TS}{pos:Pos}(hp:PassesOwn (model X.prog X.w) X.A X.env X.xe)(hc:X.calm=true)(hi:PI X tg iter wi)(hg:PG X tg g)(hb:PSs X body tb)
  (hs:∀ x,foldedSetIterable iter X.env x=pure x:=by intro _; rfl):PS X (.For tg iter body [] pos) (uz wi g tb):=by
 intro pins s σ H D I h
 refine wpAny_For (thn (hi pins s σ H _ I h) fun v s1 h1=>thn h1 fun itv s2 h2=>?_) hs
 obtain ⟨it,fp,tn,J,H2,e,I2,T,st2,f2,W,⟨m0,w0⟩,turn⟩:=h2
 subst e
 -- what stays true of the iterator's objects through the loop
 have stat:∀ {H':Hp},(∀ b∈fp,H' b=none)->∀ b∈fp,d6 X pins H' b:=fun hn b hb=>⟨hn b hb,(f2 b hb).2⟩
 refine codeAny_forLoop_any (fun n s'=>∃ i σ' H',Inv X pins σ' H' s'/\tn i s'.heap/\(∀ b∈fp,H' b=none)/\W i n σ' H') ?_ m0 ⟨0,σ,H2,I2,st2,fun b hb=>(f2 b hb).1,w0⟩
 rintro n s3 ⟨i,σ3,H3,I3,st3,fr3,w3⟩
 rcases turn i n σ3 H3 w3 with ⟨stop,qn⟩ | ⟨go,N,hN,step⟩
 ·refine wpAny_passesOwn hp (thn (T.done X rfl rfl rfl hc i pins s3 σ3 H3 X.xe I3 (stat fr3) st3 stop) fun r s4 ⟨hr,I4⟩=>?_)
  subst hr
  exact wpAny_execs_nil ⟨σ3,H3,I4,qn⟩
 ·refine wpAny_passesOwn hp (thn (T.item X rfl rfl rfl hc i pins s3 σ3 H3 X.xe I3 (stat fr3) st3 go) fun r s4 ⟨u,hr,h4⟩=>?_)
  subst hr
  refine wpAny_passesOwn hp (thn h4 fun _ s5 ⟨x,H5,I5,r5,y5,st5,fr5⟩=>?_)
  have I5':=I5.pinned (stat fr5) (T.obj _ _ st5)
  refine wpAny_passesOwn hp (thn (hg _ s5 σ3 H5 x u _ I5' r5 (step x H5 y5)) fun _ s6 ⟨σ6,H6,I6,q6⟩=>?_)
  refine wpAny_passesOwn hp (thn (hb _ s6 σ6 H6 _ I6 q6) fun f s7 q7=>?_)
  have again:∀ {σ7:St} {H7:Hp},Inv X (pins++cq fp s5.heap) σ7 H7 s7->N σ7 H7->∃ m,m < n/\∃ i σ' H',Inv X pins σ' H' s7/\tn i s7.heap/\(∀ b∈fp,H' b=none)/\W i m σ' H':=fun {σ7 H7} I7 n7=>by
   obtain ⟨m',hm,w7⟩:=hN σ7 H7 n7
   refine ⟨m',hm,i+1,σ7,H7,I7.unpinned,T.keep _ _ _ st5 fun b hb o e=>(I7.pin (b,o) (a0c _ (a0c _ (aL hb e)))).1,fun b hb=>?_,w7⟩
   obtain ⟨o,e,d⟩:=T.obj _ _ st5 b hb
   exact (I7.pin (b,o) (a0c _ (a0c _ (aL hb e)))).2.1
  cases f with
  | next=>obtain ⟨σ7,H7,I7,n7⟩:=q7; exact again I7 n7
  | cont=>obtain ⟨σ7,H7,I7,n7⟩:=q7; exact again I7 n7
  | brk=>obtain ⟨σ7,H7,I7,q7⟩:=q7; exact ⟨σ7,H7,I7.unpinned,q7⟩
  | ret v=>obtain ⟨x7,σ7,H7,I7,r7,q7⟩:=q7; exact ⟨x7,σ7,H7,I7.unpinned,r7,q7⟩
end
end L2
namespace L2
open PySem PySem.Spec PyProof.Rows
noncomputable abbrev R2:=V->V->Hp->VK->Prop
noncomputable def OpR (X:Cx)(f:Value->Value->Sem Value)(r:R2):Prop :=
 ∀ (pins:List (Addr×Obj)) (s:Shared) (σ:St) (H:Hp) (x y:V) (v u:Value) (Q:VK),Inv X pins σ H s->RelV x v->RelV y u->r x y H Q ->
  wpAny (model X.prog X.w) X.A (f v u) (EP X pins σ Q) X.xe s
noncomputable def dh (X:Cx)(f:Value)(r:List V->Hp->VK->Prop):Prop :=
 ∀ (pins:List (Addr×Obj)) (s:Shared) (σ:St) (H:Hp) (xs:List V) (us:List Value) (Q:VK),Inv X pins σ H s->Vals xs us->r xs H Q ->
  wpAny (model X.prog X.w) X.A (call f us) (EP X pins σ Q) X.xe s
noncomputable def vW (X:Cx)(r:V->Hp->(Bool->Hp->Prop)->Prop):Prop :=
 ∀ (pins:List (Addr×Obj)) (s:Shared) (σ:St) (H:Hp) (x:V) (v:Value) (Q:Bool->Hp->Prop),Inv X pins σ H s->RelV x v->r x H Q ->
  wpAny (model X.prog X.w) X.A (truthy v) (TP X pins σ Q) X.xe s
noncomputable def tOp (r:R2)(ta tb:TE):TE:=fun σ H Q=>ta σ H fun x H1=>tb σ H1 fun y H2=>r x y H2 Q
noncomputable def rI (C:Int->Int->Prop)(g:Int->Int->V):R2:=fun x y H Q=>∃ i j,x=.int i/\y=.int j/\C i j/\Q (g i j) H
noncomputable def rI0 (g:Int->Int->V):R2:=fun x y H Q=>∃ i j,x=.int i/\y=.int j/\Q (g i j) H
section
variable {X:Cx}{a b c:Expr}{ta tb tc:TE}{pos:Pos}
theorem n0 (ha:PE X a ta)(hb:PE X b tb){pins:List (Addr×Obj)}{s:Shared}{σ:St}{H:Hp}{R:V->V->Hp->Prop}(I:Inv X pins σ H s)
  (h:ta σ H fun x H1=>tb σ H1 fun y H2=>R x y H2) {Q:Value->Shared->Prop} {f:Value->Value->Sem Value}
  (hf:∀ v u s2 x y H2,Inv X pins σ H2 s2->RelV x v->RelV y u->R x y H2->wpAny (model X.prog X.w) X.A (f v u) Q X.xe s2) :
  wpAny (model X.prog X.w) X.A (eval a X.env) (fun v s₁=>wpAny (model X.prog X.w) X.A (eval b X.env) (fun u s₂=>wpAny (model X.prog X.w) X.A (f v u) Q X.xe s₂) X.xe s₁) X.xe s:=by
 refine thn (ha pins s σ H _ I h) fun v s1 ⟨x,H1,I1,r1,q1⟩=>?_
 refine thn (hb pins s1 σ H1 _ I1 q1) fun u s2 ⟨y,H2,I2,r2,q2⟩=>?_
 exact hf v u s2 x y H2 I2 r1 r2 q2
theorem eD {op:Operator}{r:R2}(ho:OpR X (binaryOp op) r)(ha:PE X a ta)(hb:PE X b tb):PE X (.BinOp a op b pos) (tOp r ta tb):=by
 intro pins s σ H Q I h
 exact wpAny_BinOp (n0 ha hb I h fun v u s2 x y H2 I2 rx ry q=>ho pins s2 σ H2 x y v u Q I2 rx ry q)
theorem opI {f:Value->Value->Sem Value}{C:Int->Int->Prop}{g:Int->Int->Int}
  (rule:∀ (i j:Int) (t u:Tok) (s:Shared) (Q:Value->Shared->Prop) (E:Value->Shared->Prop),C i j->Q (.int (g i j) s.toks) { s with toks:=s.toks+1 }->wpAny (model X.prog X.w) X.A (f (.int i t) (.int j u)) Q E s) :
  OpR X f (rI C fun i j=>.int (g i j)):=by
 intro pins s σ H x y v u Q I rx ry h
 obtain ⟨i,j,rfl,rfl,hc,q⟩:=h
 obtain ⟨t,rfl⟩:=rx
 obtain ⟨t',rfl⟩:=ry
 exact rule i j t t' s _ _ hc ⟨.int (g i j),H,I.tok _,⟨_,rfl⟩,q⟩
theorem uE {f:Value->Value->Sem Value}{g:Int->Int->Int}
  (rule:∀ (i j:Int) (t u:Tok) (s:Shared) (Q:Value->Shared->Prop) (E:Value->Shared->Prop),Q (.int (g i j) s.toks) { s with toks:=s.toks+1 }->wpAny (model X.prog X.w) X.A (f (.int i t) (.int j u)) Q E s) :
  OpR X f (rI0 fun i j=>.int (g i j)):=by
 intro pins s σ H x y v u Q I rx ry h
 obtain ⟨i,j,rfl,rfl,q⟩:=h
 obtain ⟨t,rfl⟩:=rx
 obtain ⟨t',rfl⟩:=ry
 exact rule i j t t' s _ _ ⟨.int (g i j),H,I.tok _,⟨_,rfl⟩,q⟩
theorem u7 {f:Value->Value->Sem Value}{g:Int->Int->Bool}
  (rule:∀ (i j:Int) (t u:Tok) (s:Shared) (Q:Value->Shared->Prop) (E:Value->Shared->Prop),Q (.bool (g i j)) s->wpAny (model X.prog X.w) X.A (f (.int i t) (.int j u)) Q E s) :
  OpR X f (rI0 fun i j=>.bl (g i j)):=by
 intro pins s σ H x y v u Q I rx ry h
 obtain ⟨i,j,rfl,rfl,q⟩:=h
 obtain ⟨t,rfl⟩:=rx
 obtain ⟨t',rfl⟩:=ry
 exact rule i j t t' s _ _ ⟨.bl (g i j),H,I,rfl,q⟩
noncomputable def oO (i j:Int):Prop:=0<=j/\j<=1000000/\i.natAbs < 2 ^ 64
noncomputable def CMul (i j:Int):Prop:=(-(2 ^ 64) < i/\i < 2 ^ 64)\/(-(2 ^ 64) < j/\j < 2 ^ 64)
theorem CMul.ok {i j:Int}(h:CMul i j):IntMulOk i j:=by
 rcases h with ⟨h1,h2⟩ | ⟨h1,h2⟩
 ·exact .of_left (intBits_le_64 h1 h2)
 ·exact .of_right (intBits_le_64 h1 h2)
theorem op_add:OpR X (binaryOp .Add) (rI0 fun i j=>.int (i+j)):=uE fun _ _ _ _ _ _ _ q=>add_int q
theorem pj:OpR X (binaryOp .Sub) (rI0 fun i j=>.int (i-j)):=uE fun _ _ _ _ _ _ _ q=>sub_int q
theorem op_mul:OpR X (binaryOp .Mult) (rI CMul fun i j=>.int (i * j)):=opI fun _ _ _ _ _ _ _ hc q=>mul_int q hc.ok
theorem pF:OpR X (binaryOp .Mod) (rI (fun _ j=>0 < j) fun i j=>.int (i % j)):=opI fun i j _ _ _ _ _ hc q=>by
 have h1:(0:Int) < j:=hc
 exact mod_int' (by omega) (by rw [Int.fmod_eq_emod_of_nonneg i (by omega)]; exact q)
theorem nM:OpR X (binaryOp .Pow) (rI oO fun i j=>.int (i ^ j.toNat)):=opI fun _ _ _ _ _ _ _ hc q=>pow_int_small hc.1 hc.2.1 hc.2.2 q
end
section
variable {X:Cx}{a b c:Expr}{ta tb tc:TE}{pos:Pos}
theorem t7:OpR X (compareOp .Gt) (rI0 fun i j=>.bl (decide (j < i))):=u7 fun _ _ _ _ _ _ _ q=>gt_int q
theorem OpR.or {f:Value->Value->Sem Value}{r r':R2}(h:OpR X f r)(h':OpR X f r'):OpR X f (fun x y H Q=>r x y H Q\/r' x y H Q):=by
 intro pins s σ H x y v u Q I rx ry q
 rcases q with q | q
 ·exact h pins s σ H x y v u Q I rx ry q
 ·exact h' pins s σ H x y v u Q I rx ry q
theorem fq (b:Expr){op:CmpOp}(h:op≠.In:=by decide)(h2:op≠.NotIn:=by decide):behindInMarks op b=false:=by
 have e1:(op==CmpOp.In)=false:=by cases op<;>first | rfl | exact absurd rfl h
 have e2:(op==CmpOp.NotIn)=false:=by cases op<;>first | rfl | exact absurd rfl h2
 cases b<;>simp [behindInMarks,e1,e2]
theorem lH {op:CmpOp}{r:R2}(ho:OpR X (compareOp op) r)(ha:PE X a ta)(hb:PE X b tb)(hm:behindInMarks op b=false):PE X (.Compare a [op] [b] pos) (tOp r ta tb):=by
 intro pins s σ H Q I h
 exact wpAny_Compare1 (n0 ha hb I h fun v u s2 x y H2 I2 rx ry q=>ho pins s2 σ H2 x y v u Q I2 rx ry q) hm
noncomputable def nE (t:TE):TT:=fun σ H Q=>t σ H fun x H'=>∃ k,x=.bl k/\Q k H'
theorem kx {op:CmpOp}{r:R2}(ho:OpR X (compareOp op) r)(ha:PE X a ta)(hb:PE X b tb)(hm:behindInMarks op b=false):PT X (.Compare a [op] [b] pos) (nE (tOp r ta tb)):=by
 intro pins s σ H Q I h
 refine wpAny_isTrue_Compare1 (thn (ha pins s σ H _ I h) fun v s1 ⟨x,H1,I1,r1,q1⟩=>thn (hb pins s1 σ H1 _ I1 q1) fun u s2 ⟨y,H2,I2,r2,q2⟩ =>
  thn (ho pins s2 σ H2 x y v u _ I2 r1 r2 q2) fun c s3 ⟨z,H3,I3,r3,k,e,q3⟩=>?_) hm
 subst e
 cases r3
 exact wpAny_truthy_bool ⟨H3,I3,q3⟩
noncomputable def rj (K:a0a)(x:V)(H:Hp)(k:Bool):Prop :=
 match x with
 | .non=>k=false
 | .bl b=>k=b
 | .int i=>k=(i != 0)
 | .str y=>y.length<=sizeLine/\k=((y.length:Int) != 0)
 | .byt y=>y.size<=sizeLine/\k=((y.size:Int) != 0)
 | .ref p=>(∃ xs,SqL K H p xs/\k=!xs.isEmpty)\/(∃ xs,SqT K H p xs/\k=!xs.isEmpty)\/∃ kvs,H p=some (.dK kvs)/\k=!kvs.isEmpty
 | _=>False
theorem eO {κ:Type}{kvs:List (κ×V)}{vs:List (κ×Value)}(r:KV kvs vs):(!vs.isEmpty)=!kvs.isEmpty:=by
 cases r<;>rfl
theorem cm {xs:List V}{its:List Value}(r:Vals xs its):(!its.toArray.isEmpty)=!xs.isEmpty:=by
 cases r<;>simp
theorem cz:(sizeLine:Nat) < 2 ^ 63:=by rw [sizeLine_eq]; decide
theorem nN:vW X (fun x H Q=>∃ k,rj X.K x H k/\Q k H):=by
 intro pins s σ H x v Q I rx h
 obtain ⟨k,e,q⟩:=h
 have hl:=cz
 have hs:sizeLine=16777216:=sizeLine_eq
 cases x with
 | non =>
  cases rx
  have e':k=false:=e
  subst e'
  exact truthy_none ⟨H,I,q⟩
 | bl b =>
  cases rx
  have e':k=b:=e
  subst e'
  exact wpAny_truthy_bool ⟨H,I,q⟩
 | int i =>
  obtain ⟨t,rfl⟩:=rx
  have e':k=(i != 0):=e
  subst e'
  exact PySem.P.truthy_int ⟨H,I,q⟩
 | str y =>
  obtain ⟨t,rfl⟩:=rx
  obtain ⟨hy,e'⟩:y.length<=sizeLine/\k=((y.length:Int) != 0):=e
  subst e'
  exact PySem.P.truthy_str (by omega) ⟨H,I.tok _,q⟩
 | byt y =>
  obtain ⟨t,rfl⟩:=rx
  obtain ⟨hy,e'⟩:y.size<=sizeLine/\k=((y.size:Int) != 0):=e
  subst e'
  exact PySem.W.truthy_bytes (by omega) ⟨H,I.tok _,q⟩
 | ref p =>
  cases rx
  have e':(∃ xs,SqL X.K H p xs/\k=!xs.isEmpty)\/(∃ xs,SqT X.K H p xs/\k=!xs.isEmpty)\/∃ kvs,H p=some (.dK kvs)/\k=!kvs.isEmpty:=e
  rcases e' with ⟨xs,hx,e'⟩ | ⟨xs,hx,e'⟩ | ⟨kvs,hx,e'⟩
  ·subst e'
   obtain ⟨its,r,pl,hz⟩:=I.list hx
   have hlen:=r.length
   exact wpAny_truthy_list pl.isList (by simp only [a0i]; omega) ⟨H,I.tok _,by rw [cm r]; exact q⟩
  ·subst e'
   obtain ⟨its,r,pl,hz⟩:=I.tuple hx
   have hlen:=r.length
   exact truthy_tuple pl (by simp only [a0i]; omega) ⟨H,I.tok _,by rw [cm r]; exact q⟩
  ·subst e'
   obtain ⟨hz,hS,vs,r,m⟩:kvs.length<=sizeLine/\(p==sysModules)=false/\∃ vs,KV kvs vs/\s.heap.DictOf (dW X.prog X.w) p vs:=I.hok p _ hx
   have hlen:kvs.length=vs.length:=Paired.length r
   exact wpAny_truthy_dict hS m (by omega) ⟨H,I.tok _,by rw [eO r]; exact q⟩
 | _=>exact (show False from e).elim
theorem jf (ha:PE X a ta)(he:∀ whole,isTrue a X.env whole=(do let v <- whole; standAt a.pos; holding [v] (truthy v))) :
  PT X a (fun σ H Q=>ta σ H fun x H'=>∃ k,rj X.K x H' k/\Q k H'):=by
 intro pins s σ H Q I h
 exact isTrue_plain (thn (ha pins s σ H _ I h) fun v s1 ⟨x,H1,I1,r1,q1⟩=>nN pins s1 σ H1 x v Q I1 r1 q1) (he _)
theorem op_add_str:OpR X (binaryOp .Add) (fun x y H Q=>∃ i j,x=.str i/\y=.str j/\i.length+j.length<=sizeLine/\Q (.str (i++j)) H):=by
 intro pins s σ H x y v u Q I rx ry h
 obtain ⟨i,j,rfl,rfl,hz,q⟩:=h
 obtain ⟨t,rfl⟩:=rx
 obtain ⟨t',rfl⟩:=ry
 exact add_str (fun t' tk=>⟨.str (i++j),H,I.tok _,⟨_,rfl⟩,q⟩) hz
theorem iF {x:V}{us:List Value}(r:Vals [x] us):∃ u,us=[u]/\RelV x u:=by
 cases r with
 | cons r1 r2=>cases r2; exact ⟨_,rfl,r1⟩
theorem t8 {x y:V}{us:List Value}(r:Vals [x,y] us):∃ u w',us=[u,w']/\RelV x u/\RelV y w':=by
 cases r with
 | cons r1 r2 =>
  cases r2 with
  | cons r3 r4=>cases r4; exact ⟨_,_,rfl,r1,r3⟩
theorem iN:dh X (.builtin "abs") (fun xs H Q=>∃ i,xs=[.int i]/\Q (.int (if i < 0 then -i else i)) H):=by
 intro pins s σ H xs us Q I r h
 obtain ⟨i,rfl,q⟩:=h
 obtain ⟨u,rfl,t,rfl⟩:=iF r
 exact call_abs_int fun u tk=>⟨.int (if i < 0 then -i else i),H,I.tok _,⟨_,rfl⟩,q⟩
noncomputable def uY (K:a0a)(x:V)(H:Hp)(n:Nat):Prop :=
 match x with
 | .str y=>y.length<=sizeLine/\n=y.length
 | .byt y=>y.size<=sizeLine/\n=y.size
 | .ref p=>(∃ xs,SqL K H p xs/\n=xs.length)\/∃ xs,SqT K H p xs/\n=xs.length
 | _=>False
theorem ib:dh X (.builtin "len") (fun xs H Q=>∃ x n,xs=[x]/\uY X.K x H n/\Q (.int n) H):=by
 intro pins s σ H xs us Q I r h
 obtain ⟨x,n,rfl,e,q⟩:=h
 obtain ⟨u,rfl,rx⟩:=iF r
 have hl:=cz
 have hs:sizeLine=16777216:=sizeLine_eq
 cases x with
 | str y =>
  obtain ⟨t,rfl⟩:=rx
  obtain ⟨hy,e'⟩:y.length<=sizeLine/\n=y.length:=e
  subst e'
  exact len_str (by omega) ⟨.int _,H,I.tok _,⟨_,rfl⟩,q⟩
 | byt y =>
  obtain ⟨t,rfl⟩:=rx
  obtain ⟨hy,e'⟩:y.size<=sizeLine/\n=y.size:=e
  subst e'
  exact PySem.W.len_bytes (by omega) ⟨.int _,H,I.tok _,⟨_,rfl⟩,q⟩
 | ref p =>
  cases rx
  have e':(∃ xs,SqL X.K H p xs/\n=xs.length)\/∃ xs,SqT X.K H p xs/\n=xs.length:=e
  rcases e' with ⟨xs,hx,e'⟩ | ⟨xs,hx,e'⟩
  ·subst e'
   obtain ⟨its,r',pl,hz⟩:=I.list hx
   have hlen:=r'.length
   exact Calls.call_len_list pl.isList (by simp only [a0i]; omega) ⟨.int xs.length,H,I.tok _,⟨_,by simp only [a0i]; rw [hlen]⟩,q⟩
  ·subst e'
   obtain ⟨its,r',pl,hz⟩:=I.tuple hx
   have hlen:=r'.length
   exact len_tuple pl (by simp only [a0i]; omega) ⟨.int xs.length,H,I.tok _,⟨_,by simp only [a0i]; rw [hlen]⟩,q⟩
 | _=>exact (show False from e).elim
end
end L2
namespace L2
open PySem PySem.Spec PyProof.Rows
structure ObjM (h:Heap)(x dx C:Addr)(mA:Str->Option Value):Prop where
 obj:h.get? x=some (a1E C dx)
 ns:h.Ns1 dx mA
 ne:dx≠x
theorem bR {h:Heap}{dx:Addr}{mA:Str->Option Value}(n:h.Ns1 dx mA):∃ od,h.get? dx=some od/\∀ name,a1R name od=some (mA name):=by
 obtain ⟨o,es,ep,ho,hd,hk,_,hm⟩:=n
 refine ⟨o,ho,fun name=>?_⟩
 have e:=hm name
 unfold nsFind findBy at e
 rw [<- a1X] at e
 unfold a1R
 rw [hd]
 dsimp only
 split
 ·rename_i y q
  rw [q] at e
  exact congrArg some e
 ·rename_i q
  rw [q] at e
  have a:es.toList.any (·.refKey)=false:=by
   rw [List.any_eq_false]
   intro y hy
   obtain ⟨z,t,hkey⟩:=hk y (Array.mem_toList_iff.mp hy)
   simp [DictEntry.refKey,hkey]
  have a':¬ es.toList.any (·.refKey)=true:=by rw [a]; exact a0m
  rw [if_neg a']
  exact congrArg some e
theorem ObjM.look {h:Heap}{x dx C:Addr}{mA:Str->Option Value}(I:ObjM h x dx C mA):∃ od,a0R h x (a1E C dx) C (some od)/\∀ name,a1R name od=some (mA name) :=
 let ⟨od,ho,hl⟩:=bR I.ns
 ⟨od,⟨I.obj,rfl,rfl,ho⟩,hl⟩
noncomputable def tq (f:Str)(v:V):List (Str×V)->List (Str×V)
 | []=>[(f,v)]
 | (g,x)::r=>if g=f then (g,v)::r else (g,x)::tq f v r
theorem RelO.some_of {v:V}{o:Option Value}(r:RelO (some v) o):∃ u,o=some u/\RelV v u:=by
 cases o with
 | none=>exact (show False from r).elim
 | some u=>exact ⟨u,rfl,r⟩
theorem gn {v:V}{u:Value}(r:RelV v u):a2e u=true:=by
 cases v with
 | non=>cases (show u=Value.none from r); rfl
 | bl b=>cases (show u=Value.bool b from r); rfl
 | int i=>obtain ⟨t,e⟩:=(show ∃ t,u=Value.int i t from r); cases e; rfl
 | str x=>obtain ⟨t,e⟩:=(show ∃ t,u=Value.str x t from r); cases e; rfl
 | byt b=>obtain ⟨t,e⟩:=(show ∃ t,u=Value.bytes b t from r); cases e; rfl
 | flt b=>obtain ⟨t,e⟩:=(show ∃ t,u=Value.float b t from r); cases e; rfl
 | ref a=>cases (show u=Value.ref a from r); rfl
 | ty n=>cases (show u=Value.type n from r); rfl
section
variable {P:Program}{w:World}{H H':Hp}{h h':Heap}{a C dx:Addr}{fs fs':List (Str×V)}
theorem lE (hok:HOk P w H h)(e:H a=some (.ins C dx fs)):∃ mA,ObjM h a dx C mA/\(∀ f,RelO (fs.lookup f) (mA f))/\a2E mA (fs.map (·.1))/\fs.length<=1000/\H dx=some (.own a):=by
 obtain ⟨d,z,ne,ob,mA,n,r,q⟩:=(show ObjOk P w H h a (.ins C dx fs) from hok a _ e)
 exact ⟨mA,⟨ob,n,ne⟩,r,q,z,d⟩
end
structure Cls (K:a0a)(C:Addr):Prop where
 pg:a2f K C Str.empty=true
 hd:a0I K C=true
 po:PySem.W.plainOver K C=true
 sa:a0l K (.ref C) "__setattr__"=some (some (.builtin "object.__setattr__"))
theorem Cls.get {K:a0a}{C:Addr}(c:Cls K C)(f:Str):a2f K C f=true:=c.pg
section
variable {X:Cx}{pins:List (Addr×Obj)}{σ:St}{H:Hp}{s:Shared}{a C dx:Addr}{fs:List (Str×V)}{f:Str}{v:V}{A:Around}{E:Value->Shared->Prop}
theorem kR {prog:Program}{w:World}{env:Env}{e:Expr}{f:Str}{pos:Pos}{s:Shared}{Q:Value->Shared->Prop}(hb:attributeBase e f env (eval e env)=eval e env)
  (h:wpAny (model prog w) A (eval e env) (fun o s₁=>wpAny (model prog w) A (getAttr o f true) Q E s₁) E s):wpAny (model prog w) A (eval (.Attribute e f pos) env) Q E s :=
 Attribute_any_ h (by rw [arm_eval_Attribute,hb])
end
section
variable {X:Cx}{pins:List (Addr×Obj)}{σ:St}{H:Hp}{s:Shared}{A:Around}{E:Value->Shared->Prop}{Q:Value->Shared->Prop}{c:Value}{b:Bool}
inductive b5 (K:a0a)(H:Hp):V->Value->Prop where
 | non:b5 K H .non (.type "NoneType")
 | bl (x:Bool):b5 K H (.bl x) (.type "bool")
 | int (i:Int):b5 K H (.int i) (.type "int")
 | str (x:Str):b5 K H (.str x) (.type "str")
 | flt (x:UInt64):b5 K H (.flt x) (.type "float")
 | lst {a:Addr} {xs:List V} (e:H a=some (.lst xs)):b5 K H (.ref a) (.type "list")
 | frz {a:Addr} {o:Obj} {xs:List V} (e:H a=some (.frz o (.lst xs))):b5 K H (.ref a) (.type "list")
 | tup {a:Addr} {xs:List V} (e:H a=some (.tup xs)):b5 K H (.ref a) (.type "tuple")
 | dK {a:Addr} {kvs:List (Key×V)} (e:H a=some (.dK kvs)):b5 K H (.ref a) (.type "dict")
 | dT {a:Addr} {kvs:List (List Key×V)} (e:H a=some (.dT kvs)):b5 K H (.ref a) (.type "dict")
 | ins {a C dx:Addr} {fs:List (Str×V)} (e:H a=some (.ins C dx fs)) (cl:Cls K C) (ha:a0l K (.ref C) "__class__"=some (some (.builtin "object.__class__")))
   (hn:a0S K (.builtin "object.__class__") "__get__"=some (some (.builtin "getset_descriptor.__get__"))) (htk:a07 K (.builtin "object.__class__")=some true)
   (hm:a08 K C (.type "object")=some true):b5 K H (.ref a) (.ref C)
theorem gO {x:V}{u t:Value}(I:Inv X pins σ H s)(rx:RelV x u)(ty:b5 X.K H x t)(e:a0E X.K t c=some b)(h:∀ tk,Q (.bool b) { s with toks:=tk }) :
  wpAny (model X.prog X.w) A (call (.builtin "isinstance") [u,c]) Q E s:=by
 cases ty with
 | non=>cases (show u=Value.none from rx); exact a0z PySem.W.kitx_none I.kIn a06 e (fun z=>nomatch z) h
 | bl y=>cases (show u=Value.bool y from rx); exact a0z PySem.W.kitx_bool I.kIn a06 e (fun z=>nomatch z) h
 | int i=>obtain ⟨t,q⟩:=(show ∃ t,u=Value.int i t from rx); cases q; exact a0z PySem.W.kitx_int I.kIn a06 e (fun z=>nomatch z) h
 | str y=>obtain ⟨t,q⟩:=(show ∃ t,u=Value.str y t from rx); cases q; exact a0z PySem.W.kitx_str I.kIn a06 e (fun z=>nomatch z) h
 | flt y=>obtain ⟨t,q⟩:=(show ∃ t,u=Value.float y t from rx); cases q; exact a0z PySem.W.kitx_float I.kIn a06 e (fun z=>nomatch z) h
 | @lst a xs ea =>
  cases (show u=Value.ref a from rx)
  obtain ⟨_,_,n,_,h1⟩:=(show ObjOk X.prog X.w H s.heap a (.lst xs) from I.hok a _ ea)
  exact a0z a18 I.kIn ⟨_,h1,rfl⟩ e (fun z=>nomatch z) h
 | @frz a ob xs ea =>
  cases (show u=Value.ref a from rx)
  obtain ⟨_,_,_,n,_,h1⟩:=(show ObjOk X.prog X.w H s.heap a (.frz ob (.lst xs)) from I.hok a _ ea)
  exact a0z a18 I.kIn ⟨_,h1,rfl⟩ e (fun z=>nomatch z) h
 | @tup a xs ea =>
  cases (show u=Value.ref a from rx)
  obtain ⟨_,_,_,p⟩:=(show ObjOk X.prog X.w H s.heap a (.tup xs) from I.hok a _ ea)
  obtain ⟨o,h1,h2,_⟩:=p
  exact a0z PySem.W.kitx_tuple I.kIn ⟨o,h1,h2⟩ e (fun z=>nomatch z) h
 | @dK a kvs ea =>
  cases (show u=Value.ref a from rx)
  obtain ⟨_,_,vs,_,p⟩:=(show ObjOk X.prog X.w H s.heap a (.dK kvs) from I.hok a _ ea)
  obtain ⟨o,es,ep,h1,h2,_⟩:=p
  exact a0z a19 I.kIn ⟨o,h1,h2.1⟩ e (fun z=>nomatch z) h
 | @dT a kvs ea =>
  cases (show u=Value.ref a from rx)
  obtain ⟨_,_,xs,_,o,es,ep,h1,h2,_⟩:=(show ObjOk X.prog X.w H s.heap a (.dT kvs) from I.hok a _ ea)
  exact a0z a19 I.kIn ⟨o,h1,h2.1⟩ e (fun z=>nomatch z) h
 | @ins a C dx fs ea cl ha hn htk hm =>
  cases (show u=Value.ref a from rx)
  obtain ⟨mA,O,_⟩:=lE I.hok ea
  obtain ⟨od,J,_⟩:=O.look
  exact a0z (PySem.W.kitx_own (cl.get _) cl.hd ha hn htk hm) I.kIn J e (fun z=>nomatch z) h
end
end L2
namespace L2
open PySem PySem.Spec PyProof.Rows
structure Room (k:Nat)(A:Around):Prop where
 hd:A.handled=none
 dp:A.depth+3 * k+5 < recursionLimit
 un:A.units+16 * k+200 < cLine
 gu:A.guards=some []
theorem Room.deeper {k:Nat}{A:Around}(r:Room (k+1) A)(env:Env):Room k (A.deeper env) :=
 ⟨r.hd,by have:=r.dp; show A.depth+1+3 * k+5 < _; omega,by have:=r.un; show A.units+3+16 * k+200 < _; omega,r.gu⟩
theorem fw {A:Around}{C:Addr}{us:List Value}{kw:List (Str×Value)}:(A.under (.builtin "type.__call__" ⟨.ref C::us,kw⟩)).depth=A.depth+1:=by
 first | rfl | simp [Around.under,Code.weight,Code.isCreation,Code.isGuard,Code.isCaller,Code.frames,Code.isFrame,guardIds]
theorem fA {A:Around}{C:Addr}{us:List Value}{kw:List (Str×Value)}:(A.under (.builtin "type.__call__" ⟨.ref C::us,kw⟩)).units=A.units+1:=by
 first | rfl | simp [Around.under,Code.cUnits,Code.frames,Code.isFrame]
theorem make_guards {A:Around}{C:Addr}{us:List Value}{kw:List (Str×Value)}:(A.under (.builtin "type.__call__" ⟨.ref C::us,kw⟩)).guards=A.guards:=by
 first | rfl | simp [Around.under,Code.isGuard,guardIds]
theorem Room.make {k:Nat}{A:Around}(r:Room (k+1) A)(C:Addr)(us:List Value)(kw:List (Str×Value)):Room k (A.under (.builtin "type.__call__" ⟨.ref C::us,kw⟩)) :=
 ⟨r.hd,by have:=r.dp; rw [fw]; omega,by have:=r.un; rw [fA]; omega,make_guards.trans r.gu⟩
theorem Room.depth {k:Nat}{A:Around}(r:Room k A):A.depth < recursionLimit:=by have:=r.dp; omega
theorem Room.units {k:Nat}{A:Around}(r:Room k A):A.units+64 < cLine:=by have:=r.un; omega
noncomputable def oS:TA:=fun _ H Q=>Q [] H
noncomputable def jI (ta:TE)(tr:TA):TA:=fun σ H Q=>ta σ H fun x H1=>tr σ H1 fun xs H2=>Q (x::xs) H2
section
variable {X:Cx}{e:Expr}{es:List Expr}{te:TE}{t:TA}{pos:Pos}
theorem aY:PA X [] oS:=fun _ _ _ _ H Q I h=>Calls.spliced_nil ⟨[],H,I,.nil,h⟩
theorem ax (ha:PE X e te)(hr:PA X es t)(hs:starEach (e::es) X.env=(false,eval e X.env)::starEach es X.env:=by rfl):PA X (e::es) (jI te t):=by
 intro pos pins s σ H Q I h
 rw [hs]
 show wpAny _ _ (spliced ((false,eval e X.env)::backTo pos (starEach es X.env))) _ _ s
 refine Calls.spliced_cons (thn (ha pins s σ H _ I h) fun u s1 ⟨x,H1,I1,r1,q1⟩=>?_)
 exact thn (hr pos pins s1 σ H1 _ I1 q1) fun us s2 ⟨xs,H2,I2,r2,q2⟩=>⟨x::xs,H2,I2,.cons r1 r2,q2⟩
noncomputable def uQ (t:TA):TE:=fun σ H Q=>t σ H fun xs H1=>xs.length<=sizeLine/\∀ p,H1 p=none->Q (.ref p) (upd H1 p (.lst xs))
theorem oV (h:PA X es t):PE X (.List es pos) (uQ t):=by
 intro pins s σ H Q I hq
 refine wpAny_List_spliced (thn (h pos pins s σ H _ I hq) fun us s1 ⟨xs,H1,I1,r,z,q⟩=>⟨by rw [<- r.length]; exact z,?_⟩)
 have hf:H1 s1.heap.objs.size=none:=I1.hok.fresh (a0j _)
 refine ⟨.ref s1.heap.objs.size,upd H1 s1.heap.objs.size (.lst xs),I1.laid (t':=s1.toks) (fun b u e=>Heap.get?_push_of_some _ e) (a0j _) ?_,rfl,q _ hf⟩
 exact ⟨z,us,0,r,Heap.get?_push_size _ rfl⟩
end
noncomputable abbrev Sp:=List V->Hp->VK->XK->Prop
noncomputable abbrev CXT:=List Env->Hp->Shared->XK->Value->Shared->Prop
structure Env0 (P:Program)(w:World)(K:a0a)(mg:Str->Option Value)(base:Heap)(A:Around)(outer:List Env)(s:Shared)(H:Hp):Prop where
 frames:A.frames=some outer
 mod:Mod K mg base
 bs:∀ b o,base.get? b=some o->s.heap.get? b=some o/\H b=none
 bsz:base.objs.size<=s.heap.objs.size
 funs:s.heap.FunFrames base outer
 frf:∀ b∈frs outer,H b=none
 hok:HOk P w H s.heap
 bare:AllBare s.gens
noncomputable def CE (outer:List Env)(P:Program)(w:World)(H:Hp)(s:Shared)(Q:VK)(u:Value)(s':Shared):Prop :=
 ∃ v H',s'.os=s.os/\AllBare s'.gens/\Un (frs outer) [] H H' s.heap s'.heap/\HOk P w H' s'.heap/\RelV v u/\Q v H'
noncomputable def CR (CX:CXT)(outer:List Env)(P:Program)(w:World)(H:Hp)(s:Shared)(Q:VK)(E:XK)(r:Result)(s':Shared):Prop :=
 match r with
 | .ok (.ret u)=>CE outer P w H s Q u s'
 | .ok _=>False
 | .error e=>CX outer H s E e s'
structure aS (P:Program)(w:World)(K:a0a)(mg:Str->Option Value)(base:Heap)(CX:CXT)(k:Nat)(f:Addr)(fd:FuncData)(ps:List Str)(sp:Sp):Prop where
 len:∀ vs H Q E,sp vs H Q E->vs.length=ps.length
 run:∀ (A:Around) (outer:List Env) (s:Shared) (H:Hp) (args:Args) (us:List Value) (vs:List V) (Q:VK) (E:XK),Room k A->Env0 P w K mg base A outer s H->BindsTo s fd args (ps.zip us)->Vals vs us->sp vs H Q E ->
  codeAny (model P w) A (.call (.ref f) args) (CR CX outer P w H s Q E) s
theorem Env0.make {P:Program}{w:World}{K:a0a}{mg:Str->Option Value}{base:Heap}{A:Around}{outer:List Env}{s:Shared}{H:Hp}(e:Env0 P w K mg base A outer s H)(C:Addr)(us:List Value)(kw:List (Str×Value)) :
  Env0 P w K mg base (A.under (.builtin "type.__call__" ⟨.ref C::us,kw⟩)) outer s H:=⟨by first | exact e.frames | (simpa [Around.under,Code.envs,Code.isFrame,pushEnvs] using e.frames),e.mod,e.bs,e.bsz,e.funs,e.frf,e.hok,e.bare⟩
section
variable {X:Cx}{pins:List (Addr×Obj)}{σ:St}{H:Hp}{s s':Shared}
theorem Inv.env0 (I:Inv X pins σ H s):Env0 X.prog X.w X.K X.mg X.base X.A X.stack s H :=
 ⟨I.ok.frames,I.ok.mod,I.bs,a0k I.ok.bsz I.sz,I.stack,I.stkFree,I.hok,I.bare⟩
theorem Inv.after {Q:VK}{u:Value}(I:Inv X pins σ H s)(h:CE X.stack X.prog X.w H s Q u s'):EP X pins σ Q u s':=by
 obtain ⟨v,H',os,bare,un,hok,r,q⟩:=h
 obtain ⟨hh,g,d,t,os'⟩:=s'
 obtain rfl:os'=s.os:=os
 exact ⟨v,H',I.call (h':=hh) (g':=g) (d':=d) (t':=t) (ch:=[]) un hok bare (fun b z=>absurd z (by simp)),r,q⟩
end
noncomputable def tN (sp:Sp)(dvs:List V)(E:XK)(t:TA):TE:=fun σ H Q=>t σ H fun vs H1=>sp (vs++dvs) H1 Q E
noncomputable def Binds (K:a0a)(fd:FuncData)(ps:List Str)(ds:List Value):Prop :=
 ∀ (s:Shared) (us:List Value),K.In s.heap->(us++ds).length=ps.length->BindsTo s fd ⟨us,[]⟩ (ps.zip (us++ds))
theorem Binds.all {K:a0a}{fd:FuncData}{ps:List Str}(h:∀ us:List Value,us.length=ps.length->bindArgs fd ⟨us,[]⟩=pure (ps.zip us)):Binds K fd ps []:=fun s us _ hl=>by
 rw [a0B] at hl ⊢
 exact .of_eq (h us hl)
noncomputable def cA (CX:CXT)(X:Cx)(E:XK):Prop:=∀ (pins:List (Addr×Obj)) (σ:St) (H:Hp) (s:Shared) (e:Value) (s':Shared),Inv X pins σ H s->CX X.stack H s E e s'->X.xe e s'
section
variable {X:Cx}{CX:CXT}{k:Nat}{f C:Addr}{fd:FuncData}{ps:List Str}{sp:Sp}{dvs:List V}{ds:List Value}{E:XK}{x m:Str}{p pos apos:Pos}{e o:Expr}{es:List Expr}{ta:TE}{t:TA}
theorem qj {pins:List (Addr×Obj)}{σ:St}{H:Hp}{s:Shared}{Q:VK}{us:List Value}{vs:List V}(F:aS X.prog X.w X.K X.mg X.base CX k f fd ps sp)(hr:Room k X.A)(hb:Binds X.K fd ps ds)(hd:Vals dvs ds)(hx:cA CX X E)
  (I:Inv X pins σ H s) (r:Vals vs us) (h:sp (vs++dvs) H Q E):wpAny (model X.prog X.w) X.A (call (.ref f) us) (EP X pins σ Q) X.xe s:=by
 have r2:Vals (vs++dvs) (us++ds):=r.append hd
 have hl:(us++ds).length=ps.length:=by rw [<- r2.length]; exact F.len _ _ _ _ h
 refine wpAny_call (codeAny_mono (F.run X.A X.stack s H ⟨us,[]⟩ (us++ds) (vs++dvs) Q E hr I.env0 (hb s us I.kIn hl) r2 h) fun r s' hq=>?_)
 cases r with
 | error e=>exact hx pins σ H s e s' I hq
 | ok fl =>
  cases fl with
  | ret u=>exact I.after hq
  | next=>exact a0O hq
  | brk=>exact a0O hq
  | cont=>exact a0O hq
theorem mP (F:aS X.prog X.w X.K X.mg X.base CX k f fd ps sp)(hr:Room k X.A)(hg:Gl X x)(hm:X.mg x=some (.ref f))(hk:a0W X.K (.ref f)=true)(hb:Binds X.K fd ps ds)(hd:Vals dvs ds)(hx:cA CX X E)
  (ha:PA X (e::es) t) (hdb:(x==("__debug__":Str))=false:=by decide) (he:starEach (e::es) X.env=(false,eval e X.env)::starEach es X.env:=by rfl) (hpl:(backTo pos (starEach es X.env)).any (·.1)=false:=by rfl) :
  PE X (.Call (.Name x p) (e::es) [] pos) (tN sp dvs E t):=by
 intro pins s σ H Q I h
 refine wpAny_Call_Name_kw (cj I hg hm ?_ hdb)
 refine a1Y (h₀:=X.base) I.ok.mod.kin hk (thn (ha pos pins s σ H _ I h) fun us s1 ⟨vs,H1,I1,r,q⟩=>⟨I1.kIn,?_⟩) he hpl
 exact qj F hr hb hd hx I1 r q
end
structure aD (N P:List Str)(sc:Scope):Prop where
 kind:sc.kind=.function
 co:sc.isCoroutine=false
 gen:sc.isGenerator=false
 nd:N.Nodup
 pre:N.take P.length=P
 par:∀ x∈P,sc.names.lookup x=some .local\/sc.names.lookup x=some .cell
 nofree:∀ y∈sc.names,y.2≠.free
theorem df {kindOf:Str->Option NameKind}{x:Str}:∀ {binds:List (Str×Value)} {m:Str->Option Value},(∀ v,(x,v) ∉ binds)->bindL kindOf binds m x=m x
 | [],_,_=>rfl
 | (n,v)::r,m,h=>by
  unfold bindL
  rw [df fun w hw=>h w (a0f _ hw)]
  split
  ·have:x≠n:=by rintro rfl; exact h v a0e
   simp [this]
  ·rfl
theorem cX {kindOf:Str->Option NameKind}{x:Str}:∀ {binds:List (Str×Value)} {m:Str->Option Value},(∀ v,(x,v) ∉ binds)->bindC kindOf binds m x=m x
 | [],_,_=>rfl
 | (n,v)::r,m,h=>by
  unfold bindC
  rw [cX fun w hw=>h w (a0f _ hw)]
  split
  ·rfl
  ·have:x≠n:=by rintro rfl; exact h v a0e
   simp [this]
theorem dk {kindOf:Str->Option NameKind}{x:Str}{v:Value}:∀ {P:List Str} {vs:List Value} {i:Nat} {m:Str->Option Value},P.Nodup->P[i]?=some x->vs[i]?=some v->kindOf x=some .local ->
  bindL kindOf (P.zip vs) m x=some v
 | [],_,_,_,_,h,_,_=>by simp at h
 | _::_,[],_,_,_,_,h,_=>by simp at h
 | p::P,w::vs,0,m,nd,h1,h2,hk=>by
  simp at h1 h2; subst h1; subst h2
  show bindL kindOf ((p,w)::P.zip vs) m p=_
  unfold bindL
  rw [df fun v hv=>(a0Z.mp nd).1 (a1H hv).1,if_pos hk]
  simp
 | p::P,w::vs,i+1,m,nd,h1,h2,hk=>by
  show bindL kindOf ((p,w)::P.zip vs) m x=_
  unfold bindL
  exact dk (i:=i) (a0Z.mp nd).2 (by simpa using h1) (by simpa using h2) hk
theorem dj {kindOf:Str->Option NameKind}{x:Str}{v:Value}:∀ {P:List Str} {vs:List Value} {i:Nat} {m:Str->Option Value},P.Nodup->P[i]?=some x->vs[i]?=some v->kindOf x≠some .local ->
  bindC kindOf (P.zip vs) m x=some v
 | [],_,_,_,_,h,_,_=>by simp at h
 | _::_,[],_,_,_,_,h,_=>by simp at h
 | p::P,w::vs,0,m,nd,h1,h2,hk=>by
  simp at h1 h2; subst h1; subst h2
  show bindC kindOf ((p,w)::P.zip vs) m p=_
  unfold bindC
  rw [cX fun v hv=>(a0Z.mp nd).1 (a1H hv).1,if_neg hk]
  simp
 | p::P,w::vs,i+1,m,nd,h1,h2,hk=>by
  show bindC kindOf ((p,w)::P.zip vs) m x=_
  unfold bindC
  exact dj (i:=i) (a0Z.mp nd).2 (by simpa using h1) (by simpa using h2) hk
noncomputable def start (N:List Str)(vs:List V):St:=vs.map some++a0b (N.length-vs.length) none
noncomputable def dF (CX:CXT)(P:Program)(w:World)(K:a0a)(mg:Str->Option Value)(base:Heap)(N:List Str)(qual:Str)(scope:Scope)(f:Addr)(cd:Value)(A:Around)(outer:List Env)(s:Shared)(H:Hp)(E:XK):Cx where
 prog:=P
 w:=w
 K:=K
 mg:=mg
 base:=base
 A:=A.deeper (envOfC qual scope s.heap.objs.size f cd)
 N:=N
 s₀:=s
 H₀:=H
 env:=envOfC qual scope s.heap.objs.size f cd
 outer:=outer
 stack:=envOfC qual scope s.heap.objs.size f cd::outer
 ex:=[]
 calm:=true
 fn:=fun _=>true
 pn:=[]
 xe:=fun e s'=>wpAny (model P w) (A.deeper (envOfC qual scope s.heap.objs.size f cd)) (leaving (envOfC qual scope s.heap.objs.size f cd) e) (fun _ s''=>CX outer H s E e s'') (fun e' s''=>CX outer H s E e' s'') s'
theorem eg {sc:Scope}{n:Nat}{x:Str}(h:sc.names.lookup x=some .cell):∃ c,(cellsFrom n sc.names []).lookup x=some c:=by
 have q:=a1C sc.names n [] (.inl h)
 exact a1v.mp q
theorem gH {CX:CXT}{P:Program}{w:World}{K:a0a}{mg:Str->Option Value}{base:Heap}{N ps:List Str}{qual:Str}{scope:Scope}{f:Addr}{cd:Value}{A:Around}{outer:List Env}{s s1:Shared}{H:Hp}{E:XK}{us:List Value}{vs:List V}
  (S:aD N ps scope) (hd:A.handled=none) (e0:Env0 P w K mg base A outer s H) (hl:vs.length=ps.length) (r:Vals vs us)
  (x:InCallC s s.heap.objs.size (bindL (envOfC qual scope s.heap.objs.size f cd).kindOf (ps.zip us) fun _=>none) (cellsFrom (s.heap.objs.size+1) scope.names []) (bindC (envOfC qual scope s.heap.objs.size f cd).kindOf (ps.zip us) fun _=>none) s1) :
  Inv (dF CX P w K mg base N qual scope f cd A outer s H E) [] (start N vs) H s1:=by
 have hpl:ps.length<=N.length:=by have:=congrArg List.length S.pre; rw [a0U] at this; omega
 obtain ⟨h1,tk,rfl,hk⟩:=x.done
 have noA:∀ b:Addr,b ∉ (dF CX P w K mg base N qual scope f cd A outer s H E).ex:=fun b z=>absurd (show b∈([]:List Addr) from z) (by simp)
 refine ⟨⟨e0.mod,S.kind,rfl,rfl,a0j _,fun y z c h1 h2=>?_,fun y hy=>?_,fun y c _ h=>?_,fun _=>hd,Around.frames_deeper e0.frames,.inr ⟨rfl,rfl⟩,fun b z=>absurd z (noA b),e0.bs,e0.bsz,fun b _ _=>noA b,fun b z=>absurd z (noA b),e0.funs,e0.frf⟩,
  rfl,e0.bare,Un.kept hk,⟨_,x.toInCall.ns,fun i y v h1 h2 h3=>?_⟩,fun y c h=>⟨_,x.cell y c h⟩,e0.hok.fresh (a0j _),fun y c h=>?_,fun p hp=>absurd (show p∈([]:List (Addr×Obj)) from hp) (by simp),e0.hok.kept hk,?_⟩
 ·exact name_of_addr x.apart (a0P h1) (a0P h2)
 ·have hy:scope.names.lookup y=some .cell\/scope.names.lookup y=some .free:=hy
  rcases hy with hy | hy
  ·exact eg hy
  ·exact absurd rfl (S.nofree _ (a0P hy))
 ·exact a1F (x.above y c (a0P h))
 ·have hi:i < vs.length:=by
   unfold start at h2
   by_cases hi:i < vs.length
   ·exact hi
   ·rw [a0F (by simpa using hi)] at h2
    rw [a09] at h2
    split at h2<;>cases h2
  have ha:vs[i]?=some v:=by
   unfold start at h2
   rw [a0J (by simpa using hi),a0w] at h2
   cases e:vs[i]? with
   | none=>rw [e] at h2; cases h2
   | some a=>rw [e] at h2; cases h2; rfl
  obtain ⟨u,hu,rv⟩:=r.get ha
  have hp:ps[i]?=some y:=by
   rw [<- S.pre,List.getElem?_take_of_lt (by omega)]; exact h1
  have ndP:ps.Nodup:=by rw [<- S.pre]; exact S.nd.sublist (List.take_sublist _ _)
  refine ⟨u,rv,?_⟩
  rcases S.par y (a04 hp) with k | k
  ·exact .inl ⟨k,dk ndP hp hu k⟩
  ·obtain ⟨c,e⟩:=eg (n:=s.heap.objs.size+1) k
   refine .inr ⟨.inl k,c,e,?_⟩
   have q:=x.cell y c e
   rw [dj ndP hp hu (by show scope.names.lookup y≠_; rw [k]; decide)] at q
   exact q
 ·exact e0.hok.fresh (a1F (x.above y c (a0P h)))
 ·unfold start
  show _=N.length
  rw [a0t,a0g,a0A]
  omega
theorem uU {CX:CXT}{P:Program}{w:World}{K:a0a}{mg:Str->Option Value}{base:Heap}{k:Nat}{f:Addr}{name qual:Str}{params:Arguments}{body:List Stmt}{scope:Scope}{dV kV doc pm cdv ct oc:Value}{an od:Option Addr}
  {osl:Array (Option Value)} {N ps:List Str} {sp:Sp} (lk:K.lookup f=some ⟨oc,od,.func (a0r name qual params body scope dV kV doc pm an cdv ct),osl⟩) (hcd:a1s K cdv qual=true) (S:aD N ps scope)
  (len:∀ vs H Q E,sp vs H Q E->vs.length=ps.length)
  (hbody:∀ (A:Around) (outer:List Env) (s:Shared) (H:Hp) (vs:List V) (Q:VK) (E:XK),Room k (A.deeper (envOfC qual scope s.heap.objs.size f cdv))->sp vs H Q E ->
   ∃ t,PSs (dF CX P w K mg base N qual scope f cdv A outer s H E) body t/\t { nx:=fun _ H'=>Q .non H',rt:=Q } (start N vs) H) :
  aS P w K mg base CX (k+1) f (a0r name qual params body scope dV kV doc pm an cdv ct) ps sp:=by
 refine ⟨len,fun A outer s H args us vs Q E hr e0 hb r hsp=>?_⟩
 have hl:=len _ _ _ _ hsp
 have KX:K.In s.heap:=e0.mod.kin.keeps fun b o e=>(e0.bs b o e).1
 have lim:s.heap.NoLimit:=e0.mod.nolimit.keeps fun b o e=>(e0.bs b o e).1
 have hkind:∀ y∈ps.zip us,scope.names.lookup y.1=some .local\/(scope.names.lookup y.1=some .cell/\((cellsFrom (s.heap.objs.size+1) scope.names []).lookup y.1).isSome=true):=fun ⟨n,v⟩ hy=>by
  rcases S.par n (a1H hy).1 with q | q
  ·exact .inl q
  ·exact .inr ⟨q,a1C _ _ _ (.inl q)⟩
 refine codeAny_call_function hr.depth (KX _ _ lk) rfl S.co S.gen rfl (PySem.W.codeRec_of KX hcd) (hb _ _ _ _ ?_)
 refine wpAny_newFunctionEnv_cells S.kind hkind fun env he s1 x=>?_
 subst he
 refine ⟨lim.keeps x.toInCall.keep,codeAny_func ?_⟩
 obtain ⟨t,ht,hq⟩:=hbody A outer s H vs Q E (hr.deeper _) hsp
 have I:Inv (dF CX P w K mg base N qual scope f cdv A outer s H E) [] (start N vs) H s1:=gH S hr.hd e0 hl r x
 refine wpAny_mono (ht [] s1 (start N vs) H _ I hq) (fun fl s' hs=>?_) fun e s' hs=>hs
 have fin:∀ {σ':St} {H':Hp} {v:V} {u:Value},Inv (dF CX P w K mg base N qual scope f cdv A outer s H E) [] σ' H' s'->RelV v u->Q v H'->CE outer P w H s Q u s' :=
  fun {σ' H' v u} J rv q=>⟨v,H',J.os,J.bare,J.base,J.hok,rv,q⟩
 cases fl with
 | ret u =>
  obtain ⟨v,σ',H',J,rv,q⟩:=hs
  exact fin J rv q
 | next =>
  obtain ⟨σ',H',J,q⟩:=hs
  exact fin (v:=V.non) (u:=Value.none) J rfl q
 | brk =>
  obtain ⟨_,_,_,q⟩:=hs
  exact a0O q
 | cont =>
  obtain ⟨_,_,_,q⟩:=hs
  exact a0O q
end L2
namespace L2
open PySem PySem.Spec PyProof.Rows
section
variable {X:Cx}{x:Str}{p pos:Pos}{e:Expr}{es:List Expr}{t:TA}{id T:String}{r:List V->Hp->VK->Prop}
noncomputable def tCB (r:List V->Hp->VK->Prop)(t:TA):TE:=fun σ H Q=>t σ H fun vs H1=>r vs H1 Q
theorem cF (hc:dh X (.builtin id) r)(hg:Gl X x)(hm:X.mg x=none)(hv:bootBuiltins x=some (.builtin id))(ha:PA X (e::es) t)(hn:x≠"__name__":=by decide)(hdb:(x==("__debug__":Str))=false:=by decide)
  (he:starEach (e::es) X.env=(false,eval e X.env)::starEach es X.env:=by rfl) (hpl:(backTo pos (starEach es X.env)).any (·.1)=false:=by rfl):PE X (.Call (.Name x p) (e::es) [] pos) (tCB r t):=by
 intro pins s σ H Q I h
 refine wpAny_Call_Name_kw (dG I hg hm hv ?_ hn hdb)
 exact a1i (thn (ha pos pins s σ H _ I h) fun us s1 ⟨vs,H1,I1,r1,q1⟩=>hc pins s1 σ H1 vs us Q I1 r1 q1) he hpl
theorem gz (hc:dh X (.type T) r)(hg:Gl X x)(hm:X.mg x=none)(hv:bootBuiltins x=some (.type T))(ha:PA X (e::es) t)(hn:x≠"__name__":=by decide)(hdb:(x==("__debug__":Str))=false:=by decide)
  (he:starEach (e::es) X.env=(false,eval e X.env)::starEach es X.env:=by rfl) (hpl:(backTo pos (starEach es X.env)).any (·.1)=false:=by rfl):PE X (.Call (.Name x p) (e::es) [] pos) (tCB r t):=by
 intro pins s σ H Q I h
 refine wpAny_Call_Name_kw (dG I hg hm hv ?_ hn hdb)
 exact a1o (thn (ha pos pins s σ H _ I h) fun us s1 ⟨vs,H1,I1,r1,q1⟩=>hc pins s1 σ H1 vs us Q I1 r1 q1) he hpl
end
end L2
namespace HT
open PySem PyProof.Rows
section
variable {prog:Program}{w:World}{A:Around}{E:Value->Shared->Prop}{s:Shared}
theorem cat_tup {t b:Addr}{vs ws:List Value}{Q:Value->Shared->Prop}(ht:IsTup s.heap t vs.toArray)(hb:IsTup s.heap b ws.toArray)(hv:vs≠[])
  (h1:ws=[]->Q (.ref t) s) (h2:ws≠[]->Q (.ref s.heap.objs.size) { s with heap:=s.heap.push { cls:=.type "tuple",data:=.seq (vs++ws).toArray } })
  (hsz:vs.length+ws.length<=sizeLine):wpAny (model prog w) A (binaryOp .Add (.ref t) (.ref b)) Q E s:=by
 obtain ⟨⟨cls,dd,data,sl⟩,ho,hc,n,hd⟩:=id ht
 obtain ⟨⟨cls2,dd2,data2,sl2⟩,ho2,hc2,n2,hd2⟩:=id hb
 simp only at hc hd hc2 hd2
 subst hc hd hc2 hd2
 have e:vs.toArray++ws.toArray=(vs++ws).toArray:=by simp
 by_cases hw:ws=[]
 ·exact concat_meets ⟨_,ho,rfl⟩ ⟨_,ho2,rfl⟩ noFill_tuple_add seq_tuple_add a1D a1y (a1w _ _)
   (tuple_addW1 t b vs.toArray ws.toArray n n2 dd dd2 sl sl2 (by simpa using hv) (by simp [hw])) ⟨ho,ho2,h1 hw⟩
 ·refine concat_meets ⟨_,ho,rfl⟩ ⟨_,ho2,rfl⟩ noFill_tuple_add seq_tuple_add a1D a1y (a1w _ _)
   (tuple_addW2 t b vs.toArray ws.toArray n n2 dd dd2 sl sl2 (by simpa using hv) (by simpa using hw) (by rw [a0i,a0i]; exact hsz)) ⟨ho,ho2,?_⟩
  rw [e]
  exact h2 hw
noncomputable def sIx (n d:Nat):Option Int->Nat
 | none=>d
 | some v=>if v < 0 then (v+(n:Int)).toNat else min v.toNat n
theorem ou (n d:Nat)(hd:d<=n)(o:Option Int):sIx n d o<=n:=by
 cases o with
 | none=>exact hd
 | some v =>
  show (if v < 0 then (v+(n:Int)).toNat else min v.toNat n)<=n
  by_cases hv:v < 0
  ·rw [if_pos hv]; omega
  ·rw [if_neg hv]; exact Nat.min_le_right _ _
theorem fL (v:Int)(n d:Nat):(if v < 0 then max (v+(n:Int)) 0 else min v (n:Int))=((sIx n d (some v):Nat):Int):=by
 show (if v < 0 then max (v+(n:Int)) 0 else min v (n:Int))=(((if v < 0 then (v+(n:Int)).toNat else min v.toNat n):Nat):Int)
 by_cases hv:v < 0
 ·simp only [if_pos hv]; omega
 ·simp only [if_neg hv]; omega
theorem fg (lo hi:Option Int)(n:Nat):Builtin.Slice.sliceAdjust lo hi 1 (n:Int)=(((sIx n 0 lo:Nat):Int),((sIx n n hi:Nat):Int)):=by
 have h1:¬ ((1:Int) < 0):=by omega
 unfold Builtin.Slice.sliceAdjust
 simp only [h1,if_false]
 refine Prod.ext ?_ ?_
 ·cases lo with
  | none=>rfl
  | some v=>exact fL v n 0
 ·cases hi with
  | none=>rfl
  | some v=>exact fL v n n
theorem eV (i j:Nat):Builtin.Slice.slicePlaces (i:Int) (j:Int) 1=j-i:=by
 unfold Builtin.Slice.slicePlaces
 have h1:(1:Int) > 0:=by omega
 simp only [h1,if_true,Int.ediv_one]
 split<;>omega
theorem cP {v:Value}{o:Option Int}{Q:Option Int->Shared->Prop}(p:IsPart v o)(h:Q o s):wpAny (model prog w) A (Builtin.Slice.slicePartIndex v) Q E s:=by
 cases p with
 | none=>exact slicePart_none h
 | int i t=>exact slicePart_int h
theorem sliceApplied_gen {sl:Addr}{vl vu:Value}{lo hi:Option Int}{n:Nat}{Q:Int×Int×Nat->Shared->Prop}(hs:s.heap.IsSliceOf sl vl vu .none)(pl:IsPart vl lo)(pu:IsPart vu hi)
  (h:Q (((sIx n 0 lo:Nat):Int),1,sIx n n hi-sIx n 0 lo) s):wpAny (model prog w) A (Builtin.Slice.sliceApplied (.ref sl) (pure (n:Int))) Q E s:=by
 obtain ⟨os,hos,hcs,hds⟩:=id hs
 unfold Builtin.Slice.sliceApplied Builtin.Slice.sliceFields
 refine wpAny_bind (wpAny_bind (wpAny_field hos hds (x:=vl) rfl (wpAny_bind (wpAny_field hos hds (x:=vu) rfl (wpAny_bind (wpAny_field hos hds (x:=.none) rfl (wpAny_pure ?_)))))))
 refine wpAny_bind (slicePart_none ?_)
 show wpAny _ _ (if ((1:Int)==0)=true then _ else _) _ _ s
 rw [if_neg (by decide)]
 refine wpAny_bind (cP pl (wpAny_bind (cP pu (wpAny_bind (wpAny_pure ?_)))))
 show wpAny _ _ (match Builtin.Slice.sliceAdjust lo hi 1 (n:Int) with | (lo,hi)=>pure (lo,(1:Int),Builtin.Slice.slicePlaces lo hi 1)) _ _ s
 rw [fg lo hi n]
 show wpAny _ _ (pure (((sIx n 0 lo:Nat):Int),(1:Int),Builtin.Slice.slicePlaces ((sIx n 0 lo:Nat):Int) ((sIx n n hi:Nat):Int) 1)) _ _ s
 rw [eV]
 exact wpAny_pure h
theorem jK (xs:Array Value)(i k:Nat):((a0D k).filterMap fun (m:Nat)=>xs[((i:Int)+(m:Int) * 1).toNat]?).toArray=((xs.toList.drop i).take k).toArray:=by
 have e:(fun (m:Nat)=>xs[((i:Int)+(m:Int) * 1).toNat]?)=fun m=>xs[i+m]?:=by
  funext m
  have:((i:Int)+(m:Int) * 1).toNat=i+m:=by omega
  rw [this]
 rw [e]
 have:=pick_run xs i k
 rw [List.filterMap_map] at this
 have e2:((fun x=>xs[x]?) ∘ fun x=>i+x)=fun m=>xs[i+m]?:=rfl
 rw [e2] at this
 rw [this]
theorem getItem_tuple_cut {t sl:Addr}{items:Array Value}{vl vu:Value}{lo hi:Option Int}{Q:Value->Shared->Prop}(ht:IsTup s.heap t items)(hs:s.heap.IsSliceOf sl vl vu .none)(pl:IsPart vl lo)(pu:IsPart vu hi)
  (hw:¬ (sIx items.size 0 lo=0/\sIx items.size items.size hi=items.size))
  (h:Q (.ref s.heap.objs.size) { s with heap:=s.heap.push { cls:=.type "tuple",data:=.seq ((items.toList.drop (sIx items.size 0 lo)).take (sIx items.size items.size hi-sIx items.size 0 lo)).toArray } })
  (hsz:items.size<=sizeLine):wpAny (model prog w) A (getItem (.ref t) (.ref sl)) Q E s:=by
 have htake:sizeOk (.seq ((items.toList.drop (sIx items.size 0 lo)).take (sIx items.size items.size hi-sIx items.size 0 lo)).toArray):=by
  show ((items.toList.drop (sIx items.size 0 lo)).take (sIx items.size items.size hi-sIx items.size 0 lo)).toArray.size<=sizeLine
  rw [a0i,a0U,a1A,a0H]
  omega
 have hj:sIx items.size items.size hi<=items.size:=ou _ _ (a0j _) hi
 obtain ⟨os,hos,hcs,hds⟩:=id hs
 have hTs:s.TypeIs (.ref sl) "slice":=⟨os,hos,hcs⟩
 unfold getItem
 try with_reducible refine wpAny_holding ?_
 first | refine wpAny_bind (wpAny_pure ?_) | skip
 refine wpAny_bind (wpAny_sequenceKey ht.typeIs (by decide) ?_)
 refine wpAny_bind (wpAny_callSpecial?_slot (name:=Str.ofString "__getitem__") ht.typeIs a0s
  (wpAny_call_entry a0s ht.typeIs entry_tuple_getitem ?_ (args_tuple_getitem _ _)))
 show wpAny _ _ (Builtin.Tuple.tupleItemsOf (.ref t) >>= _) _ _ s
 refine wpAny_bind (tupleItemsOf_ ht ?_)
 refine wpAny_bind (wpAny_typeOf hTs ?_)
 rw [if_pos (by decide)]
 refine wpAny_bind (sliceApplied_gen hs pl pu ?_)
 have hno:¬ ((((sIx items.size 0 lo:Nat):Int)==0&&(1:Int)==1&&(sIx items.size items.size hi-sIx items.size 0 lo)==items.size)=true):=by
  intro q
  rw [a0d,a0d] at q
  have q1:((sIx items.size 0 lo:Nat):Int)=0:=eq_of_beq q.1.1
  have q2:sIx items.size items.size hi-sIx items.size 0 lo=items.size:=eq_of_beq q.2
  exact hw ⟨by omega,by omega⟩
 show wpAny _ _ (if (((sIx items.size 0 lo:Nat):Int)==0&&(1:Int)==1&&(sIx items.size items.size hi-sIx items.size 0 lo)==items.size)=true then _ else _) _ _ s
 rw [if_neg hno,jK]
 first
  | exact wpAny_bind (m:=Builtin.Tuple.tupleExact _) (wpAny_newObj_type (wpAny_pure ⟨_,rfl,wpAny_pure h⟩) htake)
  | exact wpAny_bind (m:=Builtin.Tuple.tupleExact _) (wpAny_newObj_type (wpAny_bind (wpAny_pure (wpAny_pure ⟨_,rfl,wpAny_pure h⟩))) htake)
  | exact wpAny_bind (wpAny_bind (m:=Builtin.Tuple.tupleExact _) (wpAny_newObj_type (wpAny_pure (wpAny_pure ⟨_,rfl,wpAny_pure h⟩)) htake))
  | exact wpAny_bind (wpAny_bind (m:=Builtin.Tuple.tupleExact _) (wpAny_newObj_type (wpAny_pure ⟨_,rfl,wpAny_pure h⟩) htake))
end
end HT
namespace L2
open PySem PySem.Spec PyProof.Rows
noncomputable abbrev TO:=St->Hp->(Option Int->Hp->Prop)->Prop
noncomputable def PO (X:Cx)(e:Option Expr)(t:TO):Prop :=
 ∀ (pins:List (Addr×Obj)) (s:Shared) (σ:St) (H:Hp) (Q:Option Int->Hp->Prop),Inv X pins σ H s->t σ H Q ->
  wpAny (model X.prog X.w) X.A (evalPart e X.env) (fun u s'=>∃ o H',Inv X pins σ H' s'/\IsPart u o/\Q o H') X.xe s
noncomputable def ky:TO:=fun _ H Q=>Q none H
noncomputable def uK (t:TE):TO:=fun σ H Q=>t σ H fun x H1=>∃ i,x=.int i/\Q (some i) H1
section
variable {X:Cx}{e:Expr}{te:TE}{lo hi:Option Expr}{tl th:TO}{pos p2:Pos}
theorem mj:PO X none ky:=by
 intro pins s σ H Q I h
 rw [evalPart_none]
 exact wpAny_pure ⟨none,H,I,.none,h⟩
theorem mJ (h:PE X e te):PO X (some e) (uK te):=by
 intro pins s σ H Q I hw
 rw [evalPart_some]
 refine thn (h pins s σ H _ I hw) fun u s1 ⟨x,H1,I1,r1,q1⟩=>?_
 obtain ⟨i,rfl,q⟩:=q1
 obtain ⟨t,rfl⟩:=r1
 exact ⟨some i,H1,I1,.int i t,q⟩
noncomputable def SlR (X:Cx)(r:V->Option Int->Option Int->Hp->VK->Prop):Prop :=
 ∀ (pins:List (Addr×Obj)) (s:Shared) (σ:St) (H:Hp) (x:V) (v vl vu:Value) (lo hi:Option Int) (sl:Addr) (Q:VK),Inv X pins σ H s->RelV x v->s.heap.IsSliceOf sl vl vu .none->IsPart vl lo->IsPart vu hi->r x lo hi H Q ->
  ∃ T id,typeLookup (.type T) "__getitem__"=pure (some (.builtin id))/\s.TypeIs v T/\wpAny (model X.prog X.w) X.A (getItem v (.ref sl)) (EP X pins σ Q) X.xe s
theorem SlR.or {r r':V->Option Int->Option Int->Hp->VK->Prop}(h:SlR X r)(h':SlR X r'):SlR X (fun x lo hi H Q=>r x lo hi H Q\/r' x lo hi H Q):=by
 intro pins s σ H x v vl vu lo hi sl Q I rx hs pl pu q
 rcases q with q | q
 ·exact h pins s σ H x v vl vu lo hi sl Q I rx hs pl pu q
 ·exact h' pins s σ H x v vl vu lo hi sl Q I rx hs pl pu q
noncomputable def tSl (r:V->Option Int->Option Int->Hp->VK->Prop)(te:TE)(tl th:TO):TE:=fun σ H Q=>te σ H fun x H1=>tl σ H1 fun l H2=>th σ H2 fun u H3=>r x l u H3 Q
theorem jH {r:V->Option Int->Option Int->Hp->VK->Prop}(hr:SlR X r)(he:PE X e te)(hl:PO X lo tl)(hu:PO X hi th):PE X (.Subscript e (.Slice lo hi none p2) pos) (tSl r te tl th):=by
 intro pins s σ H Q I h
 refine Subscript_ (thn (he pins s σ H _ I h) fun v s1 ⟨x,H1,I1,r1,q1⟩=>?_)
 refine wpAny_Slice (thn (hl pins s1 σ H1 _ I1 q1) fun vl s2 ⟨l,H2,I2,pl,q2⟩=>thn (hu pins s2 σ H2 _ I2 q2) fun vu s3 ⟨u,H3,I3,pu,q3⟩=>?_)
 rw [evalPart_none]
 refine wpAny_pure ?_
 have I4:Inv X pins σ H3 { s3 with heap:=s3.heap.push { cls:=.type "slice",data:=.fields #[vl,vu,.none] } }:=I3.kept (t':=s3.toks) fun b ob q=>Heap.get?_push_of_some _ q
 obtain ⟨T,id,hT,ht,hg⟩:=hr pins { s3 with heap:=s3.heap.push { cls:=.type "slice",data:=.fields #[vl,vu,.none] } } σ H3 x v vl vu l u s3.heap.objs.size Q I4 r1 (Heap.IsSliceOf.new ..) pl pu q3
 show wpAny (model X.prog X.w) X.A (subscriptTail e (.Slice lo hi none p2) v (.ref s3.heap.objs.size)) (EP X pins σ Q) X.xe { s3 with heap:=s3.heap.push { cls:=.type "slice",data:=.fields #[vl,vu,.none] } }
 exact tail_any (ops:=[.ref s3.heap.objs.size,v]) ht hT hg (by with_unfolding_all rfl)
noncomputable def bJ (xs:List V)(lo hi:Option Int):List V:=(xs.drop (HT.sIx xs.length 0 lo)).take (HT.sIx xs.length xs.length hi-HT.sIx xs.length 0 lo)
theorem aV (xs:List V)(lo hi:Option Int):(bJ xs lo hi).length<=xs.length:=by
 unfold bJ
 rw [a0U,a1A]
 omega
noncomputable def vt (K:a0a):V->Option Int->Option Int->Hp->VK->Prop:=fun x lo hi H Q=>∃ a xs,x=.ref a/\SqT K H a xs /\
 ¬ (HT.sIx xs.length 0 lo=0/\HT.sIx xs.length xs.length hi=xs.length)/\∀ p,H p=none->Q (.ref p) (upd H p (.tup (bJ xs lo hi)))
theorem pC:SlR X (vt X.K):=by
 intro pins s σ H x v vl vu lo hi sl Q I rx hs pl pu h
 obtain ⟨a,xs,rfl,hx,hw,q⟩:=h
 cases rx
 obtain ⟨its,r,ht,hz⟩:=I.tuple hx
 have hlen:its.toArray.size=xs.length:=by rw [a0i]; exact r.length.symm
 refine ⟨"tuple",_,a0s.lookup,ht.typeIs,?_⟩
 refine HT.getItem_tuple_cut ht hs pl pu (by rw [hlen]; exact hw) ?_ (by rw [hlen]; exact hz)
 rw [hlen]
 refine ⟨.ref s.heap.objs.size,_,I.laid (t':=s.toks) (o:=.tup (bJ xs lo hi)) (fun b ob q=>Heap.get?_push_of_some _ q) (a0j _) ?_,rfl,q _ (I.hok.fresh (a0j _))⟩
 exact ⟨a0k (aV xs lo hi) hz,_,(r.drop (HT.sIx xs.length 0 lo)).take (HT.sIx xs.length xs.length hi-HT.sIx xs.length 0 lo),IsTup.new _ _⟩
noncomputable def tw (K:a0a):R2:=fun x y H Q=>∃ a b xs ys,x=.ref a/\y=.ref b/\SqT K H a xs/\SqT K H b ys/\xs≠[]/\xs.length+ys.length<=sizeLine /\
 (ys=[]->Q (.ref a) H)/\(ys≠[]->∀ p,H p=none->Q (.ref p) (upd H p (.tup (xs++ys))))
theorem Vals.nil_iff {xs:List V}{us:List Value}(r:Vals xs us):us=[] ↔ xs=[]:=by
 cases r with
 | nil=>simp
 | cons _ _=>simp
theorem k6:OpR X (binaryOp .Add) (tw X.K):=by
 intro pins s σ H x y v u Q I rx ry h
 obtain ⟨a,b,xs,ys,rfl,rfl,ha,hb,hx,hz,q1,q2⟩:=h
 cases rx
 cases ry
 obtain ⟨its,r1,p1,_⟩:=I.tuple ha
 obtain ⟨its2,r2,p2,_⟩:=I.tuple hb
 refine HT.cat_tup p1 p2 (fun z=>hx (r1.nil_iff.mp z)) (fun z=>⟨.ref a,H,I,rfl,q1 (r2.nil_iff.mp z)⟩) (fun z=>?_) (by rw [<- r1.length,<- r2.length]; exact hz)
 refine ⟨.ref s.heap.objs.size,_,I.laid (t':=s.toks) (o:=.tup (xs++ys)) (fun b ob q=>Heap.get?_push_of_some _ q) (a0j _) ?_,rfl,q2 (fun w=>z (r2.nil_iff.mpr w)) _ (I.hok.fresh (a0j _))⟩
 exact ⟨by rw [a0t]; exact hz,_,r1.append r2,IsTup.new _ _⟩
end
end L2
namespace L2
open PySem PySem.Spec PyProof.Rows
noncomputable def ixN (n:Nat)(i:Int):Option Nat:=if 0<=i then (if i < n then some i.toNat else none) else if -(n:Int)<=i then some (i+n).toNat else none
noncomputable def atI {α:Type}(xs:List α)(i:Int):Option α:=(ixN xs.length i).bind fun j=>xs[j]?
theorem ml {n:Nat}{i:Int}{j:Nat}(h:ixN n i=some j):seqIndex? i n=some j/\j < n/\-(n:Int)<=i/\i < n:=by
 unfold ixN at h
 by_cases h0:0<=i
 ·rw [if_pos h0] at h
  by_cases h1:i < n
  ·rw [if_pos h1] at h
   have e:i.toNat=j:=a0q h
   exact ⟨by rw [seqIndex_of h0 h1,e],by omega,by omega,h1⟩
  ·rw [if_neg h1] at h; cases h
 ·rw [if_neg h0] at h
  by_cases h1:-(n:Int)<=i
  ·rw [if_pos h1] at h
   have e:(i+n).toNat=j:=a0q h
   exact ⟨by rw [seqIndex_neg (by omega) h1,e],by omega,h1,by omega⟩
  ·rw [if_neg h1] at h; cases h
theorem dB {α:Type}{xs:List α}{i:Int}{v:α}(h:atI xs i=some v):∃ j,seqIndex? i xs.length=some j/\xs[j]?=some v/\j < xs.length/\-(xs.length:Int)<=i/\i < xs.length:=by
 unfold atI at h
 cases e:ixN xs.length i with
 | none=>rw [e] at h; cases h
 | some j =>
  rw [e] at h
  obtain ⟨h1,h2,h3,h4⟩:=ml e
  exact ⟨j,h1,h,h2,h3,h4⟩
noncomputable def dN (b:Expr):Prop:=∀ o i,subscripted b false o i=operate [o,i] (getItem o i)
noncomputable def IxR (X:Cx)(r:R2):Prop :=
 ∀ (value slice:Expr) (pins:List (Addr×Obj)) (s:Shared) (σ:St) (H:Hp) (x y:V) (v u:Value) (Q:VK),Inv X pins σ H s->RelV x v->RelV y u->r x y H Q ->
  subscripted slice false v u=operate [v,u] (getItem v u)->wpAny (model X.prog X.w) X.A (subscriptTail value slice v u) (EP X pins σ Q) X.xe s
noncomputable def MtR (X:Cx)(id:String)(r:V->List V->Hp->VK->Prop):Prop :=
 ∀ (pins:List (Addr×Obj)) (s:Shared) (σ:St) (H:Hp) (x:V) (xs:List V) (v:Value) (us:List Value) (Q:VK),Inv X pins σ H s->RelV x v->Vals xs us->r x xs H Q ->
  wpAny (model X.prog X.w) X.A (call (.builtin id) (v::us)) (EP X pins σ Q) X.xe s
section
variable {X:Cx}{a b:Expr}{ta tb:TE}{pos:Pos}
theorem IxR.or {r r':R2}(h:IxR X r)(h':IxR X r'):IxR X (fun x y H Q=>r x y H Q\/r' x y H Q):=by
 intro value slice pins s σ H x y v u Q I rx ry q hs
 rcases q with q | q
 ·exact h value slice pins s σ H x y v u Q I rx ry q hs
 ·exact h' value slice pins s σ H x y v u Q I rx ry q hs
theorem rM {r:R2}(hr:IxR X r)(ha:PE X a ta)(hb:PE X b tb)(hs:dN b):PE X (.Subscript a b pos) (tOp r ta tb):=by
 intro pins s σ H Q I h
 exact Subscript_ (n0 ha hb I h fun v u s2 x y H2 I2 rx ry q=>hr a b pins s2 σ H2 x y v u Q I2 rx ry q (hs _ _))
noncomputable def vw (K:a0a):R2:=fun x y H Q=>∃ p xs i v,x=.ref p/\y=.int i/\SqL K H p xs/\atI xs i=some v/\Q v H
noncomputable def vZ (K:a0a):R2:=fun x y H Q=>∃ p xs i v,x=.ref p/\y=.int i/\SqT K H p xs/\atI xs i=some v/\Q v H
noncomputable def v3:R2:=fun x y H Q=>∃ z i c,x=.str z/\y=.int i/\z.length<=sizeLine/\atI z.cps.toList i=some c/\Q (.str ⟨#[c]⟩) H
theorem lN:IxR X (vw X.K):=by
 intro value slice pins s σ H x y v u Q I rx ry h hs
 obtain ⟨p,xs,i,z,rfl,rfl,hq,he,q⟩:=h
 cases rx
 obtain ⟨t,rfl⟩:=ry
 obtain ⟨its,r,pl,hz⟩:=I.list hq
 obtain ⟨j,h1,h2,h3,h4,h5⟩:=dB he
 obtain ⟨w,ew,rw'⟩:=r.get h2
 have hl:=r.length
 have hn:=cz
 have fin:EP X pins σ Q w s:=⟨z,H,I,rw',q⟩
 by_cases h0:0<=i
 ·have hj:i.toNat=j:=by
   rw [seqIndex_of h0 h5] at h1
   exact a0q h1
  exact item_listR pl.isList h0 (by omega) (by rw [hj]; simpa using ew) fin hs
 ·have hj:(i+(its.toArray.size:Int)).toNat=j:=by
   rw [seqIndex_neg (by omega) h4] at h1
   rw [a0i,<- hl]
   exact a0q h1
  exact subscriptTail_builtinR (x:=w) pl.isList.typeIs slot_list_getitem.lookup
   (wpAny_getItem_list_neg (Q:=fun r s'=>r=w/\EP X pins σ Q r s') pl.isList (by omega) (by rw [a0i]<;>omega) (by omega) (by rw [hj]; simpa using ew) ⟨rfl,fin⟩) hs
theorem pE:IxR X (vZ X.K):=by
 intro value slice pins s σ H x y v u Q I rx ry h hs
 obtain ⟨p,xs,i,z,rfl,rfl,hq,he,q⟩:=h
 cases rx
 obtain ⟨t,rfl⟩:=ry
 obtain ⟨its,r,pl,hz⟩:=I.tuple hq
 obtain ⟨j,h1,h2,h3,h4,h5⟩:=dB he
 obtain ⟨w,ew,rw'⟩:=r.get h2
 have hl:=r.length
 have hn:=cz
 have fin:EP X pins σ Q w s:=⟨z,H,I,rw',q⟩
 exact subscriptTail_builtinR (x:=w) pl.typeIs slot_tuple_getitem.lookup
  (getItem_tuple (j:=j) (Q:=fun r s'=>r=w/\EP X pins σ Q r s') pl (by omega) (by omega) (by rw [a0i,<- hl]; exact h1) (by simpa using ew) ⟨rfl,fin⟩) hs
theorem nS:IxR X v3:=by
 intro value slice pins s σ H x y v u Q I rx ry h hs
 obtain ⟨z,i,c,rfl,rfl,hz,he,q⟩:=h
 obtain ⟨t,rfl⟩:=rx
 obtain ⟨t',rfl⟩:=ry
 obtain ⟨j,h1,h2,h3,h4,h5⟩:=dB he
 have hl:z.cps.toList.length=z.length:=by simp [Str.length]
 rw [hl] at h1 h4 h5
 have hn:=cz
 exact tail_any (typeIs_str s z t) slot_str_getitem.lookup (getItem_str (c:=c) (by
  have e1:decide (i < -(2 ^ 63:Int))=false:=decide_eq_false (by omega)
  have e2:decide (i >= 2 ^ 63)=false:=decide_eq_false (by omega)
  rw [e1,e2,Bool.or_false]) (by rw [h1]; simpa using h2) ⟨.str ⟨#[c]⟩,H,I.tok _,⟨_,rfl⟩,q⟩) hs
theorem dZ (lo hi:Option Int)(n:Nat):(sliceBounds lo hi none n).1=((HT.sIx n 0 lo:Nat):Int)/\(sliceBounds lo hi none n).2.1=((HT.sIx n n hi:Nat):Int)/\(sliceBounds lo hi none n).2.2=1:=by
 refine ⟨?_,?_,rfl⟩
 ·cases lo with
  | none=>simp [sliceBounds,HT.sIx]
  | some i =>
   simp only [sliceBounds,HT.sIx,a2g,show (1:Int) > 0 by decide,if_true]
   by_cases h:i < 0
   ·simp only [h,if_true]<;>omega
   ·simp only [h,if_false]<;>omega
 ·cases hi with
  | none=>simp [sliceBounds,HT.sIx]
  | some i =>
   simp only [sliceBounds,HT.sIx,a2g,show (1:Int) > 0 by decide,if_true]
   by_cases h:i < 0
   ·simp only [h,if_true]<;>omega
   ·simp only [h,if_false]<;>omega
theorem cU (its:List Value)(lo hi:Option Int):slicePick its.toArray lo hi none=((its.drop (HT.sIx its.length 0 lo)).take (HT.sIx its.length its.length hi-HT.sIx its.length 0 lo)).toArray:=by
 obtain ⟨h1,h2,h3⟩:=dZ lo hi its.toArray.size
 unfold slicePick
 rw [h1,h2,h3]
 simp only [sliceRange_one,pick_run,a0i]<;>rfl
noncomputable def ri (K:a0a):V->Option Int->Option Int->Hp->VK->Prop:=fun x lo hi H Q=>∃ a xs,x=.ref a/\SqL K H a xs/\∀ p,H p=none->Q (.ref p) (upd H p (.lst (bJ xs lo hi)))
theorem sl_list:SlR X (ri X.K):=by
 intro pins s σ H x v vl vu lo hi sl Q I rx hs pl pu h
 obtain ⟨a,xs,rfl,hx,q⟩:=h
 cases rx
 obtain ⟨its,r,ht,hz⟩:=I.list hx
 have hlen:=r.length
 refine ⟨"list",_,slot_list_getitem.lookup,ht.isList.typeIs,?_⟩
 refine wpAny_getItem_list_slice ht.isList hs pl pu .none (by simp) ?_ (by rw [a0i]<;>omega)
 rw [cU,<- hlen]
 refine ⟨.ref s.heap.objs.size,_,I.laid (t':=s.toks) (o:=.lst (bJ xs lo hi)) (fun b ob q=>Heap.get?_push_of_some _ q) (a0j _) ?_,rfl,q _ (I.hok.fresh (a0j _))⟩
 exact ⟨a0k (aV xs lo hi) hz,_,0,(r.drop (HT.sIx xs.length 0 lo)).take (HT.sIx xs.length xs.length hi-HT.sIx xs.length 0 lo),Heap.get?_push_size _ rfl⟩
noncomputable def eqV:V->V->Bool
 | .non,.non=>true
 | .bl a,.bl b=>a==b
 | .bl a,.int b=>(if a then 1 else 0)==b
 | .int a,.bl b=>a==(if b then 1 else 0)
 | .int a,.int b=>a==b
 | .str a,.str b=>a==b
 | _,_=>false
noncomputable def inV (x:V)(xs:List V):Bool:=xs.any fun y=>eqV y x
theorem cS:dh X (.type "tuple") (fun xs H Q=>∃ p ys,xs=[.ref p]/\((SqL X.K H p ys/\∀ l,H l=none->Q (.ref l) (upd H l (.tup ys)))\/(SqT X.K H p ys/\Q (.ref p) H))):=by
 intro pins s σ H xs us Q I r h
 obtain ⟨p,ys,rfl,h⟩:=h
 obtain ⟨u,rfl,rx⟩:=iF r
 cases rx
 rcases h with ⟨hq,q⟩ | ⟨hq,q⟩
 ·obtain ⟨its,r',pl,hz⟩:=I.list hq
  have hlen:=r'.length
  refine call_tuple_list pl.isList (fun h' kp=>?_) (by simp only [a0i]<;>omega)
  have I1:Inv X pins σ H { s with heap:=h' }:=I.kept (t':=s.toks) kp
  have I2:Inv X pins σ (upd H h'.objs.size (.tup ys)) { s with heap:=h'.push { cls:=.type "tuple",data:=.seq its.toArray } } :=
   I1.laid (t':=s.toks) (fun b o e=>Heap.get?_push_of_some _ e) (a0j _) (show ObjOk X.prog X.w _ _ _ (.tup ys) from ⟨hz,its,r',IsTup.new _ _⟩)
  exact ⟨.ref h'.objs.size,_,I2,rfl,q _ (I1.hok.fresh (a0j _))⟩
 ·obtain ⟨its,r',pl,hz⟩:=I.tuple hq
  exact call_tuple_same pl ⟨.ref p,H,I,rfl,q⟩
noncomputable def tyV (K:a0a)(T:String)(x:V)(H:Hp):Prop:=match x with
 | .str _=>T="str"
 | .int _=>T="int"
 | .ref p=>(T="list"/\∃ xs,SqL K H p xs)\/(T="tuple"/\∃ o,K.lookup p=some o/\o.cls=.type "tuple"/\o.dict=none) \/
   (T="dict"/\((∃ kvs,H p=some (.dK kvs))\/∃ kvs,H p=some (.dT kvs)))\/(T="set"/\∃ S n,H p=some (.set S n))
 | _=>False
theorem o6 {pins:List (Addr×Obj)}{σ:St}{H:Hp}{s:Shared}{T:String}{x:V}{v:Value}(I:Inv X pins σ H s)(r:RelV x v)(ty:tyV X.K T x H) :
  s.TypeIs v T/\∀ a,v=.ref a->∃ ob,s.heap.get? a=some ob/\ob.dict=none:=by
 cases x with
 | str z =>
  obtain ⟨t,rfl⟩:=r
  cases (show T="str" from ty)
  exact ⟨typeIs_str s z t,fun _ e=>nomatch e⟩
 | int i =>
  obtain ⟨t,rfl⟩:=r
  cases (show T="int" from ty)
  exact ⟨typeIs_int s i t,fun _ e=>nomatch e⟩
 | ref p =>
  cases r
  rcases ty with ⟨rfl,xs,hq⟩ | ⟨rfl,o,hk,hc,hd⟩ | ⟨rfl,hk⟩ | ⟨rfl,S,n,hk⟩
  ·obtain ⟨its,_,pl,_⟩:=I.list hq
   refine ⟨pl.isList.typeIs,fun a e=>?_⟩
   cases e
   obtain ⟨o,n,e,c,hd,_⟩:=pl
   exact ⟨o,e,hd⟩
  ·refine ⟨⟨o,I.kIn p o hk,hc⟩,fun a e=>?_⟩
   cases e
   exact ⟨o,I.kIn _ o hk,hd⟩
  ·have z:∃ o,s.heap.get? p=some o/\o.ExactDict:=by
    rcases hk with ⟨kvs,hk⟩ | ⟨kvs,hk⟩
    ·obtain ⟨_,_,_,_,o,_,_,e,ex,_⟩:=I.hok p _ hk
     exact ⟨o,e,ex⟩
    ·obtain ⟨_,_,_,_,o,_,_,e,ex,_⟩:=I.hok p _ hk
     exact ⟨o,e,ex⟩
   obtain ⟨o,e,ex⟩:=z
   refine ⟨⟨o,e,ex.1⟩,fun a e2=>?_⟩
   cases e2
   exact ⟨o,e,ex.2.1⟩
  ·obtain ⟨o,_,_,_,e,ex,_⟩:=I.hok p _ hk
   refine ⟨⟨o,e,ex.1⟩,fun a e2=>?_⟩
   cases e2
   exact ⟨o,e,ex.2.1⟩
 | _=>exact a0O ty
noncomputable def tBM (K:a0a)(T:String)(r:V->List V->Hp->VK->Prop)(to:TE)(t:TA):TE:=fun σ H Q=>to σ H fun x H1=>tyV K T x H1/\t σ H1 fun xs H2=>r x xs H2 Q
variable {o e:Expr}{es:List Expr}{to:TE}{t:TA}{name:Str}{apos cpos:Pos}{T id:String}{r:V->List V->Hp->VK->Prop}
theorem tj (pa:PlainAttrs T)(slot:Slot T name id)(hty:typeOf (.builtin id)=pure (.type "method_descriptor"))(hm:MtR X id r)(ho:PE X o to)(ha:PA X (e::es) t)
  (hbase:attributeBase o name X.env (eval o X.env)=eval o X.env:=by rfl)
  (hfew:((backTo cpos (starEach (e::es) X.env)).all (fun x=>!x.1)&&(backToKw cpos (keywordEach [] X.env)).all (fun x=>x.1.isSome)
  &&decide ((e::es).length+([]:List Keyword).length+(if ([]:List Keyword).isEmpty then 0 else 1) < 30))=true:=by rfl)
  (hline:(apos.endLine==cpos.line)=true:=by rfl) (hs:starEach (e::es) X.env=(false,eval e X.env)::starEach es X.env:=by rfl) (hplain:(backTo cpos (starEach es X.env)).any (·.1)=false:=by rfl) :
  PE X (.Call (.Attribute o name apos) (e::es) [] cpos) (tBM X.K T r to t):=by
 intro pins s σ H Q I h
 refine wpAny_Call_method_late hbase hfew hline rfl (thn (ho pins s σ H _ I h) fun v s1 ⟨x,H1,I1,r1,ty,q1⟩=>?_)
 obtain ⟨h1,h2⟩:=o6 I1 r1 ty
 refine ⟨T,id,pa,slot,hty,h1,h2,?_⟩
 have hA:=ha cpos pins s1 σ H1 _ I1 q1
 rw [hs] at hA ⊢
 refine Calls.callWith_builtin (by show (false || (backTo cpos (starEach es X.env)).any (·.1))=false; rw [hplain]<;>rfl) (Calls.evalArgs_plain ?_)
 exact thn hA fun us s2 ⟨vs,H2,I2,r2,q2⟩=>hm pins s2 σ H2 x vs v us Q I2 r1 r2 q2
end
end L2
namespace L2
open PySem PySem.Spec PyProof.Rows
theorem Vals.one:∀ {x:V} {us:List Value},Vals [x] us->∃ u,us=[u]/\RelV x u
 | _,_,.cons r .nil=>⟨_,rfl,r⟩
theorem Vals.rep {xs:List V}{us:List Value}(h:Vals xs us):∀ k:Nat,Vals (a0b k xs).flatten (a0b k us).flatten
 | 0=>.nil
 | k+1=>by
  rw [a0C,a0C,a1f,a1f]
  exact Vals.append h (Vals.rep h k)
theorem cZ (its:List Value):∀ (k:Nat) (acc:List Value),
  a2w (fun x1 x2=>x1++x2) acc.toArray (a0b k its.toArray)=(acc++(a0b k its).flatten).toArray
 | 0,acc=>by simp
 | k+1,acc=>by
  have e:acc.toArray++its.toArray=(acc++its).toArray:=by simp
  have e2:(acc++its)++(a0b k its).flatten=acc++(a0b (k+1) its).flatten:=by
   rw [a0C,a1f,a1g]
  rw [<- e2,<- cZ its k (acc++its),<- e,a0C,a2n]
section
variable {X:Cx}{pins:List (Addr×Obj)}{σ:St}{H:Hp}{s:Shared}{l b:Addr}{xs ys zs:List V}
theorem Inv.lnew {its:List Value}{t':Nat}(I:Inv X pins σ H s)(hv:Vals ys its)(hz:ys.length<=sizeLine) :
  Inv X pins σ (upd H s.heap.objs.size (.lst ys)) { s with heap:=s.heap.push { cls:=.type "list",data:=.seq its.toArray },toks:=t' } :=
 I.laid (fun _ _ q=>Heap.get?_push_of_some _ q) (a0j _) ⟨hz,its,0,hv,Heap.get?_push_size _ rfl⟩
theorem Inv.fresh (I:Inv X pins σ H s):H s.heap.objs.size=none:=I.hok.fresh (a0j _)
theorem Inv.lstM (I:Inv X pins σ H s)(hH:H l=some (.lst xs)):xs.length<=sizeLine/\∃ (its:List Value) (n:Nat),Vals xs its/\xs.length=its.length/\s.heap.get? l=some { cls:=.type "list",data:=.seq its.toArray n }:=by
 obtain ⟨z,its,n,r,e⟩:=I.hok l _ hH
 exact ⟨z,its,n,r,r.length,e⟩
theorem ie {n:Nat}(h:n<=sizeLine):Builtin.List.listTooLong n=false:=by
 unfold Builtin.List.listTooLong
 exact decide_eq_false (by omega)
end
section
variable {X:Cx}
noncomputable def tL:R2:=fun x y H Q=>∃ l b xs zs,x=.ref l/\y=.ref b/\H l=some (.lst xs)/\H b=some (.lst zs)/\xs.length+zs.length<=sizeLine/\∀ p,H p=none->Q (.ref p) (upd H p (.lst (xs++zs)))
theorem op_cat:OpR X (binaryOp .Add) tL:=by
 intro pins s σ H x y v u Q I rx ry h
 obtain ⟨l,b,xs,zs,rfl,rfl,hH,hB,hz,q⟩:=h
 cases rx
 cases ry
 obtain ⟨z,its,n,r,hl,e⟩:=I.lstM hH
 obtain ⟨z2,its2,n2,r2,hl2,e2⟩:=I.lstM hB
 refine PySem.P.add_list e e2 ?_ (by rw [a0i,a0i]; omega)
 have ea:its.toArray++its2.toArray=(its++its2).toArray:=by simp
 rw [ea]
 exact ⟨.ref _,_,I.lnew (t':=s.toks) (r.append r2) (by rw [a0t]; omega),rfl,q _ I.fresh⟩
noncomputable def uJ:R2:=fun x y H Q=>∃ l k xs,x=.ref l/\y=.int k/\H l=some (.lst xs)/\-(2 ^ 63)<=k/\k < 2 ^ 63/\xs.length * k.toNat<=sizeLine /\
 ∀ p,H p=none->Q (.ref p) (upd H p (.lst (a0b k.toNat xs).flatten))
theorem lY {α:Type}(xs:List α)(k:Nat):(a0b k xs).flatten.length=k * xs.length:=by
 induction k with
 | zero=>simp
 | succ k ih=>rw [a0C,a1f,a0t,ih,Nat.succ_mul,a1I]
theorem oM:OpR X (binaryOp .Mult) uJ:=by
 intro pins s σ H x y v u Q I rx ry h
 obtain ⟨l,k,xs,rfl,rfl,hH,h1,h2,hz,q⟩:=h
 cases rx
 obtain ⟨t,rfl⟩:=ry
 obtain ⟨z,its,n,r,hl,e⟩:=I.lstM hH
 have hlen:its.toArray.size * k.toNat<=sizeLine:=by rw [a0i,<- hl]; exact hz
 have hcap:¬ its.toArray.size * k.toNat > (2 ^ 63-1) / 8:=by
  have:(sizeLine:Nat)<=(2 ^ 63-1) / 8:=by decide
  omega
 have hfit:¬ (!Builtin.List.listFitsIndex k)=true:=by
  rw [fitsIndex_both h1 h2]
  exact a0m
 have hlong:¬ Builtin.List.listTooLong (its.toArray.size * k.toNat)=true:=by
  rw [ie hlen]
  exact a0m
 have hnew:a2w (fun x1 x2=>x1++x2) #[] (a0b (if its.toArray.isEmpty=true then 0 else k.toNat) its.toArray)=(a0b k.toNat its).flatten.toArray:=by
  have f0:∀ m:Nat,a2w (fun x1 x2=>x1++x2) #[] (a0b m its.toArray)=(a0b m its).flatten.toArray:=fun m=>by
   have:=cZ its m []
   rw [a1a] at this
   exact this
  rw [f0]
  cases its with
  | nil=>simp
  | cons a r'=>rw [if_neg (by simp)]
 refine wpAny_binaryOp_repeat_ref (T:="list") (U:="int") (by decide) ⟨_,e,rfl⟩ (fun s'=>typeIs_int s' k t) noFill_list_mul F.fills_int_mul F.slot_int_rmul repeat_list F.slot_int_index.lookup
  (call_meets F.slot_int_rmul (typeIs_int s k t) F.entry_int_rmul (F.args_int_rmul_2 _ _) (int___rmul___int_list k t l its.toArray n)
   ⟨e,rfl,⟨_,e,rfl⟩,call_meets F.slot_list_mul ⟨_,e,rfl⟩ F.entry_list_mul (F.args_list_mul_2 _ _) (AutoListH.list___mul___list_int_3 l its.toArray n k t hfit hcap hlong) ⟨e,?_⟩⟩)
 rw [hnew]
 exact ⟨.ref _,_,I.lnew (t':=s.toks) (r.rep k.toNat) (by rw [lY,a2G]; exact hz),rfl,q _ I.fresh⟩
end
end L2
namespace Att
open PySem PySem.W PySem.Calls PyProof.Rows
theorem b8 {P:Params}{h:Heap}:∀ (ns:List Int) (vs:List Value),WellAll P h vs (ns.map WData.int)->IntsAre vs ns:=by
 intro ns
 induction ns with
 | nil =>
  intro vs w
  rw [a1J] at w
  cases w
  exact .nil
 | cons n ns ih =>
  intro vs w
  rw [a0u] at w
  cases w with
  | cons a b =>
   cases a
   exact .cons _ _ (ih _ b)
theorem gx {l:OpenLaw}{n:Nat}(hn:l.most=some n){P:Params}{h:Heap}{args:List WData}{vals:List Value}
  (hpre:l.row.toRowW.claim.pre args=true) (hwl:WellAll P h vals args) :
  ∃ a vs ns,vals=[Value.ref a]/\args=[WData.list (ns.map WData.int)]/\h.get? a=some { cls:=.type "list",data:=.seq vs.toArray }/\IntsAre vs ns/\ns.length<=n:=by
 have hsh:WShape.hasAll [] args [.list .int]=true:=(pre_splitW hpre).1
 have hc:l.pre.holds [] { args:=args }=true:=(pre_splitW hpre).2
 obtain ⟨d,r,rfl,h1,h2⟩:=hasAllW_cons hsh
 obtain rfl:=hasAllW_nil h2
 obtain ⟨xs,rfl,h3⟩:=hasW_list h1
 obtain ⟨ns,rfl⟩:=items_int h3
 have hlen:ns.length<=n:=by
  unfold OpenLaw.pre at hc
  have h4:(WTm.not (.lt (.lit (.int (n:Int))) (.len (.arg 0)))).holds [] { args:=[.list (ns.map .int)] }=true:=by
   have h4:=(holds_andW hc).1
   rw [hn] at h4
   exact h4
  have h5:=condW_of h4 (w_not (w_lt w_lit (w_len_list (w_arg rfl))))
  rw [a0g] at h5
  refine a2h fun q=>?_
  have q':(n:Int) < ((ns.length:Nat):Int):=by omega
  first
   | (rw [decide_eq_true q'] at h5; exact absurd h5 (by decide))
   | (simp at h5; omega)
 cases hwl with
 | cons w1 w2 =>
  cases w2
  cases w1 with
  | list ho hall=>exact ⟨_,_,ns,rfl,rfl,ho,b8 ns _ hall,hlen⟩
theorem gm (l:OpenLaw)(args:List WData):l.row.toRowW.claim.post args (.bool true) args=true :=
 postW_of (r:=l.row.toRowW) (X:=(true==true))
  (show WShape.has [] (.bool true) .bool=true by first | rfl | decide | simp [WShape.has,WShape.arms,WShape.armsAll])
  (show (WTm.eq .res (.lit (.bool true))).value [] { args:=args,res:=some (.bool true),after:=args }=some (.bool (true==true)) from w_eq_bool (w_res rfl) w_lit) rfl
theorem attach_call {l:OpenLaw}{n:Nat}{q:Program}{loose:List Str}{XP:(Str->Option Value)->Heap->Prop}{YP:World->Heap->Prop}{d:DefRec}
  (hn:l.most=some n) (hdf:d.params.defaults=[])
  (call:∀ (w:World) (s₀ s₁:Shared) (mg mb:Str->Option Value) (fa:Addr) (o:Obj) (pm cd doc:Value) (a:Addr) (vs:List Value) (ns:List Int),
   Ground q loose [] XP w s₀ mg mb s₁.heap->YP w s₁.heap ->
   s₁.heap.get? fa=some o->o.data=.func (docDef d.name d.params d.body d.scope pm cd doc)->s₁.heap.CodeRec cd d.name->mg d.name=some (.ref fa) ->
   s₁.heap.get? a=some { cls:=.type "list",data:=.seq vs.toArray }->IntsAre vs ns->ns.length<=n->s₁.gens=#[] ->
   codeAny (model l.prog w) callerA (.call (.ref fa) ⟨[.ref a],[]⟩) (fun r s'=>r=.ok (.ret (.bool true))/\OldK s₁.heap s'.heap/\s'.os=s₁.os/\AllBare s'.gens) s₁) :
  WalkO q loose XP YP l.row.toRowW d [] (fun f vs=>a2x f vs):=by
 intro w s₀ s₁ mg mb G Y fa o pm cd doc dV kV ho hd hcd hD hmg hg args vals as hpre hlay hrd hwl hlo
 obtain rfl:dV=.none:=Dflts.none hD hdf
 obtain rfl:kV=.none:=Dflts.noKw hD
 obtain ⟨a,vs,ns,rfl,rfl,hobj,hints,hlen⟩:=gx hn hpre hwl
 refine enter_call (codeAny_mono (call w s₀ s₁ mg mb fa o pm cd doc a vs ns G Y ho (fd_plain hd) hcd hmg hobj hints hlen hg) fun r s' hq=>?_)
 obtain ⟨rfl,h2,h3,h4⟩:=hq
 exact ⟨.inl ⟨.bool true,.bool true,[],rfl,fun _=>rfl,.bool true,gm l _,fun _=>⟨a2Q,fun _ hm=>(nomatch hm)⟩⟩,h2,h3,h4⟩
end Att
namespace L2
open PySem PySem.Spec PyProof.Rows
theorem c5:∀ {vs:List Value} {ns:List Int},IntsAre vs ns->Vals (ns.map V.int) vs
 | _,_,.nil=>.nil
 | _,_,.cons n t h=>.cons ⟨t,rfl⟩ (c5 h)
noncomputable def iu (H:Hp):Prop:=∀ b,H b=none\/∃ o xs,H b=some (.frz o (.lst xs))
theorem ig {P:Program}{w:World}{K:a0a}{mg mb:Str->Option Value}{CX:CXT}{k:Nat}{fa a:Addr}{fd:FuncData}{x:Str}{sp:Sp}{s₁:Shared}{vs:List Value}{ns:List Int}
  (KX:K.In s₁.heap) (hns:s₁.heap.Ns mainGlobals mg) (hb:s₁.heap.Ns builtinsNs mb) (hbb:∀ x:Str,x≠"__name__"->mb x=bootBuiltins x) (hlim:s₁.heap.NoLimit) (hg:s₁.gens=#[])
  (ha:s₁.heap.get? a=some { cls:=.type "list",data:=.seq vs.toArray }) (hi:IntsAre vs ns) (hl:ns.length<=sizeLine) (hr:Room k callerA)
  (F:∀ base:Heap,K.In base->base.Ns mainGlobals mg->aS P w K mg base CX k fa fd [x] sp) (hbind:∀ (s:Shared) (u:Value),BindsTo s fd ⟨[u],[]⟩ [(x,u)])
  (hsp:∀ H:Hp,iu H->SqL K H a (ns.map V.int)->sp [.ref a] H (fun v _=>v=.bl true) fun _ _ _=>False)
  (hCX:∀ H e s',CX [] H s₁ (fun _ _ _=>False) e s'->False) :
  codeAny (model P w) callerA (.call (.ref fa) ⟨[.ref a],[]⟩) (fun r s'=>r=.ok (.ret (.bool true))/\OldK s₁.heap s'.heap/\s'.os=s₁.os/\AllBare s'.gens) s₁:=by
 have rv:=c5 hi
 have lenV:=hi.length
 -- from an abstract heap in which nothing but the script may be tracked
 have core:∀ H:Hp,iu H->SqL K H a (ns.map V.int)->HOk P w H s₁.heap->(∀ b,H b≠none->b=a)->(H a≠none->K.lookup a=none) ->
   codeAny (model P w) callerA (.call (.ref fa) ⟨[.ref a],[]⟩) (fun r s'=>r=.ok (.ret (.bool true))/\OldK s₁.heap s'.heap/\s'.os=s₁.os/\AllBare s'.gens) s₁:=by
  intro H hO hS hok hA hK
  have base_of:∀ {b:Addr} {o:Obj},s₁.heap.get? b=some o->H b=none->(dS s₁.heap H).get? b=some o:=fun e n=>jW e n
  have noA:∀ {b:Addr} {o:Obj} {es:Array DictEntry} {ep:Nat},s₁.heap.get? b=some o->o.data=.dict es ep->H b=none:=fun {b o es ep} e d=>by
   cases q:H b with
   | none=>rfl
   | some u =>
    have e':b=a:=hA b (by rw [q]; simp)
    subst e'
    rw [ha] at e; cases e
    have d':Data.seq vs.toArray _=Data.dict es ep:=d
    cases d'
  have nsK:∀ {b:Addr} {m:Str->Option Value},s₁.heap.Ns b m->(dS s₁.heap H).Ns b m:=fun {b m} ⟨o,es,ep,e,d,r⟩=>⟨o,es,ep,base_of e (noA e d),d,r⟩
  have hKb:K.In (dS s₁.heap H):=fun b o e=>base_of (KX b o e) (by
   cases q:H b with
   | none=>rfl
   | some u =>
    have e':b=a:=hA b (by rw [q]; simp)
    subst e'
    rw [hK (by rw [q]; simp)] at e; cases e)
  have hM:Mod K mg (dS s₁.heap H):=⟨hKb,nsK hns,⟨mb,nsK hb,hbb⟩,let ⟨mc,h1,h2⟩:=hlim; ⟨mc,nsK h1,h2⟩⟩
  have e0:Env0 P w K mg (dS s₁.heap H) callerA [] s₁ H:=⟨rfl,hM,fun b o e=>lu e,Nat.le_of_eq (gG _ _),trivial,fun b hb=>absurd (show b∈([]:List Addr) from hb) (by simp),hok,.of_eq hg⟩
  refine codeAny_mono ((F _ hKb (nsK hns)).run callerA [] s₁ H ⟨[.ref a],[]⟩ [.ref a] [.ref a] _ _ hr e0 (hbind s₁ (.ref a)) (.cons rfl .nil) (hsp H hO hS)) fun r s' h=>?_
  cases r with
  | error e=>exact (hCX H e s' h).elim
  | ok fl =>
   cases fl with
   | next=>exact a0O h
   | brk=>exact a0O h
   | cont=>exact a0O h
   | ret u =>
    obtain ⟨v,H',os,bare,un,hok',r',q⟩:=h
    have q':v=.bl true:=q
    subst q'
    obtain rfl:u=Value.bool true:=r'
    refine ⟨rfl,OldK.of_keep fun b o e=>?_,os,bare⟩
    cases q:H b with
    | none=>exact un.keep b o e q (by intro z; exact absurd (show b∈([]:List Addr) from z) (by simp)) (by simp)
    | some u =>
     rcases hO b with z | ⟨ob,xs,z⟩
     ·rw [q] at z; cases z
     ·have z2:=un.frzs b ob _ z
      obtain ⟨e1,_⟩:=hok b _ z
      obtain ⟨e2,_⟩:=hok' b _ z2
      rw [e] at e1; cases e1
      exact e2
 cases hk:K.lookup a with
 | some o =>
  -- the script is one of the module's own objects
  have e:=KX a o hk
  rw [ha] at e
  cases e
  refine core (fun _=>none) (fun _=>.inl rfl) (.inr ⟨_,vs.toArray,_,hk,rfl,rfl,rfl,by rw [a0i,lenV]; exact hl,by simpa using rv⟩) (fun b u z=>by have z':(none:Option HO)=some u:=z; cases z') (fun b z=>absurd rfl z) fun z=>absurd rfl z
 | none =>
  refine core (fun b=>if b=a then some (.frz { cls:=.type "list",data:=.seq vs.toArray } (.lst (ns.map V.int))) else none) (fun b=>?_) (.inl (.inr ⟨{ cls:=.type "list",data:=.seq vs.toArray },if_pos rfl⟩)) (fun b u z=>?_) (fun b z=>?_) fun _=>hk
  ·by_cases hb:b=a
   ·exact .inr ⟨_,_,if_pos hb⟩
   ·exact .inl (if_neg hb)
  ·by_cases hb:b=a
   ·have z':=(if_pos hb).symm.trans z
    cases z'
    subst hb
    exact ⟨ha,by rw [a0g]; exact hl,vs,_,rv,ha⟩
   ·have z':=(if_neg hb).symm.trans z
    cases z'
  ·by_cases hb:b=a
   ·exact hb
   ·exact absurd (if_neg hb) z
end L2
namespace L2
open PySem PySem.Spec PyProof.Rows
theorem walk_of {l:a1K}{n k:Nat}{q:Program}{loose:List Str}{XP:(Str->Option Value)->Heap->Prop}{YP:World->Heap->Prop}{d:DefRec}{K:Params->a0a}{CX:World->CXT}{sp:World->Sp}{x:Str}
  (hn:l.most=some n) (hn2:n<=sizeLine) (hdf:d.params.defaults=[]) (hr:Room k callerA)
  (hY:∀ (w:World) (h:Heap),YP w h->(K w.params).In h)
  (F:∀ (w:World) (mg:Str->Option Value) (fa:Addr) (h:Heap),(K w.params).In h->h.Ns mainGlobals mg->mg d.name=some (.ref fa) ->
   ∃ fd:FuncData,(∀ (s:Shared) (u:Value),BindsTo s fd ⟨[u],[]⟩ [(x,u)]) /\
    ∀ base:Heap,(K w.params).In base->base.Ns mainGlobals mg->aS l.prog w (K w.params) mg base (CX w) k fa fd [x] (sp w))
  (hsp:∀ (w:World) (H:Hp) (a:Addr) (ns:List Int),ns.length<=n->iu H->SqL (K w.params) H a (ns.map V.int)->sp w [.ref a] H (fun v _=>v=.bl true) fun _ _ _=>False)
  (hCX:∀ (w:World) (H:Hp) (s:Shared) (e:Value) (s':Shared),CX w [] H s (fun _ _ _=>False) e s'->False) :
  a2y q loose XP YP l.row.toRowW d [] (fun f vs=>a2x f vs):=by
 refine Att.attach_call hn hdf fun w s₀ s₁ mg mb fa o pm cd doc a vs ns G Y ho hd hcd hmg hobj hints hlen hg=>?_
 have KX:=hY w _ Y
 obtain ⟨fd,hb,hF⟩:=F w mg fa _ KX G.T.g hmg
 exact ig KX G.T.g G.T.b G.T.builtins G.T.nolimit hg hobj hints (a0k hlen hn2) hr hF hb (fun H hO hS=>hsp w H a ns hlen hO hS) fun H e s'=>hCX w H s₁ e s'
end L2
namespace L2
open PySem PySem.Spec PyProof.Rows
noncomputable def defArgs (s:Stmt):Arguments:=match s with
 | .FunctionDef _ a _ _ _ _ _ _ _ _=>a
 | _=>{ posonlyargs:=[],args:=[],vararg:=none,kwonlyargs:=[],kw_defaults:=[],kwarg:=none,defaults:=[] }
noncomputable def defBody (s:Stmt):List Stmt:=match s with
 | .FunctionDef _ _ b _ _ _ _ _ _ _=>b
 | _=>[]
noncomputable def defScope (s:Stmt):Scope:=match s with
 | .FunctionDef _ _ _ _ _ _ sc _ _ _=>sc
 | _=>{ kind:=.function,names:=[],isGenerator:=false,isCoroutine:=false }
noncomputable abbrev CX0:CXT:=fun _ _ _ _ _ _=>False
noncomputable abbrev E0:XK:=fun _ _ _=>False
theorem nJ {X:Cx}:cA CX0 X E0:=fun _ _ _ _ _ _ _ h=>h.elim
structure Fun (K:a0a)(x qual:Str)(st:Stmt)(f:Addr)(fd:FuncData):Prop where
 ex:∃ (oc:Value) (od:Option Addr) (kV doc pm:Value) (an:Option Addr) (cdv ct:Value) (osl:Array (Option Value)),
  fd=a0r x qual (defArgs st) (defBody st) (defScope st) .none kV doc pm an cdv ct/\K.lookup f=some ⟨oc,od,.func fd,osl⟩/\a1s K cdv qual=true
 kp:a0W K (.ref f)=true
section
variable {P:Program}{w:World}{K:a0a}{mg:Str->Option Value}{base:Heap}
theorem Fun.ok {x qual:Str}{st:Stmt}{f:Addr}{fd:FuncData}{N ps:List Str}{k:Nat}{sp:Sp}(F:Fun K x qual st f fd)(S:aD N ps (defScope st))(len:∀ vs H Q E,sp vs H Q E->vs.length=ps.length)
  (hbody:∀ (cdv:Value) (A:Around) (outer:List Env) (s:Shared) (H:Hp) (vs:List V) (Q:VK) (E:XK),Room k (A.deeper (envOfC qual (defScope st) s.heap.objs.size f cdv))->sp vs H Q E ->
   ∃ t,PSs (dF CX0 P w K mg base N qual (defScope st) f cdv A outer s H E).nox (defBody st) t/\t { nx:=fun _ H'=>Q .non H',rt:=Q } (start N vs) H):aS P w K mg base CX0 (k+1) f fd ps sp:=by
 obtain ⟨oc,od,kV,doc,pm,an,cdv,ct,osl,rfl,lk,hcd⟩:=F.ex
 refine uU lk hcd S len fun A outer s H vs Q E hr hsp=>?_
 obtain ⟨t,h,q⟩:=hbody cdv A outer s H vs Q E hr hsp
 exact ⟨t,h.nox,q⟩
theorem Fun.binds {x qual:Str}{st:Stmt}{f:Addr}{fd:FuncData}{ps:List Str}(F:Fun K x qual st f fd)
  (h:∀ (kV doc pm:Value) (an:Option Addr) (cdv ct:Value) (us:List Value),us.length=ps.length->bindArgs (a0r x qual (defArgs st) (defBody st) (defScope st) .none kV doc pm an cdv ct) ⟨us,[]⟩=pure (ps.zip us)):Binds K fd ps []:=by
 obtain ⟨oc,od,kV,doc,pm,an,cdv,ct,osl,rfl,lk,hcd⟩:=F.ex
 exact .all (h kV doc pm an cdv ct)
theorem jg {x qual:Str}{st:Stmt}{f:Addr}{oc:Value}{od an:Option Addr}{osl:Array (Option Value)}{kV doc pm cdv ct:Value}(l:K.lookup f=some ⟨oc,od,.func (a0r x qual (defArgs st) (defBody st) (defScope st) .none kV doc pm an cdv ct),osl⟩)
  (c:a1s K cdv qual=true) (k:a0W K (.ref f)=true):Fun K x qual st f (a0r x qual (defArgs st) (defBody st) (defScope st) .none kV doc pm an cdv ct):=⟨⟨oc,od,kV,doc,pm,an,cdv,ct,osl,rfl,l,c⟩,k⟩
end
noncomputable def Same (H H':Hp):Prop:=∀ b o,H b=some o->H' b=some o
theorem Same.refl (H:Hp):Same H H:=fun _ _ h=>h
end L2
namespace L2
open PySem PySem.Spec PyProof.Rows
end L2
namespace L2
open PySem PySem.Spec PyProof.Rows
end L2

set_option maxHeartbeats 4000000
namespace L3
open PySem PySem.Spec PyProof.Rows L2
noncomputable abbrev noX:Value->Shared->Prop:=fun _ _=>False
theorem g0 {P:Program}{w:World}{H:Hp}{h:Heap}{a:Addr}{o:HO}(x:HOk P w H h)(hn:H a=none)(new:ObjOk P w (upd H a o) h a o):HOk P w (upd H a o) h:=by
 intro b u e
 by_cases hb:b=a
 ·subst hb
  rw [aA] at e
  cases e
  exact new
 ·rw [ae hb] at e
  refine (x b u e).stay (fun c v _ q=>q) (fun c q=>?_) (fun c xs q=>?_)
  ·rw [ae (aF q hn)]; exact q
  ·rw [ae (aF q hn)]; exact q
section
variable {prog:Program}{w:World}{A:Around}{R:Result->Shared->Prop}{s:Shared}
theorem fo {elt tg iter:Expr}{scope:Scope}{pos:Pos}{it acc:Value}{env:Env}(J:Nat->Shared->Prop)
  (turn:∀ n s,J n s->wpAny (model prog w) A (pyNext it) (fun r s₁=>match r with
   | none=>R (.ok .next) s₁
   | some v=>wpAny (model prog w) A (letOwnedTupleGo tg it v) (fun _ s₂=>wpAny (model prog w) A (assign tg env v) (fun _ s₃ =>
     wpAny (model prog w) A (eval elt env) (fun y s₄=>wpAny (model prog w) A (call (.builtin "list.append") [acc,y]) (fun _ s₅=>∃ m,m < n/\J m s₅) noX s₄) noX s₃) noX s₂) noX s₁) noX s)
  (n:Nat) (h:J n s):codeAny (model prog w) A (.compLoop (.ListComp elt [⟨tg,iter,[],0⟩] scope pos) 0 it acc env) R s:=by
 refine codeAny_loop rfl J (fun n s hJ=>?_) n h
 show wpAny _ A ((compTurn (.ListComp elt [⟨tg,iter,[],0⟩] scope pos) 0 it acc env).onRaise (fun x=>do noteFrame x env; theTreesLotGoes x)) _ _ s
 refine wpAny_noted ?_
 rw [compTurn_list]
 refine wpAny_bind (wpAny_standAt (wpAny_bind (wpAny_mono (turn n s hJ) (fun r s₁ h₁=>?_) fun _ _ z=>z.elim)))
 cases r with
 | none=>exact wpAny_pure h₁
 | some v =>
  refine wpAny_bind (wpAny_mono h₁ (fun _ s₂ h₂=>?_) fun _ _ z=>z.elim)
  refine wpAny_bind (wpAny_mono h₂ (fun _ s₃ h₃=>?_) fun _ _ z=>z.elim)
  refine wpAny_bind (wpAny_tests_nil ?_)
  exact wpAny_bind (wpAny_bind (wpAny_mono h₃ (fun y s₄ h₄=>wpAny_bind (wpAny_mono h₄ (fun _ s₅ h₅=>wpAny_pure (wpAny_pure ⟨rfl,h₅⟩)) fun _ _ z=>z.elim)) fun _ _ z=>z.elim))
end
noncomputable def aw (X:Cx)(N:List Str)(scope:Scope)(cl:List (Str×Addr))(C:Addr)(s:Shared)(H:Hp)(fp:List Addr):Cx where
 prog:=X.prog
 w:=X.w
 K:=X.K
 mg:=X.mg
 base:=X.base
 A:=X.A
 N:=N
 s₀:=s
 H₀:=H
 env:=compEnvC scope cl C X.env
 outer:=X.stack
 stack:=X.stack
 ex:=fp
 fn:=fun _=>false
 calm:=X.calm
 pn:=X.pn
 xe:=noX
inductive Clo (X:Cx):List (Str×Addr)->Prop
 | nil:Clo X []
 | cons {y:Str} {c:Addr} {cl:List (Str×Addr)}:X.env.cells.lookup y=some c->Clo X cl->Clo X ((y,c)::cl)
theorem Clo.get {X:Cx}{cl:List (Str×Addr)}(h:Clo X cl):∀ {y:Str} {c:Addr},cl.lookup y=some c->X.env.cells.lookup y=some c:=by
 induction h with
 | nil=>intro y c e; cases e
 | @cons z d cl' hz _ ih =>
  intro y c e
  cases q:y==z with
  | true =>
   simp only [a1k,q] at e
   cases e
   rw [eq_of_beq q]; exact hz
  | false =>
   simp only [a1k,q] at e
   exact ih e
inductive Frees (X:Cx)(scope:Scope)(cl:List (Str×Addr)):List Str->List Nat->Prop
 | nil:Frees X scope cl [] []
 | cons {y:Str} {ys:List Str} {i:Nat} {is:List Nat} {c:Addr}:X.N[i]?=some y->Vis X.env.scope y->(X.env.kindOf y=some .cell\/X.env.kindOf y=some .free)->X.env.cells.lookup y=some c->cl.lookup y=some c ->
   ((relabel scope X.env).names.lookup y=some .cell\/(relabel scope X.env).names.lookup y=some .free)->Frees X scope cl ys is->Frees X scope cl (y::ys) (i::is)
theorem Frees.len {X:Cx}{scope:Scope}{cl:List (Str×Addr)}{ys:List Str}{is:List Nat}(F:Frees X scope cl ys is):is.length=ys.length:=by
 induction F with
 | nil=>rfl
 | cons _ _ _ _ _ _ _ ih=>rw [a0o,a0o,ih]
noncomputable def a7 (σ:L2.St)(is:List Nat):L2.St:=is.map fun i=>(σ[i]?).join
theorem Frees.get {X:Cx}{scope:Scope}{cl:List (Str×Addr)}{ys:List Str}{is:List Nat}{σ:L2.St}(F:Frees X scope cl ys is):∀ {j:Nat} {y:Str} {v:V},ys[j]?=some y->(a7 σ is)[j]?=some (some v) ->
  ∃ (i:Nat) (c:Addr),X.N[i]?=some y/\σ[i]?=some (some v)/\Vis X.env.scope y/\(X.env.kindOf y=some .cell\/X.env.kindOf y=some .free)/\X.env.cells.lookup y=some c/\cl.lookup y=some c /\
   ((relabel scope X.env).names.lookup y=some .cell\/(relabel scope X.env).names.lookup y=some .free):=by
 induction F with
 | nil=>intro j y v e; simp at e
 | @cons z zs i is c h1 h2 h3 h4 h5 h6 _ ih =>
  intro j y v e1 e2
  unfold a7 at e2
  rw [a0u] at e2
  cases j with
  | zero =>
   rw [a1b] at e1 e2
   cases e1
   cases q:σ[i]? with
   | none=>rw [q] at e2; cases e2
   | some o =>
    rw [q] at e2
    have e3:o=some v:=a0q e2
    subst e3
    exact ⟨i,c,h1,q,h2,h3,h4,h5,h6⟩
  | succ j =>
   rw [a0p] at e1 e2
   exact ih e1 e2
noncomputable abbrev du (its:List Value):Obj:={ cls:=.type "list",data:=.seq its.toArray its.length }
inductive Th where
 | non | bl (b:Bool) | int (i:Int) | str (x:Str) | tup (ts:List Th) | lst (ts:List Th)
mutual
noncomputable def Has (K:a0a)(H:Hp):Th->V->Prop
 | .non,v=>v=.non
 | .bl b,v=>v=.bl b
 | .int i,v=>v=.int i
 | .str x,v=>v=.str x
 | .tup ts,v=>∃ a vs,v=.ref a/\SqT K H a vs/\HasL K H ts vs
 | .lst ts,v=>∃ a vs,v=.ref a/\H a=some (.lst vs)/\HasL K H ts vs
noncomputable def HasL (K:a0a)(H:Hp):List Th->List V->Prop
 | [],vs=>vs=[]
 | t::ts,vs=>∃ v r,vs=v::r/\Has K H t v/\HasL K H ts r
end
theorem Same.sqt {K:a0a}{H H':Hp}{a:Addr}{xs:List V}(e:Same H H')(h:SqT K H a xs):SqT K H' a xs:=by
 rcases h with (h | ⟨o,h⟩) | h
 ·exact .inl (.inl (e _ _ h))
 ·exact .inl (.inr ⟨o,e _ _ h⟩)
 ·exact .inr h
mutual
theorem Has.mono {K:a0a}{H H':Hp}(s:Same H H'):∀ {t:Th} {v:V},Has K H t v->Has K H' t v
 | .non,_,h=>h
 | .bl _,_,h=>h
 | .int _,_,h=>h
 | .str _,_,h=>h
 | .tup _,_,⟨a,vs,e,q,r⟩=>⟨a,vs,e,Same.sqt s q,HasL.mono s r⟩
 | .lst _,_,⟨a,vs,e,q,r⟩=>⟨a,vs,e,s _ _ q,HasL.mono s r⟩
theorem HasL.mono {K:a0a}{H H':Hp}(s:Same H H'):∀ {ts:List Th} {vs:List V},HasL K H ts vs->HasL K H' ts vs
 | [],_,h=>h
 | _::_,_,⟨v,r,e,q,z⟩=>⟨v,r,e,Has.mono s q,HasL.mono s z⟩
end
noncomputable def Th.ty:Th->String
 | .non=>"NoneType" | .bl _=>"bool" | .int _=>"int" | .str _=>"str" | .tup _=>"tuple" | .lst _=>"list"
noncomputable def isI (c:String)(t:Th):Bool:=t.ty==c || (t.ty=="bool"&&c=="int")
theorem ek {H:Hp}{p:Addr}(h:H p=none)(o:HO):Same H (upd H p o):=fun b u q=>by rw [ae (aF q h)]; exact q
noncomputable def nC (K:a0a):R2:=fun x y H Q=>∃ a b xs ys,x=.ref a/\y=.ref b/\SqT K H a xs/\SqT K H b ys/\xs≠[]/\xs.length+ys.length<=sizeLine/\∀ v H',Same H H'->(∃ c,v=.ref c/\SqT K H' c (xs++ys))->Q v H'
theorem kL {X:Cx}:OpR X (binaryOp .Add) (nC X.K):=fun pins s σ H x y v u Q I rx ry h=>by
 obtain ⟨a,b,xs,ys,e1,e2,h1,h2,hx,hz,q⟩:=h
 exact k6 pins s σ H x y v u Q I rx ry ⟨a,b,xs,ys,e1,e2,h1,h2,hx,hz,fun z=>q _ _ (Same.refl _) ⟨a,rfl,by rw [z,a0B]; exact h1⟩,fun _ p hp=>q _ _ (ek hp _) ⟨p,rfl,SqT.of aA⟩⟩
theorem ug {X:Cx}{x:Str}{T:String}{pos:Pos}(hg:Gl X x)(hm:X.mg x=none)(hv:bootBuiltins x=some (.type T))(hn:x≠"__name__":=by decide)(hd:(x==("__debug__":Str))=false:=by decide):PE X (.Name x pos) (tC (.ty T)):=my (v:=.ty T) hg hm hv rfl hn hd
theorem pO {X:Cx}{x:Str}{a:Addr}{pos:Pos}(hg:Gl X x)(hm:X.mg x=some (.ref a))(hd:(x==("__debug__":Str))=false:=by decide):PE X (.Name x pos) (tC (.ref a)):=lW (v:=.ref a) hg hm rfl hd
mutual
noncomputable def toD:Th->PyData
 | .non=>.none
 | .bl b=>.bool b
 | .int i=>.int i
 | .str x=>.str x
 | .tup ts=>.tuple (bL ts)
 | .lst ts=>.list (bL ts)
noncomputable def bL:List Th->List PyData
 | []=>[]
 | t::ts=>toD t::bL ts
end
section
variable {X:Cx}{pins:List (Addr×Obj)}{σ:L2.St}{H:Hp}{s:Shared}
mutual
theorem Has.reads (I:Inv X pins σ H s):∀ {t:Th} {v:V} {u:Value},Has X.K H t v->RelV v u->∃ as,Reads s.heap u (toD t) as
 | .non,_,u,h,r=>by
  obtain rfl:_=V.non:=h
  obtain rfl:u=Value.none:=r
  exact ⟨_,.none⟩
 | .bl b,_,u,h,r=>by
  obtain rfl:_=V.bl b:=h
  obtain rfl:u=Value.bool b:=r
  exact ⟨_,.bool b⟩
 | .int i,_,u,h,r=>by
  obtain rfl:_=V.int i:=h
  obtain ⟨t,rfl⟩:∃ t,u=Value.int i t:=r
  exact ⟨_,.int i t⟩
 | .str x,_,u,h,r=>by
  obtain rfl:_=V.str x:=h
  obtain ⟨t,rfl⟩:∃ t,u=Value.str x t:=r
  exact ⟨_,.str x t⟩
 | .tup ts,_,u,⟨a,vs,e,hS,hL⟩,r=>by
  subst e
  obtain rfl:u=Value.ref a:=r
  obtain ⟨its,rv,⟨o,h1,h2,n,h3⟩,_⟩:=I.tuple hS
  obtain ⟨as,ra⟩:=HasL.reads I hL rv
  exact ⟨_,.tuple h1 h2 h3 (by simpa using ra)⟩
 | .lst ts,_,u,⟨a,vs,e,hS,hL⟩,r=>by
  subst e
  obtain rfl:u=Value.ref a:=r
  obtain ⟨its,rv,⟨o,n,h1,h2,_,h3⟩,_⟩:=I.list (SqL.of hS)
  obtain ⟨as,ra⟩:=HasL.reads I hL rv
  exact ⟨_,.list h1 h2 h3 (by simpa using ra)⟩
theorem HasL.reads (I:Inv X pins σ H s):∀ {ts:List Th} {vs:List V} {us:List Value},HasL X.K H ts vs->Vals vs us->∃ as,ReadsAll s.heap us (bL ts) as
 | [],vs,us,h,r=>by
  obtain rfl:vs=[]:=h
  cases r
  exact ⟨_,.nil⟩
 | t::ts,vs,us,⟨v,w',e,h1,h2⟩,r=>by
  subst e
  cases r with
  | cons r1 r2 =>
   obtain ⟨as,ra⟩:=Has.reads I h1 r1
   obtain ⟨bs,rb⟩:=HasL.reads I h2 r2
   exact ⟨_,.cons ra rb⟩
end
end
noncomputable abbrev dX (t:Th):Prop:=SeqAt.shaped (toD t)=true
theorem lR {X:Cx}(hu:X.A.units+64 < cLine):OpR X (compareOp .Eq) (fun x y H Q=>∃ t t',Has X.K H t x/\Has X.K H t' y/\dX t/\dX t'/\Q (.bl (PyData.eqv (toD t) (toD t'))) H):=by
 intro pins s σ H x y v u Q I rx ry h
 obtain ⟨t,t',h1,h2,o1,o2,q⟩:=h
 obtain ⟨as,ra⟩:=Has.reads I h1 rx
 obtain ⟨bs,rb⟩:=Has.reads I h2 ry
 exact a2H ra rb o1 o2 hu ⟨.bl _,H,I,rfl,q⟩
theorem lJ {X:Cx}(hu:X.A.units+64 < cLine):OpR X (compareOp .NotEq) (fun x y H Q=>∃ t t',Has X.K H t x/\Has X.K H t' y/\dX t/\dX t'/\Q (.bl (!PyData.eqv (toD t) (toD t'))) H):=by
 intro pins s σ H x y v u Q I rx ry h
 obtain ⟨t,t',h1,h2,o1,o2,q⟩:=h
 obtain ⟨as,ra⟩:=Has.reads I h1 rx
 obtain ⟨bs,rb⟩:=Has.reads I h2 ry
 exact a2I ra rb o1 o2 hu ⟨.bl _,H,I,rfl,q⟩
section
variable {prog:Program}{w:World}{A:Around}{E:Value->Shared->Prop}{s:Shared}
theorem bQ {t sl:Addr}{items:Array Value}{vl vu:Value}{lo hi:Option Int}{Q:Value->Shared->Prop}(ht:IsTup s.heap t items)(hs:s.heap.IsSliceOf sl vl vu .none)(pl:IsPart vl lo)(pu:IsPart vu hi)
  (hw:HT.sIx items.size 0 lo=0/\HT.sIx items.size items.size hi=items.size) (h:Q (.ref t) s):wpAny (model prog w) A (getItem (.ref t) (.ref sl)) Q E s:=by
 obtain ⟨os,hos,hcs,hds⟩:=id hs
 have hTs:s.TypeIs (.ref sl) "slice":=⟨os,hos,hcs⟩
 unfold getItem
 try with_reducible refine wpAny_holding ?_
 first | refine wpAny_bind (wpAny_pure ?_) | skip
 refine wpAny_bind (wpAny_sequenceKey ht.typeIs (by decide) ?_)
 refine wpAny_bind (wpAny_callSpecial?_slot (name:=Str.ofString "__getitem__") ht.typeIs a0s
  (wpAny_call_entry a0s ht.typeIs entry_tuple_getitem ?_ (args_tuple_getitem _ _)))
 show wpAny _ _ (Builtin.Tuple.tupleItemsOf (.ref t) >>= _) _ _ s
 refine wpAny_bind (tupleItemsOf_ ht ?_)
 refine wpAny_bind (wpAny_typeOf hTs ?_)
 rw [if_pos (by decide)]
 refine wpAny_bind (HT.sliceApplied_gen hs pl pu ?_)
 have hyes:(((HT.sIx items.size 0 lo:Nat):Int)==0&&(1:Int)==1&&(HT.sIx items.size items.size hi-HT.sIx items.size 0 lo)==items.size)=true:=by
  rw [hw.1,hw.2]
  simp
 show wpAny _ _ (if (((HT.sIx items.size 0 lo:Nat):Int)==0&&(1:Int)==1&&(HT.sIx items.size items.size hi-HT.sIx items.size 0 lo)==items.size)=true then _ else _) _ _ s
 rw [if_pos hyes]
 unfold Builtin.Tuple.tupleIsExact
 refine wpAny_bind (wpAny_bind (wpAny_typeOf ht.typeIs (wpAny_pure ?_)))
 rw [if_pos (by decide)]
 first
  | exact wpAny_bind (wpAny_rule (wpAny_pure ⟨_,rfl,wpAny_pure h⟩))
  | exact wpAny_bind (wpAny_rule (wpAny_bind (wpAny_pure (wpAny_pure ⟨_,rfl,wpAny_pure h⟩))))
end
section
variable {X:Cx}
noncomputable def qN (K:a0a):V->Option Int->Option Int->Hp->VK->Prop:=fun x lo hi H Q=>∃ a xs,x=.ref a/\SqT K H a xs/\∀ v H',Same H H'->(∃ c,v=.ref c/\SqT K H' c (bJ xs lo hi))->Q v H'
theorem l9:SlR X (qN X.K):=by
 intro pins s σ H x v vl vu lo hi sl Q I rx hs pl pu h
 obtain ⟨a,xs,rfl,hx,q⟩:=h
 by_cases hw:HT.sIx xs.length 0 lo=0/\HT.sIx xs.length xs.length hi=xs.length
 ·cases rx
  obtain ⟨its,r,ht,hz⟩:=I.tuple hx
  have hlen:its.toArray.size=xs.length:=by rw [a0i]; exact r.length.symm
  refine ⟨"tuple",_,a0s.lookup,ht.typeIs,?_⟩
  refine bQ ht hs pl pu (by rw [hlen]; exact hw) ⟨.ref a,H,I,rfl,q _ _ (Same.refl H) ⟨a,rfl,?_⟩⟩
  have e:bJ xs lo hi=xs:=by
   unfold bJ
   rw [hw.1,hw.2]
   simp
  rw [e]
  exact hx
 ·exact pC pins s σ H _ v vl vu lo hi sl Q I rx hs pl pu ⟨a,xs,rfl,hx,hw,fun p hp=>q _ _ (ek hp _) ⟨p,rfl,SqT.of aA⟩⟩
end
noncomputable def vj (K:a0a):R2:=fun x y H Q=>∃ p xs i v,x=.ref p/\y=.int i/\(SqL K H p xs\/SqT K H p xs)/\atI xs i=some v/\Q v H
theorem ix_any {X:Cx}:IxR X (vj X.K):=fun value slice pins s σ H x y v u Q I rx ry h hs=>by
 obtain ⟨p,xs,i,z,e1,e2,hq,ha,q⟩:=h
 rcases hq with hq | hq
 ·exact lN value slice pins s σ H x y v u Q I rx ry ⟨p,xs,i,z,e1,e2,hq,ha,q⟩ hs
 ·exact pE value slice pins s σ H x y v u Q I rx ry ⟨p,xs,i,z,e1,e2,hq,ha,q⟩ hs
end L3

namespace L3
open PySem PySem.Spec PySem.Builtin PySem.Builtin.Str PyProof.Rows L2
theorem dq:∀ {ts:List a1Z} {its:List Value},Vals (ts.map V.str) its->∃ l:List (a1Z×Tok),its=strValues l/\l.map (·.1)=ts
 | [],_,h=>by
  cases h
  exact ⟨[],rfl,rfl⟩
 | t::ts,_,h=>by
  cases h with
  | cons h1 h2 =>
   obtain ⟨k,rfl⟩:=h1
   obtain ⟨l,rfl,e⟩:=dq h2
   exact ⟨(t,k)::l,rfl,by rw [a0u,e]⟩
section
variable {X:Cx}
noncomputable def ny (K:a0a):V->List V->Hp->VK->Prop:=fun x vs H Q=>∃ z p ts,x=.str z/\vs=[.ref p]/\SqL K H p (ts.map V.str)/\JoinOk z ts=true/\Q (.str (a1S z ts)) H
theorem mH:MtR X "str.join" (ny X.K):=by
 intro pins s σ H x vs v us Q I rx rv h
 obtain ⟨z,p,ts,rfl,rfl,hS,hok,q⟩:=h
 obtain ⟨t,rfl⟩:=rx
 obtain ⟨u,rfl,ru⟩:=rv.one
 cases ru
 obtain ⟨its,r,pl,_⟩:=I.list hS
 obtain ⟨l,rfl,e⟩:=dq r
 exact SC.join pl.isList e hok fun t' k=>⟨.str (a1S z ts),H,I.tok _,⟨t',by rw [show Txt.join z ts=a1S z ts from StrLaws.glued_eq_join z ts]⟩,q⟩
end
end L3

namespace L3
open PySem PySem.Spec PyProof.Rows L2
end L3
namespace L3
open PySem PySem.Spec PyProof.Rows L2
structure aJ (pre ys:List Str)(scope:Scope):Prop where
 kind:scope.kind=.function
 cell:∀ y∈scope.names,y.2≠.cell
 nm:∀ y∈scope.names,y.2=.local->scope.names.lookup y.1=some .local
 loc:∀ x∈pre,scope.names.lookup x=some .local
 nd:(pre++ys).Nodup
theorem ia {pre:List Str}{τ:L2.St}{j:Nat}{v:V}(e:(a0b pre.length none++τ)[j]?=some (some v)):∃ i,j=pre.length+i/\τ[i]?=some (some v):=by
 by_cases hj:j < pre.length
 ·rw [a0J (by rw [a0A]; exact hj),a09,if_pos hj] at e
  cases a0q e
 ·refine ⟨j-pre.length,by omega,?_⟩
  rw [a0F (by rw [a0A]; omega),a0A] at e
  exact e
theorem gP {X:Cx}{pins:List (Addr×Obj)}{σ:L2.St}{H:Hp}{s:Shared}{pre ys:List Str}{is:List Nat}{scope:Scope}{cl:List (Str×Addr)}{fp:List Addr}{C:Addr}{h1:Heap}{t1:Nat}{m1:Str->Option Value}
  (I:Inv X pins σ H s) (hf:∀ b∈fp,d6 X pins H b) (hfo:∀ b∈fp,b < s.heap.objs.size) (S:aJ pre ys scope) (hcl:Clo X cl)
  (hfr:(scope.names.all fun p=>p.2 != .free || (cl.lookup p.1).isSome)=true) (fr:Frees X scope cl ys is)
  (hC:s.heap.objs.size<=C) (old:∀ b o,s.heap.get? b=some o->h1.get? b=some o) (hn:h1.Ns C m1) :
  Inv (aw X (pre++ys) scope cl C s H fp) pins (a0b pre.length none++a7 σ is) H { s with heap:=h1,toks:=t1 }:=by
 have stk:∀ b,b≠X.env.locals->b ∉ X.fs->b ∉ frs X.stack:=fun b q1 q2 hb=>(a0Q.mp (I.stkSub b hb)).elim q1 q2
 have key:∀ a k,(relabel scope X.env).names.lookup a=some k->(k=.cell\/k=.free)->∃ c,cl.lookup a=some c:=fun a k e hk=>by
  have hm:=a0P e
  obtain ⟨⟨n,k0⟩,hp,ep⟩:=a2b.mp hm
  have hk0:k0=.free/\n=a:=by
   dsimp only at ep
   split at ep
   ·rename_i hc
    simp only [a0d] at hc
    exact ⟨eq_of_beq hc.1.1,(a2N ep).1⟩
   ·obtain ⟨e1,e2⟩:=a2N ep
    subst e2
    rcases hk with z | z
    ·exact absurd z (S.cell _ hp)
    ·exact ⟨z,e1⟩
  obtain ⟨z1,z2⟩:=hk0
  subst z1 z2
  have q:=a1l.mp hfr _ hp
  have q2:(cl.lookup n).isSome=true:=by simpa using q
  exact a1v.mp q2
 refine ⟨⟨I.ok.mod,S.kind,I.ok.glob,I.ok.blt,hC,fun a b c e1 e2=>I.ok.inj a b c (hcl.get e1) (hcl.get e2),fun a ha=>?_,fun a c e=>absurd e a0m,I.ok.hd,I.ok.frames,.inl rfl,
   fun b hb=>⟨a0y (a0h (hfo b hb) hC),fun a c e=>(hf b hb).2.2.2.2.1 a c (hcl.get e)⟩,I.bs,a0k I.ok.bsz I.sz,fun b o e hb=>?_,fun b hb=>stk b (hf b hb).2.1 (hf b hb).2.2.1,I.stack,I.stkFree⟩,
  rfl,I.bare,Un.kept old,⟨m1,hn,fun j y v e1 e2 e3=>?_⟩,fun a c e=>?_,I.hok.fresh hC,fun a c e=>I.freeC a c (hcl.get e),fun p hp=>?_,I.hok.kept old,?_⟩
 ·rcases ha with e | e
  ·exact key a _ e (.inl rfl)
  ·exact key a _ e (.inr rfl)
 ·rcases (hf b hb).2.2.2.1 with z | z
  ·exact I.ok.noex b o e z
  ·exact absurd (a0h (Heap.lt_size (I.ok.bs b o e).1) z) (a01 _)
 ·obtain ⟨k,rfl,e2'⟩:=ia e2
  have e1':ys[k]?=some y:=by
   have e1'':(pre++ys)[pre.length+k]?=some y:=e1
   rw [a0F (by omega),Nat.add_sub_cancel_left] at e1''
   exact e1''
  obtain ⟨i,c,g1,g2,g3,g4,g5,g6,g7⟩:=fr.get (σ:=σ) e1' e2'
  obtain ⟨m0,hn0,hl0⟩:=I.loc
  obtain ⟨u,r,l⟩:=hl0 i y v g1 g2 g3
  rcases l with ⟨k,_⟩ | ⟨_,c',e',z⟩
  ·rcases g4 with q | q
   ·rw [k] at q; cases q
   ·rw [k] at q; cases q
  ·rw [g5] at e'
   cases e'
   obtain ⟨o,ho,hd⟩:=z
   exact ⟨u,r,.inr ⟨g7,c,g6,⟨o,old _ _ ho,hd⟩⟩⟩
 ·obtain ⟨v,o,ho,hd⟩:=I.cell a c (hcl.get e)
  exact ⟨v,o,old _ _ ho,hd⟩
 ·obtain ⟨e,n,ne,nf,d⟩:=I.pin p hp
  exact ⟨old _ _ e,n,a0y (a0h (Heap.lt_size e) hC),stk _ ne nf,d⟩
 ·show (a0b pre.length none++a7 σ is).length=(pre++ys).length
  unfold a7
  rw [a0t,a0t,a0A,a0g,fr.len]
end L3
namespace L3
open PySem PySem.Spec PyProof.Rows L2
end L3
namespace L3
open PySem PySem.Spec PyProof.Rows L2
end L3
namespace L3
open PySem PySem.Spec PyProof.Rows L2
end L3
namespace L3
open PySem PySem.Spec PyProof.Rows L2
end L3
namespace L3
open PySem PySem.Spec PyProof.Rows L2
section
variable {prog:Program}{w:World}{A:Around}{R:Result->Shared->Prop}{s:Shared}
theorem ee {elt tg iter cnd:Expr}{scope:Scope}{pos:Pos}{it acc:Value}{env:Env}(J:Nat->Shared->Prop)
  (turn:∀ n s,J n s->wpAny (model prog w) A (pyNext it) (fun r s₁=>match r with
   | none=>R (.ok .next) s₁
   | some v=>wpAny (model prog w) A (letOwnedTupleGo tg it v) (fun _ s₂=>wpAny (model prog w) A (assign tg env v) (fun _ s₃=>wpAny (model prog w) A (isTrue cnd env (eval cnd env)) (fun ok s₄=>if ok=true then
     wpAny (model prog w) A (eval elt env) (fun y s₅=>wpAny (model prog w) A (call (.builtin "list.append") [acc,y]) (fun _ s₆=>∃ m,m < n/\J m s₆) noX s₅) noX s₄ else ∃ m,m < n/\J m s₄) noX s₃) noX s₂) noX s₁) noX s)
  (n:Nat) (h:J n s):codeAny (model prog w) A (.compLoop (.ListComp elt [⟨tg,iter,[cnd],0⟩] scope pos) 0 it acc env) R s:=by
 refine codeAny_loop rfl J (fun n s hJ=>?_) n h
 show wpAny _ A ((compTurn (.ListComp elt [⟨tg,iter,[cnd],0⟩] scope pos) 0 it acc env).onRaise (fun x=>do noteFrame x env; theTreesLotGoes x)) _ _ s
 refine wpAny_noted ?_
 rw [compTurn_list]
 refine wpAny_bind (wpAny_standAt (wpAny_bind (wpAny_mono (turn n s hJ) (fun r s₁ h₁=>?_) fun _ _ z=>z.elim)))
 cases r with
 | none=>exact wpAny_pure h₁
 | some v =>
  refine wpAny_bind (wpAny_mono h₁ (fun _ s₂ h₂=>?_) fun _ _ z=>z.elim)
  refine wpAny_bind (wpAny_mono h₂ (fun _ s₃ h₃=>?_) fun _ _ z=>z.elim)
  refine wpAny_bind (wpAny_tests_one (wpAny_mono h₃ (fun ok s₄ h₄=>?_) fun _ _ z=>z.elim))
  cases ok with
  | true=>exact wpAny_bind (wpAny_bind (wpAny_mono h₄ (fun y s₅ h₅=>wpAny_bind (wpAny_mono h₅ (fun _ s₆ h₆=>wpAny_pure (wpAny_pure ⟨rfl,h₆⟩)) fun _ _ z=>z.elim)) fun _ _ z=>z.elim))
  | false=>exact wpAny_bind (wpAny_pure (wpAny_pure ⟨rfl,h₄⟩))
end
end L3

namespace L3
open PySem PySem.Spec PyProof.Rows L2
noncomputable def lT (n:Nat)(J:It)(g:TG)(tc:TT)(te:TE)(σ':L2.St)(H1:Hp)(Q:VK):Prop:=∃ W:Nat->Nat->List V->Hp->Prop,(∃ m,W 0 m [] H1)/\∀ i m ys H,W i m ys H ->
 (J.stop i H/\ys.length<=sizeLine/\∀ p,H p=none->Q (.ref p) (upd H p (.lst ys))) \/
 (J.go i H/\ys.length < sizeLine/\∀ x H',J.yld i H x H'->g x (a0b n none++σ') H' fun σ2 H2=>(σ2.length=n+σ'.length/\σ2.drop n=σ')/\tc σ2 H2 fun ok H3=>if ok=true then te σ2 H3 fun y H4=>∃ m',m' < m/\W (i+1) m' (ys++[y]) H4 else ∃ m',m' < m/\W (i+1) m' ys H3)
noncomputable def km (n:Nat)(J:It)(g:TG)(te:TE)(σ':L2.St)(H1:Hp)(Q:VK):Prop:=∃ W:Nat->Nat->List V->Hp->Prop,(∃ m,W 0 m [] H1)/\∀ i m ys H,W i m ys H ->
 (J.stop i H/\ys.length<=sizeLine/\∀ p,H p=none->Q (.ref p) (upd H p (.lst ys))) \/
 (J.go i H/\ys.length < sizeLine/\∀ x H',J.yld i H x H'->g x (a0b n none++σ') H' fun σ2 H2=>(σ2.length=n+σ'.length/\σ2.drop n=σ')/\te σ2 H2 fun y H4=>∃ m',m' < m/\W (i+1) m' (ys++[y]) H4)
noncomputable def eQ (n:Nat)(wi:TI)(is:List Nat)(g:TG)(tc:TT)(te:TE):TE:=fun σ H Q=>wi σ H fun J H1=>lT n J g tc te (a7 σ is) H1 Q
noncomputable def eL (n:Nat)(wi:TI)(is:List Nat)(g:TG)(te:TE):TE:=fun σ H Q=>wi σ H fun J H1=>km n J g te (a7 σ is) H1 Q
theorem jw {n:Nat}{σ2 σ':L2.St}(h:σ2.drop n=σ'){j:Nat}{w:V}(e:(a0b n none++σ')[j]?=some (some w)):σ2[j]?=some (some w):=by
 by_cases hj:j < n
 ·rw [a0J (by simpa using hj),a09,if_pos hj] at e
  cases a0q e
 ·rw [a0F (by simpa using hj),a0A,<- h,List.getElem?_drop,Nat.add_sub_cancel' (by omega)] at e
  exact e
noncomputable def CW (X:Cx)(cs:List Expr)(k:Bool->Shared->Prop)(s:Shared):Prop:=match cs with
 | []=>k true s
 | [c]=>wpAny (model X.prog X.w) X.A (isTrue c X.env (eval c X.env)) k noX s
 | _=>False
noncomputable def PC (X:Cx)(cs:List Expr)(tc:TT):Prop:=∀ (pins:List (Addr×Obj)) (s:Shared) (σ:L2.St) (H:Hp) (Q:Bool->Hp->Prop),Inv X pins σ H s->tc σ H Q->CW X cs (fun ok s'=>∃ H',Inv X pins σ H' s'/\Q ok H') s
theorem CW.mono {X:Cx}{cs:List Expr}{k k':Bool->Shared->Prop}{s:Shared}(h:CW X cs k s)(w:∀ b s,k b s->k' b s):CW X cs k' s:=by
 match cs,h with
 | [],h=>exact w _ _ h
 | [c],h=>exact wpAny_mono h w fun _ _ z=>z
theorem eh {X:Cx}{elt tg iter:Expr}{cs:List Expr}{scope:Scope}{pos:Pos}{it acc:Value}{R:Result->Shared->Prop}{s:Shared}(J:Nat->Shared->Prop)
  (turn:∀ n s,J n s->wpAny (model X.prog X.w) X.A (pyNext it) (fun r s₁=>match r with
   | none=>R (.ok .next) s₁
   | some v=>wpAny (model X.prog X.w) X.A (letOwnedTupleGo tg it v) (fun _ s₂=>wpAny (model X.prog X.w) X.A (assign tg X.env v) (fun _ s₃=>CW X cs (fun ok s₄=>if ok=true then
     wpAny (model X.prog X.w) X.A (eval elt X.env) (fun y s₅=>wpAny (model X.prog X.w) X.A (call (.builtin "list.append") [acc,y]) (fun _ s₆=>∃ m,m < n/\J m s₆) noX s₅) noX s₄ else ∃ m,m < n/\J m s₄) s₃) noX s₂) noX s₁) noX s)
  (n:Nat) (h:J n s) (hcs:cs.length<=1):codeAny (model X.prog X.w) X.A (.compLoop (.ListComp elt [⟨tg,iter,cs,0⟩] scope pos) 0 it acc X.env) R s:=by
 match cs,hcs with
 | [],_=>exact fo J turn n h
 | [c],_=>exact ee J turn n h
theorem ij {X:Cx}{elt iter tg:Expr}{cs:List Expr}{pre:List Str}{pos:Pos}{scope:Scope}{cl:List (Str×Addr)}{ys:List Str}{is:List Nat}{wi:TI}{g:TG}{te:TE}{tc:TT}{use:Option (Value->Sem Unit)}{Q:VK}{Qp:Value->Shared->Prop}{pins:List (Addr×Obj)}{s:Shared}{σ:L2.St}{H:Hp}{ip:Pos}
  (hc:X.calm=true) (hi:PI X tg iter wi) (hg:∀ C s H fp,PG (aw X (pre++ys) scope cl C s H fp) tg g) (he:∀ C s H fp,PE (aw X (pre++ys) scope cl C s H fp) elt te) (hcd:∀ C s H fp,PC (aw X (pre++ys) scope cl C s H fp) cs tc) (hcs:cs.length<=1)
  (hclos:closureFor scope X.env=pure cl) (S:aJ pre ys scope) (hcl:Clo X cl) (hfr:(scope.names.all fun p=>p.2 != .free || (cl.lookup p.1).isSome)=true) (fr:Frees X scope cl ys is) (hs:∀ v,foldedSetIterable iter X.env v=pure v)
  (fin:∀ (s4:Shared) (Hn:Hp) (D L:Addr) (m4:Str->Option Value),Inv X pins σ Hn s4->s4.heap.Ns L m4->L≠X.env.locals->(∀ a c,X.env.cells.lookup a=some c->c≠L)->Hn L=none->X.s₀.heap.objs.size<=L->(∀ p∈X.pn++pins,p.1≠L)->Q (.ref D) Hn->compPost (model X.prog X.w) X.A X.xe use Qp (.ref D) L (.ok .next) s4)
  (I:Inv X pins σ H s) (h:eQ pre.length wi is g tc te σ H Q) :
  wpAny (model X.prog X.w) X.A (comprehension (.ListComp elt [⟨tg,iter,cs,0⟩] scope pos) scope X.env ip (newList []) false (eval iter X.env) use) Qp X.xe s:=by
 refine wpAny_comprehension_free (use:=use) rfl hs hclos S.kind S.nm (thn (hi pins s σ H _ I h) fun xv s1 h1=>thn h1 fun itv s2 h2=>?_)
 obtain ⟨it,fp,tn,J,H2,rfl,I2,T,st2,f2,W,⟨m0,w0⟩,turn⟩:=h2
 have fpo:∀ b∈fp,b < s2.heap.objs.size:=fun b hb=>by
  obtain ⟨o,e,_⟩:=T.obj _ _ st2 b hb
  exact Heap.lt_size e
 refine wpAny_newObj_type (wpAny_newFunctionEnv S.cell (fun y hy=>by cases hy) (fun g' hns hsb=>?_) S.kind)
 dsimp only at hns hsb ⊢
 generalize hP2:s2.heap.push { cls:=.type "list",dict:=none,data:=.seq ([]:List Value).toArray }=P2 at hns hsb ⊢
 have hCs:P2.objs.size=s2.heap.objs.size+1:=by rw [<- hP2,Heap.size_push]
 have hDC:s2.heap.objs.size≠P2.objs.size:=by omega
 have hle:s2.heap.objs.size<=P2.objs.size:=by omega
 have nc:∀ b o,s2.heap.get? b=some o->b≠P2.objs.size:=fun b o e=>a0y (a0h (Heap.lt_size e) hle)
 have nd:∀ b o,s2.heap.get? b=some o->b≠s2.heap.objs.size:=fun b o e=>a0y (Heap.lt_size e)
 have ndH:∀ b u,H2 b=some u->b≠s2.heap.objs.size:=fun b u e=>a0y (I2.hok.lt e)
 have old:∀ b o,s2.heap.get? b=some o->g'.get? b=some o:=fun b o e=>hsb.extBut b o (nc b o e) (Heap.get?_push_of_some _ (hP2 ▸ Heap.get?_push_of_some _ e))
 have accD:g'.get? s2.heap.objs.size=some (du []):=hsb.extBut _ _ hDC (Heap.get?_push_of_some _ (hP2 ▸ Heap.get?_push_size _ rfl))
 have stkD:s2.heap.objs.size ∉ frs X.stack:=fun hb=>(a0Q.mp (I2.stkSub _ hb)).elim (fun z=>absurd z (a05 I2.lt)) (I2.nofs (a0j _))
 generalize hσ':a7 σ is=σ' at turn
 have I3:Inv (aw X (pre++ys) scope cl P2.objs.size s2 H2 fp) pins (a0b pre.length none++σ') H2 { s2 with heap:=g',toks:=s2.toks+([]:List (Str×Value)).length }:=by rw [<- hσ']; exact gP (pre:=pre) I2 f2 fpo S hcl hfr fr hle old hns
 have stat:∀ {H':Hp} {o:Obj},(∀ b∈fp,H' b=none)->∀ b∈fp,d6 (aw X (pre++ys) scope cl P2.objs.size s2 H2 fp) (pins++[(s2.heap.objs.size,o)]) H' b:=fun {H' o} hn b hb=>by
  refine ⟨hn b hb,a0y (a0h (fpo b hb) hle),fun z=>(a0Q.mp (I2.stkSub _ z)).elim (f2 b hb).2.1 (f2 b hb).2.2.1,.inl hb,fun a c e=>(f2 b hb).2.2.2.2.1 a c (hcl.get e),fun p hp=>?_⟩
  rcases a0Y.mp hp with z | z
  ·exact (f2 b hb).2.2.2.2.2 p (a0N _ z)
  ·rcases a0Y.mp z with z | z
   ·exact (f2 b hb).2.2.2.2.2 p (a0c _ z)
   ·rw [a0L.mp z]
    exact a05 (fpo b hb)
 have loop:codeAny (model X.prog X.w) X.A (.compLoop (.ListComp elt [⟨tg,iter,cs,0⟩] scope pos) 0 (.ref it) (.ref s2.heap.objs.size) (compEnvC scope cl P2.objs.size X.env))
   (compPost (model X.prog X.w) X.A X.xe use Qp (.ref s2.heap.objs.size) P2.objs.size) { s2 with heap:=g',toks:=s2.toks+([]:List (Str×Value)).length }:=by
  refine eh (X:=aw X (pre++ys) scope cl P2.objs.size s2 H2 fp) (fun n s'=>∃ i zs its H',Inv (aw X (pre++ys) scope cl P2.objs.size s2 H2 fp) pins (a0b pre.length none++σ') H' s'/\tn i s'.heap/\(∀ b∈fp,H' b=none)/\s'.heap.get? s2.heap.objs.size=some (du its)/\Vals zs its/\H' s2.heap.objs.size=none/\W i n zs H')
   ?_ m0 ⟨0,[],[],H2,I3,T.keep _ _ _ st2 (fun b _ o e=>old b o e),fun b hb=>(f2 b hb).1,accD,.nil,I2.hok.fresh (a0j _),w0⟩ hcs
  rintro n s3 ⟨i,zs,its,H3,J3,st3,fr3,d3,rv3,nd3,w3⟩
  have hzl:=rv3.length
  have J3':Inv (aw X (pre++ys) scope cl P2.objs.size s2 H2 fp) (pins++[(s2.heap.objs.size,du its)]) (a0b pre.length none++σ') H3 s3:=J3.pins_of fun p hp=>by
   rcases a0Y.mp hp with z | z
   ·exact J3.pin p (a0c _ z)
   ·rw [a0L.mp z]
    exact ⟨d3,nd3,hDC,stkD,fun v q=>by cases q⟩
  rcases turn i n zs H3 w3 with ⟨stop,hz,q⟩ | ⟨go,hz,step⟩
  ·refine wpAny_mono (T.done (aw X (pre++ys) scope cl P2.objs.size s2 H2 fp) rfl rfl rfl hc i _ s3 _ H3 noX J3' (stat fr3) st3 stop) (fun r s4 h4=>?_) fun _ _ z=>z.elim
   obtain ⟨hr,I4⟩:=h4
   subst hr
   obtain ⟨m4,hn4,_⟩:=id I4.loc
   have f4:H3 P2.objs.size=none:=I4.free
   have d4:s4.heap.get? s2.heap.objs.size=some (du its):=(I4.pin (s2.heap.objs.size,du its) (a0c _ (a0c _ (a0L.mpr rfl)))).1
   have u4:Un (frs X.stack) fp H2 H3 s2.heap s4.heap:=I4.base
   have un:Un (frs X.stack) fp H2 (upd H3 s2.heap.objs.size (.lst zs)) s2.heap s4.heap :=
    ⟨u4.keep,u4.slot,fun b o e n hx=>by rw [ae (nd b o e)]; exact u4.free b o e n hx,u4.there,
     fun b xs q=>by rw [ae (ndH b _ q)]; exact u4.tups b xs q,fun b o u q=>by rw [ae (ndH b _ q)]; exact u4.frzs b o u q,fun b ps q=>by rw [ae (ndH b _ q)]; exact u4.tbls b ps q⟩
   have IX:Inv X pins σ (upd H3 s2.heap.objs.size (.lst zs)) s4:=I2.call' (s':=s4) (ch:=fp) I4.os un (g0 I4.hok nd3 ⟨hz,its,its.length,rv3,d4⟩) I4.bare
    (fun b hb=>⟨(f2 b hb).2.2.2.1,(f2 b hb).2.1,(f2 b hb).2.2.2.2.1,(f2 b hb).2.2.2.2.2⟩)
   have cL:P2.objs.size≠X.env.locals:=a05 (a0h I2.lt hle)
   have cC:∀ a c,X.env.cells.lookup a=some c->c≠P2.objs.size:=fun a c e=>by
    obtain ⟨v',o',ho',_⟩:=I2.cell a c e
    exact nc c o' ho'
   exact fin s4 _ s2.heap.objs.size P2.objs.size m4 IX hn4 cL cC (by rw [ae (a1G hDC)]; exact f4) (a0k I2.sz hle) (fun p hp=>nc p.1 _ (I2.pin p hp).1) (q _ nd3)
  ·refine wpAny_mono (T.item (aw X (pre++ys) scope cl P2.objs.size s2 H2 fp) rfl rfl rfl hc i _ s3 _ H3 noX J3' (stat fr3) st3 go) (fun r s4 h4=>?_) fun _ _ z=>z.elim
   obtain ⟨u,hr,h4⟩:=h4
   subst hr
   refine wpAny_mono h4 (fun _ s5 h5=>?_) fun _ _ z=>z.elim
   obtain ⟨v,H5,I5,r5,y5,st5,fr5⟩:=h5
   have I5':=I5.pinned (stat fr5) (T.obj _ _ st5)
   refine wpAny_mono (hg P2.objs.size s2 H2 fp _ s5 _ H5 v u _ I5' r5 (step v H5 y5)) (fun _ s6 h6=>?_) fun _ _ z=>z.elim
   obtain ⟨σ6,H6,I6,⟨hl6,hd6⟩,step'⟩:=h6
   have back:∀ {H7:Hp} {s7:Shared},Inv (aw X (pre++ys) scope cl P2.objs.size s2 H2 fp) ((pins++[(s2.heap.objs.size,du its)])++cq fp s5.heap) σ6 H7 s7->Inv (aw X (pre++ys) scope cl P2.objs.size s2 H2 fp) pins (a0b pre.length none++σ') H7 s7:=fun I7=>I7.unpinned.unpinned.weak (by rw [hl6,a0t,a0A]) fun j w' e=>jw hd6 e
   refine CW.mono (hcd P2.objs.size s2 H2 fp _ s6 _ H6 _ I6 step') fun ok s6' h6'=>?_
   obtain ⟨H6',I6',q6⟩:=h6'
   cases ok with
   | false =>
    rw [if_neg a0m] at q6
    obtain ⟨m',hm',w7⟩:=q6
    have pinD:=I6'.pin (s2.heap.objs.size,du its) (a0c _ (a0N _ (a0c _ (a0L.mpr rfl))))
    rw [if_neg a0m]
    refine ⟨m',hm',i+1,zs,its,H6',back I6',T.keep _ _ _ st5 fun b hb o e=>?_,fun b hb=>?_,pinD.1,rv3,pinD.2.1,w7⟩
    ·exact (I6'.pin (b,o) (a0c _ (a0c _ (aL hb e)))).1
    ·obtain ⟨o,e,_⟩:=T.obj _ _ st5 b hb
     exact (I6'.pin (b,o) (a0c _ (a0c _ (aL hb e)))).2.1
   | true =>
    rw [if_pos rfl] at q6 ⊢
    refine wpAny_mono (he P2.objs.size s2 H2 fp _ s6' _ H6' _ I6' q6) (fun yv s7 h7=>?_) fun _ _ z=>z.elim
    obtain ⟨y',H7,I7,r7,m',hm',w7⟩:=h7
    have pinD:=I7.pin (s2.heap.objs.size,du its) (a0c _ (a0N _ (a0c _ (a0L.mpr rfl))))
    refine append_at (hsz:=by show its.toArray.size<=sizeLine; rw [a0i]; omega) pinD.1 fun h8 sb8 hD8=>?_
    have I8:Inv (aw X (pre++ys) scope cl P2.objs.size s2 H2 fp) pins (a0b pre.length none++σ') H7 { s7 with heap:=h8 }:=(back I7).turned (t':=s7.toks) (it:=s2.heap.objs.size) (fun b o hb e=>(sb8.2 b hb).trans e) pinD.2.1 hDC (.inr (a0j _))
     (fun a c e z=>by
      obtain ⟨v',o',ho',_⟩:=I2.cell a c (hcl.get e)
      exact nd c o' ho' z)
     (fun p hp=>nd p.1 _ (I2.pin p hp).1)
    refine ⟨m',hm',i+1,zs++[y'],its++[yv],H7,I8,T.keep _ _ _ st5 fun b hb o e=>?_,fun b hb=>?_,?_,rv3.append (.cons r7 .nil),pinD.2.1,w7⟩
    ·exact (sb8.2 b (a0y (fpo b hb))).trans (I7.pin (b,o) (a0c _ (a0c _ (aL hb e)))).1
    ·obtain ⟨o,e,_⟩:=T.obj _ _ st5 b hb
     exact (I7.pin (b,o) (a0c _ (a0c _ (aL hb e)))).2.1
    ·show h8.get? s2.heap.objs.size=_
     rw [hD8]
     simp [du]
 exact codeAny_compStart_list loop (T.self X.A 0 _ _ _ (T.keep _ _ _ st2 (fun b _ o e=>old b o e)) loop)
section
variable {X:Cx}{elt iter tg cnd:Expr}{pre:List Str}{pos spos pz:Pos}{z:Str}{jz:Nat}{scope:Scope}{cl:List (Str×Addr)}{ys:List Str}{is:List Nat}{wi:TI}{g:TG}{te:TE}{tc:TT}
noncomputable def tT:TT:=fun _ H Q=>Q true H
theorem pcN:PC X [] tT:=fun pins s σ H Q I q=>⟨H,I,q⟩
theorem goN {n:Nat}{σ:L2.St}{H:Hp}{Q:VK}(h:eL n wi is g te σ H Q):eQ n wi is g tT te σ H Q:=h
theorem hR {cs:List Expr}(hc:X.calm=true)(hi:PI X tg iter wi)(hg:∀ C s H fp,PG (aw X (pre++ys) scope cl C s H fp) tg g)(he:∀ C s H fp,PE (aw X (pre++ys) scope cl C s H fp) elt te)(hcd:∀ C s H fp,PC (aw X (pre++ys) scope cl C s H fp) cs tc)(hcs:cs.length<=1)
  (hclos:closureFor scope X.env=pure cl) (S:aJ pre ys scope) (hcl:Clo X cl) (hfr:(scope.names.all fun p=>p.2 != .free || (cl.lookup p.1).isSome)=true) (fr:Frees X scope cl ys is) (hs:∀ v,foldedSetIterable iter X.env v=pure v) :
  PE X (.ListComp elt [⟨tg,iter,cs,0⟩] scope pos) (eQ pre.length wi is g tc te):=by
 intro pins s σ H Q I h
 rw [eval_ListComp]
 show wpAny _ _ (comprehension _ scope X.env _ (newList []) false (eval iter X.env) none) _ _ s
 refine ij hc hi hg he hcd hcs hclos S hcl hfr fr hs (fun s4 Hn D L m4 IX hn cL cC hL hz hp q=>?_) I h
 exact ⟨m4,hn,fun h' sb=>⟨.ref D,_,IX.turned (t':=s4.toks) (it:=L) (fun b o hb e=>(sb.2 b hb).trans e) hL cL (.inr hz) cC hp,rfl,q⟩⟩
theorem gJ (hc:X.calm=true)(hi:PI X tg iter wi)(hg:∀ C s H fp,PG (aw X (pre++ys) scope cl C s H fp) tg g)(he:∀ C s H fp,PE (aw X (pre++ys) scope cl C s H fp) elt te)
  (hclos:closureFor scope X.env=pure cl) (S:aJ pre ys scope) (hcl:Clo X cl) (hfr:(scope.names.all fun p=>p.2 != .free || (cl.lookup p.1).isSome)=true) (fr:Frees X scope cl ys is) (hs:∀ v,foldedSetIterable iter X.env v=pure v:=by intro _; rfl) :
  PE X (.ListComp elt [⟨tg,iter,[],0⟩] scope pos) (eL pre.length wi is g te):=fun pins s σ H Q I h=>hR hc hi hg he (fun _ _ _ _=>pcN) (a0T _) hclos S hcl hfr fr hs pins s σ H Q I (goN h)
end
end L3

namespace L3
open PySem PySem.Spec PyProof.Rows L2
end L3
namespace L3
open PySem PySem.Spec PyProof.Rows L2
end L3
namespace L3
open PySem PySem.Spec PyProof.Rows L2
end L3

namespace L3
open PySem PySem.Spec PyProof.Rows L2
end L3
namespace L3
open PySem PySem.Spec PyProof.Rows L2
end L3
namespace L3
open PySem PySem.Spec PyProof.Rows L2
end L3

namespace L3
open PySem PySem.Spec PyProof.Rows L2
noncomputable abbrev VE:List Value:=[.type "ValueError",.type "Exception",.type "BaseException",.type "object"]
structure j2 (h:Heap)(C N:Addr)(up:List Value)(names:Str->Option Value):Prop where
 obj:∃ nm q bs hd sn sub ab col dd k0 k1 k2 k3 k5,h.get? C=some (excClassObj nm q C N bs up hd sn sub ab col dd k0 k1 k2 k3 k5 "ValueError.__new__")
 ns:h.Ns N names
section
variable {prog:Program}{w:World}{h:Heap}{A:Around}{g:Array GenState}{d:Drawn}{t:Nat}{os:OsState}{E:Value->Shared->Prop}
theorem iC {C N fI:Addr}{up us:List Value}{names:Str->Option Value}{oI:Obj}{Q:Value->Shared->Prop}(c:j2 h C N up names)(T:OwnTail h VE up)
  (hi:names "__init__"=some (.ref fI)) (hf:h.get? fI=some oI) (hc:oI.cls=.type "function") (hl:us.length<=sizeLine)
  (k:∀ h',Heap.MadeExcOf h h' (h.objs.size+1) (.ref C) us->wpAny (model prog w) (A.under (.builtin "type.__call__" ⟨.ref C::us,[]⟩)) (call (.ref fI) (.ref (h.objs.size+1)::us)) (fun r s'=>r=.none/\Q (.ref (h.objs.size+1)) s') E ⟨h',g,d,t,os⟩) :
  wpAny (model prog w) A (call (.ref C) us) Q E ⟨h,g,d,t,os⟩:=by
 obtain ⟨⟨nm,q,bs,hd,sn,sub,ab,col,dd,k0,k1,k2,k3,k5,hC⟩,hn⟩:=c
 have B:=a1p
 have l1:=tc_lookup
 have l2:=tc_bind (.ref C)
 have ty:(⟨h,g,d,t,os⟩:Shared).TypeIs (.ref C) "type":=⟨_,hC,rfl⟩
 refine wpAny_call (codeAny_of_tree ?_)
 show wpAny _ _ (callAny (.ref C) _) _ _ _
 repeat (any_goals (first | with_reducible refine wpAny_loadPart_at hC ?_ | assumption | wp_step))
 refine ⟨rfl,codeAny_call_builtin_at (Code.quiet_builtin _ (by decide +kernel)) entry_typeCall (wpAny_check_type_call_sub hC ?_)⟩
 repeat (first | with_reducible refine wpAny_madeBy_exc hC ?_ | with_reducible refine wpAny_loadPart_at hC ?_ | wp_step)
 refine codeAny_call_builtin_code (Code.quiet_builtin _ B.quiet) (wpAny_check_new_subU B B.hasB T hC ?_)
 refine codeAny_exc_new_subU B B.hasB B T hC ?_ hl
 show wpAny _ _ _ _ _ (⟨(h.push { cls:=.type "tuple",data:=.seq us.toArray }).push { cls:=.ref C,data:=.fields #[.ref h.objs.size,.none,.none,.none,.bool false,.none] },g,d,t,os⟩:Shared)
 generalize hG:(h.push { cls:=.type "tuple",data:=.seq us.toArray }).push { cls:=.ref C,data:=.fields #[.ref h.objs.size,.none,.none,.none,.bool false,.none] }=G
 have old:∀ b o,h.get? b=some o->G.get? b=some o:=fun b o z=>by rw [<- hG]; exact Heap.get?_push_of_some _ (Heap.get?_push_of_some _ z)
 have new:G.get? (h.objs.size+1)=some { cls:=.ref C,data:=.fields #[.ref h.objs.size,.none,.none,.none,.bool false,.none] }:=by rw [<- hG]; heap_get
 have tup:G.get? h.objs.size=some { cls:=.type "tuple",data:=.seq us.toArray }:=by rw [<- hG]; exact Heap.get?_push_of_some _ (Heap.get?_push_at rfl rfl)
 have own:(Value.ref C::up).contains (.ref C)=true:=by simp
 have hCG:=old _ _ hC
 unfold isInstance
 repeat (first | with_reducible refine wpAny_loadPart_at new ?_ | (with_reducible refine wpAny_isSubtype_exc hCG ?_; rw [own]) | wp_step)
 show wpAny _ _ (typeLookup (.ref C) _) _ _ _
 refine wpAny_typeLookup_tail hCG (hn.keeps old) (T.keeps old) B.mroIs B.init.lookup ?_
 rw [hi]
 refine wpAny_holding (wpAny_bind ?_)
 unfold bindSpecial
 refine wpAny_bind (wpAny_typeOf (T:="function") ⟨_,old _ _ hf,hc⟩ ?_)
 rw [if_pos (by decide)]
 refine wpAny_pure (wpAny_bind (wpAny_mono (k G ⟨old,Heap.get?_none_of_le (a2o _),h.objs.size,new,Heap.get?_none_of_le (a0j _),tup⟩) (fun r s' hr=>?_) fun _ _ x=>x))
 obtain ⟨rfl,hQ⟩:=hr
 wp_walk
 exact hQ
noncomputable def cT:List Value->Bool
 | .ref _::r=>cT r
 | l=>l==VE
theorem c7 (self:Value):∀ {l:List Value},cT l=true->refuseLoop self "__setattr__" l=pure ()
 | .ref c::r,q=>by rw [refuseLoop_ref]; exact c7 self q
 | [],q=>by cases q
 | .type n::r,q=>by rw [show Value.type n::r=VE from beq_iff_eq.mp q]; kernel_rfl
 | .none::r,q=>by cases (show Value.none::r=VE from beq_iff_eq.mp q)
 | .bool _::r,q=>by cases (show _::r=VE from beq_iff_eq.mp q)
 | .int _ _::r,q=>by cases (show _::r=VE from beq_iff_eq.mp q)
 | .float _ _::r,q=>by cases (show _::r=VE from beq_iff_eq.mp q)
 | .str _ _::r,q=>by cases (show _::r=VE from beq_iff_eq.mp q)
 | .bytes _ _::r,q=>by cases (show _::r=VE from beq_iff_eq.mp q)
 | .builtin _::r,q=>by cases (show _::r=VE from beq_iff_eq.mp q)
 | .ellipsis::r,q=>by cases (show _::r=VE from beq_iff_eq.mp q)
 | .notImplemented::r,q=>by cases (show _::r=VE from beq_iff_eq.mp q)
end
section
variable {prog:Program}{w:World}{A:Around}{E:Value->Shared->Prop}{s:Shared}{K:a0a}
theorem l4 {e C:Addr}{oe:Obj}{vs:Array Value}{name:Str}{v:Value}{Q:Unit->Shared->Prop}(X:K.In s.heap)(he:s.heap.get? e=some oe)(hc:oe.cls=.ref C)(hd:oe.dict=none)(hf:oe.data=.fields vs)
  (hs:a0l K (.ref C) "__setattr__"=some (some (.builtin "object.__setattr__"))) (hp:(a02 K C).any (fun cd=>cT cd.mro)=true) (ht:a0K K C name=some none) (hh:a0I K C=true)
  (h:∀ h',h'.get? e=some { oe with dict:=some s.heap.objs.size }->h'.Ns1 s.heap.objs.size (fun y=>if y=name then some v else none)->(∀ b o,b≠e->s.heap.get? b=some o->h'.get? b=some o)->Q () { s with heap:=h',toks:=s.toks+2 }) :
  wpAny (model prog w) A (setAttr (.ref e) name v) Q E s:=by
 have J:a0R s.heap e oe C none:=⟨he,hc,by unfold a1T; rw [hf],by rw [hd]; trivial⟩
 have SF:=PySem.F.store_object
 refine PySem.W.set_plain X J hs ?_
 obtain ⟨cd,kc,ku⟩:=a0V hp
 have top:cd.mro.contains (.type "object")=true:=by
  have:∀ l:List Value,cT l=true->l.contains (.type "object")=true:=by
   intro l
   induction l with
   | nil=>intro q; cases q
   | cons v r ih =>
    intro q
    by_cases z:(∃ a,v=.ref a)
    ·obtain ⟨a,rfl⟩:=z
     rw [List.contains_cons,ih q,Bool.or_true]
    ·have:v::r=VE:=by
      cases v with
      | ref a=>exact absurd ⟨a,rfl⟩ z
      | _=>exact beq_iff_eq.mp q
     rw [this]; decide +kernel
  exact this _ ku
 have ne:cd.mro.isEmpty=false:=by cases q:cd.mro with | nil=>rw [q] at top; cases top | cons _ _=>rfl
 have sub:a10 (model prog w) s.heap (isInstance (.ref e) (.type "object")) true:=J.type.andThen (PySem.W.looks_mroIn X (by unfold a08; rw [kc,a1B,if_neg (by rw [ne]; decide),top]))
 refine codeAny_call_builtin SF.slot.plain SF.entry (@a11 (model prog w) _ _ { s with toks:=s.toks+1 } "object.__setattr__" "object" "__setattr__" (.ref e) [.str name s.toks,v] [] _ SF.kind SF.split sub (SF.args (.ref e) (.str name s.toks) v) ?_)
 obtain ⟨attr,ha,hr⟩:=(Option.bind_eq_some_iff).1 ht
 have taker:a10 (model prog w) s.heap (Builtin.ObjectAttr.storeTaker? attr) none:=by
  cases attr with
  | none=>exact .now
  | some a =>
   obtain ⟨b,hb,z⟩:=Option.map_eq_some_iff.mp hr
   refine (PySem.W.looks_takesIn X hb).andThen ?_
   cases b with
   | false=>exact .now
   | true=>cases z
 have hm:a10 (model prog w) s.heap (mroOf (.ref C)) cd.mro:=(a1V X kc).andThen .now
 rw [PySem.W.osa_eq,refuse_eq]
 refine wpAny_bind (wpAny_bind (a0x (s:={ s with toks:=s.toks+1 }) J.type (wpAny_bind (a0x (s:={ s with toks:=s.toks+1 }) hm ?_))))
 rw [c7 _ ku]
 refine wpAny_pure (wpAny_bind (a0x (s:={ s with toks:=s.toks+1 }) J.type (wpAny_bind (a0x (s:={ s with toks:=s.toks+1 }) (a1O X ha) (wpAny_bind (a0x (s:={ s with toks:=s.toks+1 }) taker ?_))))))
 obtain ⟨cd',kc',kd⟩:=a0V hh
 obtain ⟨c,di,da,sl⟩:=oe
 dsimp only at hc hd hf
 subst hc hd hf
 refine wpAny_bind (wpAny_pure (wpAny_bind (wpAny_bind (wpAny_loadPart he (wpAny_bind (a0x (s:={ s with toks:=s.toks+1 }) (a1V X kc') ?_))))))
 rw [kd]
 have e1:(s.heap.push a1h).get? e=some _:=Heap.get?_push_of_some _ he
 refine wpAny_bind (wpAny_alloc (wpAny_bind (wpAny_update e1 ?_)))
 show wpAny _ _ (pure (some s.heap.objs.size)) _ _ _
 refine wpAny_pure ?_
 generalize hG:(s.heap.push a1h).update e (fun o=>{ cls:=o.cls,dict:=some s.heap.objs.size,data:=o.data,slots:=o.slots })=G
 have ng:s.heap.objs.size≠e:=a05 (Heap.lt_size he)
 have g1:G.get? e=some { cls:=.ref C,dict:=some s.heap.objs.size,data:=.fields vs,slots:=sl }:=by rw [<- hG]; exact Heap.get?_update_self _ e1 rfl
 have g2:G.get? s.heap.objs.size=some a1h:=by rw [<- hG,Heap.get?_update_other _ _ (a1G ng)]; exact Heap.get?_push_size s.heap rfl
 have g3:∀ b o,b≠e->s.heap.get? b=some o->G.get? b=some o:=fun b o hb z=>by rw [<- hG,Heap.get?_update_other _ _ (a1G hb)]; exact Heap.get?_push_of_some _ z
 have g4:G.Ns1 s.heap.objs.size (fun _=>none):=Heap.Ns1.of_empty ⟨a1h,#[],_,g2,rfl,(fun e he=>absurd he (by simp)),fun _=>rfl⟩
 show wpAny _ _ (Builtin.ObjectAttr.storeInDict s.heap.objs.size (.str name s.toks) name v) _ _ (⟨G,s.gens,s.drawn,s.toks+1,s.os⟩:Shared)
 refine wpAny_bind (wpAny_pure (wpAny_bind (wpAny_nsSet1 (s:=⟨G,s.gens,s.drawn,s.toks+1,s.os⟩) g4 fun h' n2 s2=>?_)))
 obtain ⟨oD,esD,epD,hoD,hdD,hcD⟩:=n2.count (a2R (ns:=[]) name v fun _ q=>absurd rfl q)
 refine wpAny_bind (wpAny_lookBehind hoD (by rw [hdD]; exact pastItsLine_dict (a0k hcD (by rw [sizeLine_eq]; simp))) ?_)
 exact wpAny_pure (h h' ((s2.2 _ (a1G ng)).trans g1) n2 fun b o hb z=>(s2.2 b (fun q=>by rw [q] at z; exact absurd (Heap.lt_size z) (a01 _))).trans (g3 b o hb z))
theorem kg {e C N:Addr}{oe:Obj}{vs:Array Value}{up us:List Value}{names:Str->Option Value}{Q:Value->Shared->Prop}(c:j2 s.heap C N up names)(T:OwnTail s.heap VE up)(he:s.heap.get? e=some oe)(hc:oe.cls=.ref C)(hf:oe.data=.fields vs){t0:Addr}(h0:vs[0]?=some (.ref t0))
  (hl:us.length<=sizeLine) (h:∀ h',h'.get? e=some (Obj.mapFields (·.setIfInBounds 0 (.ref s.heap.objs.size)) oe)->(∀ b o,b≠e->s.heap.get? b=some o->h'.get? b=some o)->Q .none { s with heap:=h' }) :
  wpAny (model prog w) A (call (.builtin "ValueError.__init__") (.ref e::us)) Q E s:=by
 obtain ⟨⟨nm,q,bs,hd,sn,sub,ab,col,dd,k0,k1,k2,k3,k5,hC⟩,hn⟩:=c
 obtain ⟨hp,g,d,t,os⟩:=s
 have B:=a1p
 have he':hp.get? e=some oe:=he
 refine wpAny_call (codeAny_call_builtin B.init.plain B.initEntry (wpAny_check_init_subU B T hC he hc ?_))
 have e1:=Heap.get?_push_of_some (h:=hp) { cls:=.type "tuple",data:=.seq us.toArray } he'
 unfold Builtin.«BaseException.__init__»
 wp_walk
 rw [hf]
 refine wpAny_pure ?_
 rw [h0]
 refine wpAny_pure ?_
 wp_walk
 rw [hf]
 dsimp only
 rw [if_pos (Array.getElem?_eq_some_iff.mp h0).1]
 refine wpAny_update e1 ?_
 have ng:hp.objs.size≠e:=a05 (Heap.lt_size he')
 have g1:((hp.push { cls:=.type "tuple",data:=.seq us.toArray }).update e (Obj.mapFields (·.setIfInBounds 0 (.ref hp.objs.size)))).get? e=some (Obj.mapFields (·.setIfInBounds 0 (.ref hp.objs.size)) oe):=Heap.get?_update_self _ e1 (Obj.isFreed_of_fields (Obj.data_mapFields hf _))
 wp_walk
 exact h _ g1 fun b o hb z=>by rw [Heap.get?_update_other _ _ (a1G hb)]; exact Heap.get?_push_of_some _ z
end
noncomputable def XOk (a C:Addr)(od:Option Addr)(n:Bool)(h:Heap):Prop:=∃ o vs t0,h.get? a=some o/\o.cls=.ref C/\o.dict=od/\o.data=.fields vs/\vs[0]?=some (.ref t0)/\1 < vs.size/\(n=true->vs[1]?=some .none)
noncomputable abbrev XO (a C:Addr)(od:Option Addr)(n:Bool):HO:=.ext (XOk a C od n)
theorem XOk.stay {a C:Addr}{od:Option Addr}{n:Bool}{h h':Heap}(x:XOk a C od n h)(k:∀ o,h.get? a=some o->h'.get? a=some o):XOk a C od n h' :=
 let ⟨o,vs,t0,e,r⟩:=x; ⟨o,vs,t0,k o e,r⟩
theorem XOk.ok {P:Program}{w:World}{H:Hp}{a C:Addr}{od:Option Addr}{n:Bool}{h:Heap}(x:XOk a C od n h):ObjOk P w H h a (XO a C od n) :=
 ⟨x,let ⟨o,_,_,e,_⟩:=x; ⟨o,e⟩,fun _ _ y k=>y.stay k⟩
noncomputable def Tr (lo:Nat)(H:Hp)(h:Heap)(a:Addr):Prop:=∃ oe vs,h.get? a=some oe/\oe.data=.fields vs /\
 (vs[1]?=some .none\/∃ T oT ts,vs[1]?=some (.ref T)/\T≠a/\h.get? T=some oT/\oT.data=.fields ts/\ts[3]?=some .none/\lo<=T/\H T=none)
structure XC (K:a0a)(C f:Addr)(up:List Value):Prop where
 ok:∀ h,K.In h->∃ N names,j2 h C N up names/\OwnTail h VE up/\names "__init__"=some (.ref f)
 fn:∀ h,K.In h->∃ o,h.get? f=some o/\o.cls=.type "function"
 kp:a0W K (.ref C)=true
 sa:a0l K (.ref C) "__setattr__"=some (some (.builtin "object.__setattr__"))
 po:(a02 K C).any (fun cd=>cT cd.mro)=true
 hd:a0I K C=true
section
variable {X:Cx}{pins:List (Addr×Obj)}{σ:L2.St}{H:Hp}{s:Shared}{a C f:Addr}{od:Option Addr}{n:Bool}{up:List Value}{A:Around}{E:Value->Shared->Prop}{fld:Str}
theorem XOk.weak {h:Heap}(x:XOk a C od n h):XOk a C od false h:=let ⟨o,vs,t0,e,e1,e2,e3,e4,e5,_⟩:=x; ⟨o,vs,t0,e,e1,e2,e3,e4,e5,fun z=>by cases z⟩
theorem Inv.xweak (I:Inv X pins σ H s)(e:H a=some (XO a C od n)):Inv X pins σ (upd H a (XO a C od false)) s:=by
 have x:XOk a C od n s.heap:=(I.hok a _ e).1
 exact I.write (x:=a) (e:=a) (t':=s.toks) (by rw [e]; exact a06) (.inl rfl) (fun _ _ _ z=>z) (let ⟨o,_,_,q,_⟩:=x; ⟨o,q⟩) x.weak.ok
theorem ly {y:V}{u:Value}{Q:Unit->Shared->Prop}(I:Inv X pins σ H s)(e:H a=some (XO a C none n))(c:XC X.K C f up)(ht:a0K X.K C fld=some none)(ry:RelV y u)
  (h:∀ dx s',H dx=none->dx≠a->Inv X pins σ (upd (upd H dx (.xd [(fld,y)])) a (XO a C (some dx) n)) s'->Q () s'):wpAny (model X.prog X.w) A (setAttr (.ref a) fld u) Q E s:=by
 obtain ⟨o,vs,t0,e0,e1,e2,e3,e4,e5,e6⟩:XOk a C none n s.heap:=(I.hok a _ e).1
 have lt:=Heap.lt_size e0
 refine l4 I.kIn e0 e1 e2 e3 c.sa c.po ht c.hd fun h' x1 x2 x3=>h s.heap.objs.size _ (I.hok.fresh (a0j _)) (a05 lt) ?_
 obtain ⟨oD,es,ep,d1,d2,d3,d4,d5⟩:=x2
 have g1:(s.heap.push oD).get? s.heap.objs.size=some oD:=Heap.get?_push_size s.heap (by obtain ⟨_,_,_,_⟩:=oD; cases d2; rfl)
 have I1:=I.laid (a:=s.heap.objs.size) (o:=.xd [(fld,y)]) (h':=s.heap.push oD) (t':=s.toks) (fun b u q=>Heap.get?_push_of_some _ q) (a0j _) ⟨_,⟨oD,es,ep,g1,d2,d3,d4,d5⟩,fun g=>by
  show RelO (a1z g [(fld,y)]) (if g=fld then some u else none)
  by_cases q:g=fld
  ·rw [if_pos q,q]; simp [a1z]; exact ry
  ·rw [if_neg q]; unfold a1z; rw [show (g==fld)=false from beq_false_of_ne q]; exact a06⟩
 have na:a≠s.heap.objs.size:=a0y lt
 refine I1.write (x:=a) (e:=a) (t':=s.toks+2) (by rw [ae na,e]; exact a06) (.inl rfl) (fun b u hb q=>?_) ⟨_,x1⟩ (XOk.ok ⟨_,vs,t0,x1,e1,rfl,e3,e4,e5,e6⟩)
 by_cases hb2:b=s.heap.objs.size
 ·subst hb2
  have q':(s.heap.push oD).get? s.heap.objs.size=some u:=q
  rw [g1] at q'; cases q'; exact d1
 ·refine x3 b u hb ?_
  have q':(s.heap.push oD).get? b=some u:=q
  rcases Heap.get?_push_cases q' with z | z
  ·exact absurd z.1 hb2
  ·exact z
theorem iU {us:List Value}{Q:Value->Shared->Prop}(I:Inv X pins σ H s)(e:H a=some (XO a C od n))(c:XC X.K C f up)(hl:us.length<=sizeLine)
  (h:∀ s',Inv X pins σ H s'->Q .none s'):wpAny (model X.prog X.w) A (call (.builtin "ValueError.__init__") (.ref a::us)) Q E s:=by
 obtain ⟨o,vs,t0,e0,e1,e2,e3,e4,e5,e6⟩:XOk a C od n s.heap:=(I.hok a _ e).1
 obtain ⟨N,names,x,T,_⟩:=c.ok _ I.kIn
 refine kg x T e0 e1 e3 e4 hl fun h' x1 x2=>h _ ?_
 have hd':=Obj.data_mapFields e3 (·.setIfInBounds 0 (Value.ref s.heap.objs.size))
 have I1:=I.write (x:=a) (e:=a) (o:=XO a C od n) (h':=h') (t':=s.toks) (by rw [e]; exact a06) (.inl rfl) x2 ⟨_,x1⟩ (XOk.ok ⟨_,_,s.heap.objs.size,x1,by rw [Obj.cls_mapFields]; exact e1,by rw [<- e2]; obtain ⟨_,_,_,_⟩:=o; cases e3; rfl,hd',by simp [a2J Nat.zero_lt_one e5],by rw [Array.size_setIfInBounds]; exact e5,fun z=>by rw [Array.getElem?_setIfInBounds_ne (by decide)]; exact e6 z⟩)
 have same:upd H a (XO a C od n)=H:=by
  funext b
  by_cases q:b=a
  ·rw [q,aA,e]
  ·rw [ae q]
 rw [same] at I1
 exact I1
end
structure XB (K:a0a)(B:Addr):Prop where
 ga:a0S K (.ref B) "__getattribute__"=some (some (.builtin "type.__getattribute__"))
 rd:PySem.W.readsIn K B (.type "type")=true
 at_:PySem.W.findCls K (.ref B) (.type "type") "__init__"=some (.val (.builtin "ValueError.__init__"))
section
variable {X:Cx}{x fld:Str}{p pos pos' apos:Pos}{e o value:Expr}{es:List Expr}{t:TA}{ta tv:TE}{B C f:Addr}{up:List Value}{k:Nat}{fd:FuncData}{ps:List Str}{sp:Sp}{CX:CXT}{E:XK}
theorem a9 {pl:Sem Bool}(b:XB X.K B)(hg:Gl X x)(hm:X.mg x=some (.ref B))(ha:PA X (e::es) t)(hdb:(x==("__debug__":Str))=false:=by decide)
  (hst:starEach (e::es) X.env=(false,eval e X.env)::starEach es X.env:=by rfl) (hpl:(backTo pos (starEach es X.env)).any (·.1)=false:=by rfl)
  (ht:eval (.Call (.Attribute (.Name x p) "__init__" apos) (e::es) [] pos) X.env=(do
   let ov <- eval (.Name x p) X.env
   standAt apos.atName
   let (f,first) <- holding [ov] (getMethod ov "__init__" pl)
   callWith pos f first (backTo pos (starEach (e::es) X.env)) (backToKw pos (keywordEach [] X.env))):=by rfl) :
  PE X (.Call (.Attribute (.Name x p) "__init__" apos) (e::es) [] pos) fun σ H Q=>t σ H fun vs H1=>∃ a C od n ws f up,vs=.ref a::ws/\ws.length<=sizeLine/\H1 a=some (XO a C od n)/\XC X.K C f up/\Q .non H1:=by
 intro pins s σ H Q I h
 refine PySem.W.methodCall_KW (pl:=pl) (cj I hg hm ?_ hdb) ht
 refine PySem.W.method_cls I.kIn b.ga (PySem.W.cls_value I.kIn b.rd b.at_ (by decide +kernel) ?_)
 have I':=I.tok (s.toks+1)
 refine a1i (thn (ha pos pins _ σ H _ I' h) fun us s1 ⟨vs,H1,I1,r,a,C,od,n,ws,f,up,ev,hl,ea,c,q⟩=>?_) hst hpl
 subst ev
 cases r with
 | cons r1 r2 =>
  cases r1
  exact iU I1 ea c (by rw [<- r2.length]; exact hl) fun s' I2=>⟨.non,H1,I2,rfl,q⟩
theorem bA (ha:PE X o ta)(hv:PE X value tv)(hs:swapsWith value (some (.Attribute o fld pos')) pos.line X.env=pure false):PS X (.Assign [.Attribute o fld pos'] value pos)
  fun D σ H=>tv σ H fun y H1=>ta σ H1 fun x H2=>∃ a C n f up,x=.ref a/\H2 a=some (XO a C none n)/\XC X.K C f up/\a0K X.K C fld=some none/\∀ dx,H2 dx=none->dx≠a->D.nx σ (upd (upd H2 dx (.xd [(fld,y)])) a (XO a C (some dx) n)):=by
 intro pins s σ H D I h
 refine plainObj_wpAny_Assign_Attribute (thn (hv pins s σ H _ I h) fun u s1 ⟨y,H1,I1,ry,q⟩=>thn (ha pins s1 σ H1 _ I1 q) fun ov s2 ⟨x,H2,I2,rx,a,C,n,f,up,ex,ea,c,tk,q2⟩=>?_) hs
 subst ex
 obtain rfl:ov=Value.ref a:=rx
 exact ly I2 ea c tk ry fun dx s3 h1 h2 I3=>⟨σ,_,I3,q2 dx h1 h2⟩
theorem gw {pins:List (Addr×Obj)}{σ:L2.St}{H:Hp}{s:Shared}{Q:VK}{us:List Value}{vs:List V}(c:XC X.K C f up)(F:aS X.prog X.w X.K X.mg X.base CX k f fd ps sp)(hr:Room (k+1) X.A)(hb:Binds X.K fd ps [])
  (hx:cA CX X E) (I:Inv X pins σ H s) (r:Vals vs us) (hl:vs.length<=sizeLine)
  (h:∀ a,H a=none->sp (.ref a::vs) (upd H a (XO a C none true)) (fun v H2=>v=.non/\Q (.ref a) H2) E) :
  wpAny (model X.prog X.w) X.A (call (.ref C) us) (EP X pins σ Q) X.xe s:=by
 obtain ⟨N,names,xc,T,hi⟩:=c.ok _ I.kIn
 obtain ⟨oI,hf,hc⟩:=c.fn _ I.kIn
 have hq:=h (s.heap.objs.size+1) (I.hok.fresh (a2o _))
 refine iC (t:=s.toks) (g:=s.gens) (d:=s.drawn) (os:=s.os) xc T hi hf hc (by rw [<- r.length]; exact hl) fun h' m=>?_
 obtain ⟨t0,m1,m2,m3⟩:=m.there
 have I1:=I.laid (a:=s.heap.objs.size+1) (o:=XO (s.heap.objs.size+1) C none true) (h':=h') (t':=s.toks) m.keeps (a2o _) (XOk.ok ⟨_,_,t0,m1,rfl,rfl,rfl,rfl,by simp,fun _=>rfl⟩)
 have r2:Vals (V.ref (s.heap.objs.size+1)::vs) (Value.ref (s.heap.objs.size+1)::us):=.cons rfl r
 have hn:(Value.ref (s.heap.objs.size+1)::us++[]).length=ps.length:=by
  rw [a0B,<- r2.length]
  exact F.len _ _ _ _ hq
 have bd:=hb { s with heap:=h' } (Value.ref (s.heap.objs.size+1)::us) I1.kIn hn
 rw [a0B] at bd
 refine wpAny_call (codeAny_mono (F.run _ X.stack _ _ ⟨Value.ref (s.heap.objs.size+1)::us,[]⟩ (Value.ref (s.heap.objs.size+1)::us) _ _ E (hr.make C us []) (I1.env0.make C us []) bd r2 hq) fun r s' z=>?_)
 cases r with
 | error e=>exact hx pins σ _ _ e s' I1 z
 | ok fl =>
  cases fl with
  | ret u =>
   obtain ⟨v,H',I3,rv,ev,q3⟩:=I1.after z
   subst ev
   exact ⟨rv,⟨V.ref (s.heap.objs.size+1),H',I3,rfl,q3⟩⟩
  | next=>exact a0O z
  | brk=>exact a0O z
  | cont=>exact a0O z
theorem iJ (c:XC X.K C f up)(F:aS X.prog X.w X.K X.mg X.base CX k f fd ps sp)(hr:Room (k+1) X.A)(hg:Gl X x)(hm:X.mg x=some (.ref C))(hb:Binds X.K fd ps [])(hx:cA CX X E)
  (ha:PA X (e::es) t) (hdb:(x==("__debug__":Str))=false:=by decide) (he:starEach (e::es) X.env=(false,eval e X.env)::starEach es X.env:=by rfl) (hpl:(backTo pos (starEach es X.env)).any (·.1)=false:=by rfl) :
  PE X (.Call (.Name x p) (e::es) [] pos) fun σ H Q=>t σ H fun vs H1=>vs.length<=sizeLine/\∀ a,H1 a=none->sp (.ref a::vs) (upd H1 a (XO a C none true)) (fun v H2=>v=.non/\Q (.ref a) H2) E:=by
 intro pins s σ H Q I h
 refine wpAny_Call_Name_kw (cj I hg hm ?_ hdb)
 refine a1Y (h₀:=X.base) I.ok.mod.kin c.kp (thn (ha pos pins s σ H _ I h) fun us s1 ⟨vs,H1,I1,r,hl,q⟩=>⟨I1.kIn,?_⟩) he hpl
 exact gw c F hr hb hx I1 r hl q
end
section
variable {X:Cx}{lit:Str}{k:Nat}{p1 p2 pos:Pos}{e:Expr}{te:TE}
theorem fY (hl:lit.length<=1000)(he:PE X e te):PE X (.JoinedStr [.Constant (.str lit) k p1,.FormattedValue e (-1) none p2] pos) fun σ H Q=>te σ H fun v H1=>∃ n:Int,v=.int n/\n.natAbs.log2 < 1920/\∀ y,Q (.str y) H1:=by
 intro pins s σ H Q I h
 refine JoinedStr_many (joinParts_cons (Calls.Constant_str ⟨?_,joinParts_cons (FormattedValue_plain (thn (he pins _ σ H _ (I.tok _) h) fun u s1 ⟨v,H1,I1,r,n,ev,hn,q⟩=>?_))⟩))
 ·show (Str.empty++lit).length<=sizeLine
  rw [strLen_append,sizeLine_eq]
  show 0+lit.length<=_
  omega
 ·subst ev
  obtain ⟨t,rfl⟩:=r
  refine formatField_int_small hn ⟨?_,joinParts_nil ⟨.str _,H1,(I1.tok _).tok _,⟨_,rfl⟩,q _⟩ ?_⟩
  all_goals
   have z:=int_text_length_le (k:=1920) (by decide) hn
   rw [strLen_append,strLen_append,PySem.ofString_length,sizeLine_eq]
   have:Str.empty.length=0:=rfl
   omega
end
noncomputable def xw (X:Cx)(σ:L2.St):VK:=fun v H=>∀ (pins:List (Addr×Obj)) (s:Shared) (a C:Addr) (od:Option Addr),v=.ref a->H a=some (XO a C od false)->Inv X pins σ H s->Tr X.s₀.heap.objs.size H s.heap a->X.xe (.ref a) s
noncomputable abbrev hx (X:Cx)(a:Addr):Cx:={ X with A:=X.A.mark (some (.ref a)),calm:=false,xe:=fun _ _=>False }
noncomputable abbrev tx (X:Cx)(E:Value->Shared->Prop)(pn:List (Addr×Obj)):Cx:={ X with xe:=E,pn:=pn }
theorem slot_bga:Slot "ValueError" "__getattribute__" "BaseException.__getattribute__":=PySem.F.excAttr_ValueError.ga
section
variable {prog:Program}{w:World}{A:Around}{E:Value->Shared->Prop}{s:Shared}{K:a0a}
structure XG (K:a0a)(C:Addr):Prop where
 ga:a0l K (.ref C) "__getattribute__"=some (some (.builtin "BaseException.__getattribute__"))
 hk:a0l K (.ref C) "__getattr__"=some none
 sub:a2z K (.ref C) (.type "BaseException")=some true
theorem iq {e C:Addr}{oe:Obj}{od:Option Obj}{name:Str}{tk:Tok}{fill expr:Bool}{Q:Value->Shared->Prop}(X:K.In s.heap)(J:a0R s.heap e oe C od)(c:XG K C)
  (h:wpAny (model prog w) A.in1 (Builtin.«object.__getattribute__» ⟨[.ref e,.str name tk],[]⟩) (fun fin s'=>match fin with | .done (.ret v)=>wpAny (model prog w) A (a2p v) Q E s' | _=>False) (fun _ _=>False) s) :
  wpAny (model prog w) A (getAttrBy (.ref e) (.str name tk) fill expr) Q E s:=by
 have ty:=J.type (M:=model prog w)
 refine wpAny_holding (wpAny_bind (ty _ _ _ _ (fun _ _ e=>e) (wpAny_bind (a1O X c.ga _ _ _ _ (fun _ _ e=>e) ?_))))
 dsimp only
 rw [show (Value.builtin "BaseException.__getattribute__"==Value.builtin "object.__getattribute__")=false from by decide +kernel,a2u,if_neg (by decide)]
 refine wpAny_bind (PySem.W.looks_hook X (r:=none) (by rw [if_pos (show onTheHeap (Value.ref C)=true from rfl)]; exact c.hk) _ _ _ _ (fun _ _ e=>e) (wpAny_bind (wpAny_attempt (wpAny_holding ?_))))
 unfold callGetattribute
 rw [show (expr&&onTheHeap (Value.builtin "BaseException.__getattribute__"))=false from a2u _,if_neg (by decide)]
 unfold boundAndCalled
 rw [slot_bga.bind]
 refine wpAny_bind (wpAny_pure ?_)
 show wpAny _ _ (call (.builtin "BaseException.__getattribute__") [.ref e,.str name tk]) _ _ _
 refine wpAny_call (codeAny_call_builtin slot_bga.plain PySem.F.entry_bexc_ga ?_)
 refine @a11 (model prog w) _ _ s "BaseException.__getattribute__" "BaseException" "__getattribute__" (.ref e) [.str name tk] [] _ (by decide +kernel) (by decide +kernel) (ty.andThen (PySem.W.looks_subIn X c.sub)) (PySem.F.args_bexc_ga (.ref e) (.str name tk)) ?_
 refine wpAny_mono h (fun fin s' z=>?_) fun _ _ z=>z.elim
 rcases fin with (_ | _ | _ | _) | _<;>first | exact a0O z | exact z
theorem lU {e C:Addr}{oe:Obj}{od:Option Obj}{name:Str}{v:Value}{expr:Bool}{Q:Value->Shared->Prop}(X:K.In s.heap)(J:a0R s.heap e oe C od)(c:XG K C)
  (hf:a2q K C od name=some (.value v)) (hh:a2e v=true) (h:Q v { s with toks:=s.toks+1 }):wpAny (model prog w) A (getAttr (.ref e) name expr) Q E s:=by
 refine wpAny_bind (wpAny_mkText (iq (s:={ s with toks:=s.toks+1 }) X J c ?_))
 have ty:=J.type (M:=model prog w)
 have fd:=a12 (M:=model prog w) X J hf
 refine wpAny_bind (wpAny_pure (wpAny_bind (wpAny_pure (wpAny_bind (a0x (s:={ s with toks:=s.toks+1 }) ty (wpAny_bind (a0x (s:={ s with toks:=s.toks+1 }) fd ?_)))))))
 refine wpAny_pure ?_
 show wpAny _ _ (a2p v) _ _ _
 rw [PySem.W.handedOut_of hh]
 exact wpAny_pure h
theorem gr {e C:Addr}{oe od:Obj}{Q:Option Value->Shared->Prop}(X:K.In s.heap)(J:a0R s.heap e oe C (some od))(c:XG K C)(hd:a0I K C=true)
  (ha:a0l K (.ref C) "__class__"=some (some (.builtin "object.__class__"))) (hn:a0S K (.builtin "object.__class__") "__get__"=some (some (.builtin "getset_descriptor.__get__"))) (htk:a07 K (.builtin "object.__class__")=some true) (hm:a08 K C (.type "object")=some true)
  (h:Q (some (.ref C)) { s with toks:=s.toks+1 }):wpAny (model prog w) A (getAttr? (.ref e) "__class__") Q E s:=by
 have hf:a2q K C (some od) "__class__"=some (.bind (.builtin "getset_descriptor.__get__") (.builtin "object.__class__")):=PySem.W.findObj_data (by obtain ⟨cd,hc,_⟩:=a0V hd; rw [hc]; rfl) ha hn htk
 unfold getAttr? getAttrBy?
 refine wpAny_bind (wpAny_mkText (wpAny_bind (wpAny_attempt (iq (s:={ s with toks:=s.toks+1 }) X J c ?_))))
 have ty:=J.type (M:=model prog w)
 have fd:=a12 (M:=model prog w) X J hf
 refine wpAny_bind (wpAny_pure (wpAny_bind (wpAny_pure (wpAny_bind (a0x (s:={ s with toks:=s.toks+1 }) ty (wpAny_bind (a0x (s:={ s with toks:=s.toks+1 }) fd ?_)))))))
 show wpAny _ _ (holding [.builtin "object.__class__"] (call (.builtin "getset_descriptor.__get__") [.builtin "object.__class__",.ref e,.ref C]) >>= ret) _ _ _
 refine wpAny_bind (wpAny_holding (wpAny_call (PySem.W.class_get (s:={ s with toks:=s.toks+1 }) (ox:=oe) (od:=some od) X J hm ?_)))
 exact wpAny_pure (PySem.W.handed_on rfl (wpAny_pure h))
theorem lz {e C:Addr}{oe od:Obj}(c:XG K C)(hd:a0I K C=true)
  (ha:a0l K (.ref C) "__class__"=some (some (.builtin "object.__class__"))) (hn:a0S K (.builtin "object.__class__") "__get__"=some (some (.builtin "getset_descriptor.__get__"))) (htk:a07 K (.builtin "object.__class__")=some true) (hm:a08 K C (.type "object")=some true) :
  PySem.W.KitX K (.ref e) (.ref C) (fun h=>a0R h e oe C (some od)) where
 ty:=fun _ _ _ J=>J.type
 it:=fun _ _ X _=>by
  obtain ⟨cd,hc,_⟩:=a0V hd
  unfold a02 at hc
  split at hc
  ·rename_i ho
   intro A' Q' E' s' k q
   unfold isType loadHead
   exact wpAny_bind (wpAny_loadPart (k _ _ (X C _ ho)) (wpAny_pure q))
  ·cases hc
 ne:=fun h tp dd its n sl X z=>by
  obtain ⟨cd,hc,_⟩:=a0V hd
  refine Bool.eq_false_iff.mpr fun q=>?_
  have q':C=tp:=Value.ref.inj (beq_iff_eq.mp q)
  subst q'
  unfold a02 at hc
  split at hc
  ·rename_i ho
   cases (X _ _ ho).symm.trans z
  ·cases hc
 ca:=fun X J k=>gr X J c hd ha hn htk hm k
end
structure XF (K:a0a)(C:Addr):Prop where
 xc:∃ f up,XC K C f up/\cT up=true
 xg:XG K C
 hd:a0I K C=true
 ca:a0l K (.ref C) "__class__"=some (some (.builtin "object.__class__"))
 cg:a0S K (.builtin "object.__class__") "__get__"=some (some (.builtin "getset_descriptor.__get__"))
 ct:a07 K (.builtin "object.__class__")=some true
 mo:a08 K C (.type "object")=some true
noncomputable def XNm (K:a0a)(c:Nat)(C:Addr):Prop:=c=C/\XF K C
section
variable {X:Cx}{pins:List (Addr×Obj)}{σ:L2.St}{H:Hp}{s:Shared}{a C dx:Addr}{n:Bool}{fs:List (Str×V)}{fld:Str}{v:V}{A:Around}{E:Value->Shared->Prop}
theorem lX {b:Bool}{Q:Value->Shared->Prop}(I:Inv X pins σ H s)(e:H a=some (XO a C (some dx) n))(d:H dx=some (.xd fs))(c:XF X.K C)(ha:a0l X.K (.ref C) fld=some none)(l:fs.lookup fld=some v)
  (h:∀ u s',Inv X pins σ H s'->RelV v u->Q u s'):wpAny (model X.prog X.w) A (getAttr (.ref a) fld b) Q E s:=by
 obtain ⟨o,vs,t0,e0,e1,e2,e3,e4,e5,e6⟩:XOk a C (some dx) n s.heap:=(I.hok a _ e).1
 obtain ⟨mA,ns,r⟩:∃ mA,s.heap.Ns1 dx mA/\∀ f,RelO (fs.lookup f) (mA f):=I.hok dx _ d
 obtain ⟨u,hu,ru⟩:=RelO.some_of (v:=v) (o:=mA fld) (by rw [<- l]; exact r fld)
 obtain ⟨od,ho,hl⟩:=bR ns
 have J:a0R s.heap a o C (some od):=⟨e0,e1,by unfold a1T; rw [e3],by rw [e2]; exact ho⟩
 exact lU I.kIn J c.xg (PySem.W.findObj_own c.hd ha rfl (by rw [hl,hu])) (gn ru) (h u _ (I.tok _) ru)
theorem qc {cv:Value}{b:Bool}{Q:Value->Shared->Prop}(I:Inv X pins σ H s)(e:H a=some (XO a C (some dx) n))(d:H dx=some (.xd fs))(c:XF X.K C)(k:a0E X.K (.ref C) cv=some b)
  (h:∀ tk,Q (.bool b) { s with toks:=tk }):wpAny (model X.prog X.w) A (call (.builtin "isinstance") [.ref a,cv]) Q E s:=by
 obtain ⟨o,vs,t0,e0,e1,e2,e3,e4,e5,e6⟩:XOk a C (some dx) n s.heap:=(I.hok a _ e).1
 obtain ⟨mA,ns,r⟩:∃ mA,s.heap.Ns1 dx mA/\∀ f,RelO (fs.lookup f) (mA f):=I.hok dx _ d
 obtain ⟨od,ho,hl⟩:=bR ns
 have J:a0R s.heap a o C (some od):=⟨e0,e1,by unfold a1T; rw [e3],by rw [e2]; exact ho⟩
 exact a0z (lz c.xg c.hd c.ca c.cg c.ct c.mo) I.kIn J k (fun z=>nomatch z) h
end
section
variable {X:Cx}{e:Expr}{fld:Str}{pos:Pos}{ta:TE}
theorem lI (he:PE X e ta)(hb:attributeBase e fld X.env (eval e X.env)=eval e X.env):PE X (.Attribute e fld pos) fun σ H Q=>ta σ H fun x H1=>∃ a C dx n fs v,x=.ref a/\H1 a=some (XO a C (some dx) n)/\H1 dx=some (.xd fs)/\XF X.K C/\a0l X.K (.ref C) fld=some none/\fs.lookup fld=some v/\Q v H1:=by
 intro pins s σ H Q I h
 refine kR hb (thn (he pins s σ H _ I h) fun u s1 ⟨x,H1,I1,rx,a,C,dx,n,fs,v,ex,ea,ed,c,ha,l,q⟩=>?_)
 subst ex
 obtain rfl:u=Value.ref a:=rx
 exact lX I1 ea ed c ha l fun u' s2 I2 ru=>⟨v,H1,I2,ru,q⟩
end
end L3

namespace M
open PySem (Str)
inductive T where
 | non | bl (b:Bool) | int (i:Int) | str (x:Str) | tup (ts:List T) | lst (ts:List T) | dct (ks:List (Int ⊕ Str)) (vs:List T) | ins (c:Nat) (fs:List Str) (vs:List T)
 | scr (ns:List Int)
 | gone
 deriving Inhabited
inductive Md where
 | s | d | o (m:Md)
 deriving DecidableEq,Inhabited
noncomputable def Md.kid:Md->Md
 | .s=>.s | .d=>.d | .o m=>m
noncomputable def Md.up:Md->Md
 | .d=>.d | m=>.o m
noncomputable def Md.meet:Md->Md->Md
 | .s,_=>.s | .d,m=>m | .o _,.s=>.s | .o a,.d=>.o a | .o a,.o b=>.o (a.meet b)
noncomputable def Md.le:Md->Md->Bool
 | .s,_=>true
 | .o a,.o b=>a.le b
 | .o _,.d=>true
 | .d,.d=>true
 | _,_=>false
noncomputable abbrev W:=Md×T
noncomputable abbrev Env:=List (Option W)
noncomputable def LIM:Nat:=16777215
noncomputable def T.leaf:T->Bool
 | .non | .bl _ | .int _ | .str _ | .scr _=>true
 | _=>false
noncomputable def T.isG:T->Bool
 | .gone=>true
 | .dct _ _=>true
 | _=>false
noncomputable def T.isH:T->Bool
 | .gone=>true
 | .dct _ _=>true
 | .ins _ _ _=>true
 | _=>false
noncomputable def T.isN:T->Bool
 | .non=>true
 | _=>false
noncomputable def leaves (ts:List T):Bool:=ts.all T.leaf
inductive Op where
 | add | sub | mul | fdiv | mod | pow | neg | eq | ne | lt | le | gt | ge | is | isnot | isin | notin | ix | sl | sl1 | sl2 | sl3
 | len | isI (cs:List String) | max1 | maxZ | min1 | count | fdivN | modN | intS | apd | mulS | listS | list | tuple | sum | all | any | max | min | int | str | rng | sorted | join | split | abs | dict | get | lzip | isB | isnB | lower | inS | ninS | inX | ninX | leS | catT | dnew | sortedD | sortedS | lenSet | countS | repr | ixD | revL
 | inL | slS1 | slS2 | idxS | strB
 | isX (cs:List Nat) | att (fld:Str) | getK (tab:List (Str×Int)) (d:Option Int) | mk (c:Nat) (fld:Str) (fk:Nat)
  deriving DecidableEq,Inhabited
inductive Ik where
 | seq | rng | enm | zip | sq2 | zip3 | chr | enmT
 deriving DecidableEq,Inhabited
inductive E where
 | var (i:Nat) | mv (i:Nat) | io (i:Nat) | cst (t:T) | glb (x:Str) (t:T)
 | tup (es:List E) | lst (h:Bool) (es:List E) | op (o:Op) (h:Bool) (es:List E) | wk (m:Md) (e:E)
 | and (a b:E) | or (a b:E) | not (a:E) | ifx (c a b:E) | chain (o p:Op) (a b c:E)
 | call (f:Nat) (es:List E) | comp (h:Bool) (k:Ik) (src:List E) (tg:List Nat) (cnd:Option E) (elt:E)
 | pop (i:Nat) (es:List E) | lenV (i:Nat) | ixV (i j:Nat) | popN (i:Nat) (e:E) | compV (h:Bool) (i t:Nat) (c e:E)
 | ixQ (i:Nat) (e:E) | tupA (es:List E) | qx (vs ls:List Nat) (e:E) | mvP (i:Nat) (p:List Nat)
 | callT (tab:List (Str×Nat)) (k:E) (es:List E) | inT (neg:Bool) (ks:List Str) (e:E) | ixT (tab:List (Str×T)) (e:E) | getT (tab:List (Str×T)) (e:E)
 deriving Inhabited
inductive X where
 | q (vs ls:List Nat) | l (vs:List Nat)
 deriving Inhabited
inductive S where
 | asg (x:X) (i:Nat) (e:E) | asgT (x:X) (is:List Nat) (e:E) | setI (x:X) (i:Nat) (k e:E) | setK (x:X) (i:Nat) (k e:E) | setS (x:X) (i:Nat) (k e:E) | insF (x:X) (i:Nat) (e:E) | revS (i:Nat) | apN (i k l:Nat) | insN (i k l:Nat) | apC (i k:Nat) (cs:List T) | popI (i k:Nat) | clrA (i j:Nat)
 | exp (x:X) (e:E) | app (x:X) (i:Nat) (e:E) | ext (x:X) (i:Nat) (e:E)
 | ret (vs:List Nat) (e:E) | retN | ite (x:X) (c:E) (a b:List S)
 | forS (vs ls:List Nat) (k:Ik) (src:List E) (tg:List Nat) (body:List S) | forU (k:Ik) (src:List E) (tg:List Nat) (body:List S) | whl (x:X) (c:E) (body:List S)
 | brk | pas | stop | tri (body:List S)
 | tryI (i j:Nat) (h:List S) | asgC (vs:List Nat) (i f:Nat) (es:List E) | expC (vs:List Nat) (f:Nat) (es:List E) | retC (vs:List Nat) (f:Nat) (es:List E) | raise (c:Nat) (fld:Str) (fk:Nat) (x:X) (e:E) | tryC (cs:List Nat) (body:List S) (i:Nat) (h:List S)
 deriving Inhabited
structure Fn where
 ps:Nat
 ns:Nat
 io:List Nat
 body:List S
inductive Res (α:Type) where
 | ok (a:α) | ex (t:T) | no
noncomputable def Res.bind {α β:Type}:Res α->(α->Res β)->Res β
 | .ok a,f=>f a
 | .ex t,_=>.ex t
 | .no,_=>.no
noncomputable def ofO {α:Type}:Option α->Res α
 | some a=>.ok a
 | none=>.no
inductive Fl where
 | nx (η:Env) | rt (w:W) (η:Env) | bk (η:Env) | ex (t:T) (η:Env) | no
noncomputable def aU:T->Option Bool
 | .non=>some false | .bl b=>some b | .int i=>some (i != 0) | .str x=>some (x.cps.size != 0) | .tup ts=>some (!ts.isEmpty) | .lst ts=>some (!ts.isEmpty) | .dct _ _=>none | .ins ..=>none | .scr ns=>some (!ns.isEmpty) | .gone=>none
noncomputable def b2i:Bool->Int
 | true=>1 | false=>0
mutual
noncomputable def eqT:T->T->Bool
 | .non,.non=>true
 | .bl a,.bl b=>a==b
 | .bl a,.int i=>b2i a==i
 | .int i,.bl a=>i==b2i a
 | .int i,.int j=>i==j
 | .str x,.str y=>x==y
 | .tup ts,.tup us=>eqTs ts us
 | .lst ts,.lst us=>eqTs ts us
 | _,_=>false
noncomputable def eqTs:List T->List T->Bool
 | [],[]=>true
 | t::ts,u::us=>eqT t u&&eqTs ts us
 | _,_=>false
end
mutual
noncomputable def dp:T->Nat
 | .tup ts=>dps ts+1
 | .lst ts=>dps ts+1
 | .scr _=>1000
 | .dct _ _=>1000
 | .ins _ _ _=>1000
 | .gone=>1000
 | _=>0
noncomputable def dps:List T->Nat
 | []=>0
 | t::ts=>max (dp t) (dps ts)
end
noncomputable def sOk (x:Str):Bool:=x.cps.all (· < 0x110000)&&decide (x.cps.size<=LIM)
noncomputable def kOk:Int ⊕ Str->Bool
 | .inl _=>true
 | .inr x=>sOk x
noncomputable def oC:T->Option (Int ⊕ Str)
 | .int n=>some (.inl n)
 | .str x=>some (.inr x)
 | _=>none
noncomputable def jj:List (Int ⊕ Str)->Option (List Str)
 | []=>some []
 | .inr x::ks=>(jj ks).map (x::·)
 | .inl _::_=>none
noncomputable def m8 (q:Int ⊕ Str):List (Int ⊕ Str)->List T->Option T
 | y::ys,v::vs=>if y=q then some v else m8 q ys vs
 | _,_=>none
noncomputable def ixN (n:Nat)(i:Int):Option Nat:=if 0<=i then (if i < n then some i.toNat else none) else if -(n:Int)<=i then some (i+n).toNat else none
noncomputable def atI {α:Type}(xs:List α)(i:Int):Option α:=(ixN xs.length i).bind fun j=>xs[j]?
noncomputable def sIx (n d:Nat):Option Int->Nat
 | none=>d
 | some i=>if i < 0 then (i+n).toNat else min i.toNat n
noncomputable def cut {α:Type}(xs:List α)(lo hi:Option Int):List α:=(xs.drop (sIx xs.length 0 lo)).take (sIx xs.length xs.length hi-sIx xs.length 0 lo)
noncomputable def T.ty:T->String
 | .non=>"NoneType" | .bl _=>"bool" | .int _=>"int" | .str _=>"str" | .tup _=>"tuple" | .lst _=>"list" | .dct ..=>"dict" | .ins ..=>"object" | .scr _=>"list" | .gone=>"gone"
noncomputable def sr (c:String)(t:T):Bool:=t.ty==c || (t.ty=="bool"&&c=="int")
noncomputable def b0:List T->Option (List Int)
 | []=>some []
 | .int i::ts=>(b0 ts).map (i::·)
 | _::_=>none
noncomputable def cc:List T->Option (List Bool)
 | []=>some []
 | .bl b::ts=>(cc ts).map (b::·)
 | _::_=>none
noncomputable def c6:W->Option (List T)
 | (_,.tup ts)=>some ts
 | (_,.lst ts)=>some ts
 | _=>none
noncomputable def ei:T->Bool
 | .non | .bl _ | .int _ | .str _=>true
 | _=>false
noncomputable def isStr:T->Bool
 | .str _=>true
 | _=>false
noncomputable def f9:T->Bool
 | .non | .bl _ | .int _ | .str _ | .lst _ | .tup _=>true
 | _=>false
noncomputable def rW (c:Nat):Nat:=if 65<=c/\c<=90 then c+32 else c
noncomputable def ph:List Int->Int
 | []=>0
 | [n]=>n
 | n::ns=>max n (ph ns)
noncomputable def uj:List Int->Int
 | []=>0
 | [n]=>n
 | n::ns=>min n (uj ns)
noncomputable def uP (x:Int):List Int->List Int
 | []=>[x]
 | y::ys=>if x<=y then x::y::ys else y::uP x ys
noncomputable def nH:List Int->List Int
 | []=>[]
 | x::xs=>uP x (nH xs)
noncomputable def strsOf:List T->Option (List Str)
 | []=>some []
 | .str x::ts=>(strsOf ts).map (x::·)
 | _::_=>none
noncomputable def vn (ks:List Str)(x:Str):List Str:=if ks.contains x then ks else ks++[x]
noncomputable def nI (l:List Str):List Str:=l.foldl vn []
noncomputable def ltS (x y:Str):Bool:=decide (x.cps.toList < y.cps.toList)
noncomputable def sk (x:Str):List Str->List Str
 | []=>[x]
 | y::ys=>if ltS y x then y::sk x ys else x::y::ys
noncomputable def ey:List Str->List Str
 | []=>[]
 | x::xs=>sk x (ey xs)
noncomputable def spl (c:Nat):List Nat->List Nat->List (List Nat)
 | acc,[]=>[acc]
 | acc,x::xs=>if x=c then acc::spl c [] xs else spl c (acc++[x]) xs
noncomputable def u0 (x:Str):List Str:=(spl 32 [] x.cps.toList).map fun l=>⟨l.toArray⟩
noncomputable def sC (l:List Nat):Nat:=l.foldl (fun a c=>a * 10+(c-48)) 0
noncomputable def qT (x:Str):Int:=match x.cps.toList with
 | 45::cs=>-((sC cs:Nat):Int)
 | cs=>((sC cs:Nat):Int)
noncomputable def oK (i:Int):Str:=Str.ofString (toString i)
noncomputable def tH:List T->List T->List T
 | t::ts,u::us=>.tup [t,u]::tH ts us
 | _,_=>[]
noncomputable def newL (h:Bool)(m:Md)(ts:List T):Option W:=if h then (if leaves ts then some (.d,.lst ts) else none) else some (m.up,.lst ts)
noncomputable def aZ (n:Nat):Bool:=decide (n<=LIM)
mutual
noncomputable def datT:T->a2K
 | .bl b=>.bool b
 | .int i=>.int i
 | .str x=>.str x
 | .tup ts=>.tuple (datTs ts)
 | .lst ts=>.list (datTs ts)
 | _=>.none
noncomputable def datTs:List T->List a2K
 | []=>[]
 | t::ts=>datT t::datTs ts
end
mutual
noncomputable def rOk:T->Bool
 | .non | .bl _=>true
 | .int i=>decide (i.natAbs < 10000000000000000000)
 | .str x=>decide ((a1t x).length<=100)&&sOk (a1t x)
 | .tup ts=>rOks ts
 | .lst ts=>rOks ts
 | _=>false
noncomputable def rOks:List T->Bool
 | []=>true
 | t::ts=>rOk t&&rOks ts
end
mutual
noncomputable def szR:T->Nat
 | .tup ts=>szRs ts+4
 | .lst ts=>szRs ts+4
 | _=>100
noncomputable def szRs:List T->Nat
 | []=>0
 | t::ts=>szR t+2+szRs ts
end
noncomputable def fldOk:Nat->Md->T->Bool
 | 0,_,.int n=>decide (n.natAbs.log2 < 1920)
 | 1,.s,.tup ts=>decide (dp (.tup ts)<=64)&&rOk (.tup ts)&&decide (szR (.tup ts)<=1000000)
 | 2,_,.str _=>true
 | _,_,_=>false
noncomputable def lfM (t:T):Md:=if t.leaf=true then .d else .s
noncomputable def rV:Option Int->Option Int->T
 | some i,_=>.int i
 | none,some i=>.int i
 | none,none=>.non
noncomputable def oSem:Op->Bool->List W->Option W
 | .add,h,[(m,a),(n,b)]=>match a,b with
  | .int i,.int j=>some (.d,.int (i+j))
  | .str x,.str y=>if aZ (x.cps.size+y.cps.size) then some (.d,.str (x++y)) else none
  | .lst ts,.lst us=>if aZ (ts.length+us.length) then newL h (m.kid.meet n.kid) (ts++us) else none
  | .tup ts,.tup us=>if aZ (ts.length+us.length)&&!ts.isEmpty then some (.s,.tup (ts++us)) else none
  | _,_=>none
 | .sub,_,[(_,.int i),(_,.int j)]=>some (.d,.int (i-j))
 | .mul,h,[(m,a),(_,b)]=>match a,b with
  | .int i,.int j=>if (decide (i.natAbs < 18446744073709551616)) || (decide (j.natAbs < 18446744073709551616)) then some (.d,.int (i * j)) else none
  | .lst ts,.int k=>if decide (k.natAbs < 4611686018427387904)&&aZ (ts.length * k.toNat) then newL h .s (a0b k.toNat ts).flatten else none
  | _,_=>none
 | .fdiv,_,[(_,.int i),(_,.int j)]=>if decide (0 < j)&&decide (j < 1073741824) then some (.d,.int (i / j)) else none
 | .mod,_,[(_,.int i),(_,.int j)]=>if decide (0 < j) then some (.d,.int (i % j)) else none
 | .pow,_,[(_,.int i),(_,.int j)]=>if decide (0<=j)&&decide (j<=1000000)&&decide (i.natAbs < 18446744073709551616) then some (.d,.int (i ^ j.toNat)) else none
 | .fdivN,_,[(_,.int i),(_,.int j)]=>if (j != 0)&&decide (j.natAbs < 18446744073709551616) then some (.d,.int (i.fdiv j)) else none
 | .modN,_,[(_,.int i),(_,.int j)]=>if j != 0 then some (.d,.int (i.fmod j)) else none
 | .neg,_,[(_,.int i)]=>some (.d,.int (-i))
 | .eq,_,[(_,a),(_,b)]=>if decide (dp a<=64)&&decide (dp b<=64) then some (.d,.bl (eqT a b)) else none
 | .ne,_,[(_,a),(_,b)]=>if decide (dp a<=64)&&decide (dp b<=64) then some (.d,.bl (!eqT a b)) else none
 | .lt,_,[(_,.int i),(_,.int j)]=>some (.d,.bl (decide (i < j)))
 | .le,_,[(_,.int i),(_,.int j)]=>some (.d,.bl (decide (i<=j)))
 | .gt,_,[(_,.int i),(_,.int j)]=>some (.d,.bl (decide (j < i)))
 | .ge,_,[(_,.int i),(_,.int j)]=>some (.d,.bl (decide (j<=i)))
 | .is,_,[(_,a),(_,.non)]=>if a.isG then none else some (.d,.bl a.isN)
 | .isnot,_,[(_,a),(_,.non)]=>if a.isG then none else some (.d,.bl (!a.isN))
 | .ix,_,[(m,a),(_,.int i)]=>match a with
  | .lst ts=>(atI ts i).map fun t=>(m.kid,t)
  | .tup ts=>(atI ts i).map fun t=>(m.kid,t)
  | .str x=>(atI x.cps.toList i).map fun c=>(.d,.str ⟨#[c]⟩)
  | .scr ns=>(atI ns i).map fun n=>(.d,.int n)
  | _=>none
 | .sl,h,[(m,.lst ts)]=>newL h m.kid ts
 | .sl1,h,[(m,.lst ts),(_,.int i)]=>newL h m.kid (cut ts (some i) none)
 | .sl2,h,[(m,.lst ts),(_,.int i)]=>newL h m.kid (cut ts none (some i))
 | .sl3,h,[(m,.lst ts),(_,.int i),(_,.int j)]=>newL h m.kid (cut ts (some i) (some j))
 | .sl2,_,[(_,.scr ns),(_,.int i)]=>some (.d,.lst ((cut ns none (some i)).map T.int))
 | .sl1,_,[(_,.scr ns),(_,.int i)]=>some (.d,.lst ((cut ns (some i) none).map T.int))
 | .sl,_,[(_,.scr ns)]=>some (.d,.lst (ns.map T.int))
 | .sl1,_,[(_,.tup ts),(_,.int i)]=>some (.s,.tup (cut ts (some i) none))
 | .sl2,_,[(_,.tup ts),(_,.int i)]=>some (.s,.tup (cut ts none (some i)))
 | .sl3,_,[(_,.tup ts),(_,.int i),(_,.int j)]=>some (.s,.tup (cut ts (some i) (some j)))
 | .len,_,[(_,a)]=>match a with
  | .lst ts=>some (.d,.int ts.length)
  | .tup ts=>some (.d,.int ts.length)
  | .str x=>some (.d,.int x.cps.size)
  | .scr ns=>some (.d,.int ns.length)
  | _=>none
 | .isX cs,_,[(_,.ins c _ _)]=>some (.d,.bl (cs.contains c))
 | .isX _,_,[(_,.non)]=>some (.d,.bl false)
 | .att fld,_,[(_,.ins _ [g] [t])]=>if (g==fld)=true then some (lfM t,t) else none
 | .getK tab d,_,[(_,.str x)]=>some (.d,rV (tab.lookup x) d)
 | .mk c fld fk,_,[(m,t)]=>if fldOk fk m t=true then some (.s,.ins c [fld] [t]) else none
 | .isI cs,_,[(_,a)]=>if a.isH then none else some (.d,.bl (cs.any fun c=>sr c a))
 | .list,h,[(m,a)]=>match a with
  | .lst ts=>newL h m.kid ts
  | .tup ts=>newL h m.kid ts
  | .scr ns=>some (.d,.lst (ns.map T.int))
  | _=>none
 | .tuple,_,[(m,a)]=>match a with
  | .lst ts=>some (m.kid.up,.tup ts)
  | .tup ts=>some (m,.tup ts)
  | _=>none
 | .sum,_,[(_,.lst ts)]=>(b0 ts).map fun ns=>(.d,.int ns.sum)
 | .all,_,[(_,.lst ts)]=>(cc ts).map fun bs=>(.d,.bl (bs.all id))
 | .any,_,[(_,.lst ts)]=>(cc ts).map fun bs=>(.d,.bl (bs.any id))
 | .max,_,[(_,.int i),(_,.int j)]=>some (.d,.int (if j > i then j else i))
 | .min,_,[(_,.int i),(_,.int j)]=>some (.d,.int (if j < i then j else i))
 | .rng,_,[(_,.int i),(_,.int j)]=>if decide (i.natAbs < 4611686018427387904)&&decide (j.natAbs < 4611686018427387904)&&aZ (j-i).toNat then some (.d,.lst ((a0D (j-i).toNat).map fun (k:Nat)=>T.int (i+k))) else none
 | .isin,_,[(_,a),(n,b)]=>(c6 (n,b)).bind fun ts=>if ei a&&ts.all ei then some (.d,.bl (ts.any fun t=>eqT t a)) else none
 | .notin,_,[(_,a),(n,b)]=>(c6 (n,b)).bind fun ts=>if ei a&&ts.all ei then some (.d,.bl (!ts.any fun t=>eqT t a)) else none
 | .int,_,[(_,.int i)]=>some (.d,.int i)
 | .int,_,[(_,.bl b)]=>some (.d,.int (b2i b))
 | .abs,_,[(_,.int i)]=>some (.d,.int i.natAbs)
 | .maxZ,_,[(_,.lst ts)]=>(b0 ts).bind fun ns=>some (.d,.int (if ns.isEmpty then 0 else ph ns))
 | .max1,_,[(_,.lst ts)]=>(b0 ts).bind fun ns=>if ns.isEmpty then none else some (.d,.int (ph ns))
 | .min1,_,[(_,.lst ts)]=>(b0 ts).bind fun ns=>if ns.isEmpty then none else some (.d,.int (uj ns))
 | .sorted,_,[(_,.lst ts)]=>(b0 ts).bind fun ns=>if decide (ns.length < 64) then some (.d,.lst ((nH ns).map T.int)) else none
 | .str,_,[(_,.int i)]=>if decide (i.natAbs < 10000000000000000000) then some (.d,.str (oK i)) else none
 | .intS,_,[(_,.str x)]=>if decide ((qT x).natAbs < 10000000000000000000)&&(oK (qT x)==x) then some (.d,.int (qT x)) else none
 | .join,_,[(_,.str z),(_,.lst ts)]=>(strsOf ts).bind fun ss=>if sOk (Str.join z ss)&&decide ((ss.map fun s=>s.cps.size+z.cps.size).sum<=LIM) then some (.d,.str (Str.join z ss)) else none
 | .split,_,[(_,.str z),(_,.str y)]=>if (y==Str.ofString " ")&&decide (z.cps.size+2<=LIM)&&(u0 z).all sOk then some (.d,.lst ((u0 z).map T.str)) else none
 | .mulS,_,[(_,.str x),(_,.int k)]=>if decide (0<=k)&&decide (k<=100)&&decide (x.cps.size<=1000) then some (.d,.str ⟨(a0b k.toNat x.cps.toList).flatten.toArray⟩) else none
 | .listS,_,[(_,.str x)]=>some (.d,.lst (x.cps.toList.map fun c=>T.str ⟨#[c]⟩))
 | .apd,_,[(m,.lst ts),(_,_)]=>if m==.s then none else if decide (ts.length < LIM) then some (.d,.non) else none
 | .count,_,[(_,.lst ts),(_,.bl b)]=>(cc ts).map fun bs=>(.d,.int (bs.count b))
 | .lower,_,[(_,.str x)]=>if x.cps.toList.all (fun c=>decide (c < 128)) then some (.d,.str ⟨x.cps.map rW⟩) else none
 | .inS,_,[(_,.str x),(_,.str y)]=>some (.d,.bl (!(a0M y x 0 y.length 1).isEmpty))
 | .ninS,_,[(_,.str x),(_,.str y)]=>some (.d,.bl (!(!(a0M y x 0 y.length 1).isEmpty)))
 | .inX,_,[(_,a),(_,.tup ts)]=>if ts.all isStr&&f9 a then some (.d,.bl (ts.any fun t=>eqT t a)) else none
 | .ninX,_,[(_,a),(_,.tup ts)]=>if ts.all isStr&&f9 a then some (.d,.bl (!ts.any fun t=>eqT t a)) else none
 | .inL,_,[(_,a),(_,.lst ts)]=>if decide (dp a<=64)&&decide (dps ts<=64) then some (.d,.bl (ts.any fun t=>eqT t a)) else none
 | .slS1,_,[(_,.str x),(_,.int i)]=>if decide (0<=i) then some (.d,.str ⟨(x.cps.toList.drop i.toNat).toArray⟩) else none
 | .slS2,_,[(_,.str x),(_,.int i)]=>if decide (0<=i) then some (.d,.str ⟨(x.cps.toList.take i.toNat).toArray⟩) else none
 | .idxS,_,[(_,.str x),(_,.str y)]=>if decide (y.cps.toList.length=1)&&x.cps.toList.contains (y.cps.toList.headD 0)&&x.cps.toList.all (fun c=>decide (c < 128))&&decide (x.cps.size<=100) then some (.d,.int (x.cps.toList.idxOf (y.cps.toList.headD 0))) else none
 | .strB,_,[(_,.int i)]=>if decide (i.natAbs < 10 ^ 60) then some (.d,.str (oK i)) else none
 | .catT,_,[(_,.tup ts),(_,.tup us)]=>if aZ (ts.length+us.length) then some (.s,.tup (ts++us)) else none
 | .dnew,_,[]=>some (.d,.dct [] [])
 | .lenSet,_,[(_,.tup ts)]=>(strsOf ts).bind fun ss=>if decide (ss.length < 1000) then some (.d,.int (nI ss).length) else none
 | .countS,_,[(_,.lst ts),(_,.str x)]=>(strsOf ts).bind fun ss=>some (.d,.int (ss.count x))
 | .sortedS,_,[(_,.lst ts)]=>(strsOf ts).bind fun ss=>if decide (ss.length < 64) then some (.d,.lst ((ey ss).map T.str)) else none
 | .sortedD,_,[(_,.dct ks _)]=>(jj ks).bind fun ss=>if decide (ss.length < 64) then some (.d,.lst ((ey ss).map T.str)) else none
 | .ixD,_,[(.s,.dct ks vs),(_,k)]=>(oC k).bind fun q=>(m8 q ks vs).map fun t=>(.s,t)
 | .revL,_,[(.s,.lst ts)]=>some (.o .s,.lst ts.reverse)
 | .repr,_,[(_,t)]=>if decide (dp t<=64)&&rOk t&&aZ (szR t) then some (.d,.str (datT t).shown) else none
 | .leS,_,[(_,.str x),(_,.str y)]=>some (.d,.bl (!decide (y.cps.toList < x.cps.toList)))
 | .isB,_,[(_,.bl a),(_,.bl b)]=>some (.d,.bl (a==b))
 | .isnB,_,[(_,.bl a),(_,.bl b)]=>some (.d,.bl (!(a==b)))
 | .lzip,_,[(m,a),(n,b)]=>(c6 (m,a)).bind fun ts=>(c6 (n,b)).bind fun us=>some ((m.kid.meet n.kid).up.up,.lst (tH ts us))
 | _,_,_=>none
noncomputable def rd:Env->Nat->Option W
 | [],_=>none
 | o::_,0=>o
 | _::η,i+1=>rd η i
noncomputable def wr:Env->Nat->Option W->Env
 | [],_,_=>[]
 | _::η,0,w=>w::η
 | o::η,i+1,w=>o::wr η i w
noncomputable abbrev put (η:Env)(i:Nat)(w:W):Env:=wr η i (some w)
noncomputable abbrev del (η:Env)(i:Nat):Env:=wr η i none
noncomputable def look:W->Option W
 | (.s,t)=>some (.s,t)
 | (_,t)=>if t.leaf=true then some (.d,t) else none
noncomputable def toS:Option W->Option W
 | some (_,t)=>some (.s,t)
 | none=>none
noncomputable def share:List Nat->Env->Env
 | [],η=>η
 | i::is,η=>share is (wr η i (toS (rd η i)))
noncomputable def lfO:Option W->Option W
 | some (_,t)=>if t.leaf=true then some (.d,t) else none
 | none=>none
noncomputable def cQ:Env->Env
 | []=>[]
 | _::η=>none::cQ η
noncomputable def eU:List Nat->Env->Env->Env
 | [],_,η=>η
 | i::is,η0,η=>eU is η0 (wr η i (toS (rd η0 i)))
noncomputable def cu:List Nat->Env->Env->Env
 | [],_,η=>η
 | i::is,η0,η=>cu is η0 (wr η i (lfO (rd η0 i)))
noncomputable def bK (vs ls:List Nat)(η:Env):Env:=cu ls η (eU vs η (cQ η))
noncomputable def after (m:Md)(vs:List Nat)(η:Env):Env:=match m with
 | .d=>η
 | _=>share vs η
noncomputable def aI:List Nat->List W->Env->Option Env
 | [],[],η=>some η
 | i::is,w::ws,η=>aI is ws (put η i w)
 | _,_,_=>none
noncomputable def fR (m:Md):Nat->List T->List (List W)
 | _,[]=>[]
 | i,t::ts=>[(.d,.int i),(m,t)]::fR m (i+1) ts
noncomputable def rD (m n:Md):List T->List T->List (List W)
 | t::ts,u::us=>[(m,t),(n,u)]::rD m n ts us
 | _,_=>[]
noncomputable def jt:List T->Option (List (List W))
 | []=>some []
 | .tup [x,y]::ts=>(jt ts).map ([(.s,x),(.s,y)]::·)
 | _::_=>none
noncomputable def jG:List T->List T->List T->List (List W)
 | t::ts,u::us,v::vs=>[(.s,t),(.s,u),(.s,v)]::jG ts us vs
 | _,_,_=>[]
noncomputable def aQ:Ik->List W->Option (List (List W))
 | .seq,[(_,.lst ts)]=>some (ts.map fun t=>[(.s,t)])
 | .seq,[(_,.tup ts)]=>some (ts.map fun t=>[(.s,t)])
 | .seq,[(_,.scr ns)]=>some (ns.map fun n=>[(.d,.int n)])
 | .rng,[(_,.int n)]=>if decide (n.natAbs < 4611686018427387904)&&aZ n.toNat then some ((a0D n.toNat).map fun (k:Nat)=>[(.d,.int k)]) else none
 | .rng,[(_,.int i),(_,.int j)]=>if decide (i.natAbs < 4611686018427387904)&&decide (j.natAbs < 4611686018427387904)&&aZ (j-i).toNat then some ((a0D (j-i).toNat).map fun (k:Nat)=>[(.d,.int (i+k))]) else none
 | .rng,[(_,.int i),(_,.int j),(_,.int c)]=>if decide (i.natAbs < 4611686018427387904)&&decide (j.natAbs < 4611686018427387904)&&decide (c=-1)&&aZ (i-j).toNat then some ((a0D (i-j).toNat).map fun (k:Nat)=>[(.d,.int (i-k))]) else none
 | .enm,[(_,.lst ts)]=>some (fR .s 0 ts)
 | .enmT,[(_,.tup ts)]=>some (fR .s 0 ts)
 | .zip,[(m,a),(n,b)]=>(c6 (m,a)).bind fun ts=>(c6 (n,b)).bind fun us=>some (rD .s .s ts us)
 | .sq2,[(_,.lst ts)]=>jt ts
 | .zip3,[(_,.lst ts),(_,.lst us),(_,.lst vs)]=>some (jG ts us vs)
 | .chr,[(_,.str x)]=>some (x.cps.toList.map fun c=>[(.d,.str ⟨#[c]⟩)])
 | _,_=>none
noncomputable abbrev Call:=Nat->List W->Res (W×List W)
noncomputable abbrev RE:=Res (W×Env)
noncomputable def lf (m:Md)(t:T):Md:=if t.leaf=true then .d else m
noncomputable def dn:List W->Md
 | []=>.d
 | w::ws=>(lf w.1 w.2).meet (dn ws)
noncomputable def aM:List W->List T
 | []=>[]
 | w::ws=>w.2::aM ws
noncomputable def af:List Nat->Env->Env
 | [],η=>η
 | i::is,η=>af is (del η i)
noncomputable def ios:List E->List Nat
 | []=>[]
 | .io i::es=>i::ios es
 | _::es=>ios es
noncomputable def putAll:List Nat->List W->Env->Env
 | i::is,w::ws,η=>putAll is ws (put η i w)
 | _,_,η=>η
noncomputable def s9:W->List W->Option (W×W)
 | (.s,_),_=>none
 | (m,.lst ts),[]=>(ts.getLast?).map fun t=>((m.kid,t),(m,.lst ts.dropLast))
 | (m,.lst (t::ts)),[(_,.int 0)]=>some ((m.kid,t),(m,.lst ts))
 | _,_=>none
noncomputable def nQ:W->W->Option W
 | (.s,_),_=>none
 | (m,.lst ts),(n,t)=>if ts.length < LIM then some ((m.kid.meet (lf n t)).up,.lst (ts++[t])) else none
 | _,_=>none
noncomputable def qe:W->W->Option W
 | (.s,_),_=>none
 | (m,.lst ts),(n,.lst us)=>if ts.length+us.length<=LIM then some ((m.kid.meet n.kid).up,.lst (ts++us)) else none
 | _,_=>none
noncomputable def gE (k:Int ⊕ Str)(t:T):List (Int ⊕ Str)->List T->List (Int ⊕ Str)×List T
 | [],_=>([k],[t])
 | y::ys,v::vs=>if y=k then (y::ys,t::vs) else ((y::(gE k t ys vs).1),(v::(gE k t ys vs).2))
 | y::ys,[]=>(y::ys,[])
noncomputable def sQ:W->W->W->Option W
 | (.s,_),_,_=>none
 | (m,.dct ks vs),(_,k),(_,t)=>(oC k).bind fun q=>if decide (ks.length < LIM)&&ei t then some (m,.dct (gE q t ks vs).1 (gE q t ks vs).2) else none
 | _,_,_=>none
noncomputable def uw:W->W->W->Option W
 | (.s,_),_,_=>none
 | (m,.dct ks vs),(_,k),(_,t)=>(oC k).bind fun q=>if decide (ks.length < LIM) then some (.o .s,.dct (gE q t ks vs).1 (gE q t ks vs).2) else none
 | _,_,_=>none
noncomputable def va:W->W->Option W
 | (.s,_),_=>none
 | (m,.lst ts),(_,t)=>if decide (ts.length < LIM)&&leaves ts&&t.leaf then some (m,.lst (t::ts)) else none
 | _,_=>none
noncomputable def vg:W->Option W
 | (.s,_)=>none
 | (m,.lst ts)=>if decide (ts.length < LIM)&&leaves ts then some (m,.lst ts.reverse) else none
 | _=>none
noncomputable def apU (ts:List T)(q:Nat)(t:T):Option T->Option W
 | some (.lst us)=>if decide (us.length < LIM)&&t.leaf then some (.d,.lst (ts.set q (.lst (us++[t])))) else none
 | _=>none
noncomputable def vQ:Option W->Option W->Option W->Option W
 | some (.d,.lst ts),some (_,.int j),some (_,t)=>(ixN ts.length j).bind fun q=>apU ts q t ts[q]?
 | _,_,_=>none
noncomputable def rR:Option W->Option W->Option W->Option W
 | some (.s,_),_,_=>none
 | some (m,.lst ts),some (_,.int j),some (_,t)=>if decide (0<=j)&&decide (j.toNat<=ts.length)&&decide (ts.length < 1000)&&leaves ts&&t.leaf then some (m,.lst (ts.take j.toNat++t::ts.drop j.toNat)) else none
 | _,_,_=>none
noncomputable def vE (ts:List T)(q:Nat)(cs:List T):Option T->Option W
 | some (.lst us)=>if decide (us.length < LIM)&&leaves cs&&decide (cs.length<=100) then some (.d,.lst (ts.set q (.lst (us++[.tup cs])))) else none
 | _=>none
noncomputable def vo (cs:List T):Option W->Option W->Option W
 | some (.d,.lst ts),some (_,.int j)=>(ixN ts.length j).bind fun q=>vE ts q cs ts[q]?
 | _,_=>none
noncomputable def uG (ts:List T)(q:Nat):Option T->Option W
 | some (.lst us)=>if us.isEmpty then none else some (.d,.lst (ts.set q (.lst us.dropLast)))
 | _=>none
noncomputable def uu:Option W->Option W->Option W
 | some (.d,.lst ts),some (_,.int j)=>(ixN ts.length j).bind fun q=>uG ts q ts[q]?
 | _,_=>none
noncomputable def isL:T->Bool
 | .lst _=>true
 | _=>false
noncomputable def vf:Option W->Option W
 | some (.d,.lst ts)=>if ts.all isL then some (.d,.lst (ts.map fun _=>.lst [])) else none
 | _=>none
noncomputable def nv:W->W->Option (W×W)
 | (.s,_),_=>none
 | (m,.lst ts),(_,.int j)=>if decide (0<=j)&&decide (j < 1000)&&leaves ts then (ts[j.toNat]?).map fun t=>((.d,t),(m,.lst (ts.eraseIdx j.toNat))) else none
 | _,_=>none
noncomputable def oU:W->W->W->Option W
 | (.s,_),_,_=>none
 | (m,.lst ts),(_,.int j),(n,t)=>(ixN ts.length j).map fun k=>((m.kid.meet (lf n t)).up,.lst (ts.set k t))
 | _,_,_=>none
noncomputable def bY:Option W->Res Unit
 | some (_,.lst _)=>.ok ()
 | _=>.no
noncomputable def uH:W->Option (List W)
 | (m,.tup ts)=>some (ts.map fun t=>(m.kid,t))
 | _=>none
noncomputable def ret {α:Type}(η:Env)(o:Option α):Res (α×Env):=match o with
 | some a=>.ok (a,η)
 | none=>.no
noncomputable def onB {α:Type}:T->(Env->Res α)->(Env->Res α)->Env->Res α
 | .bl true,f,_,η=>f η
 | .bl false,_,g,η=>g η
 | _,_,_,_=>.no
noncomputable def onT {α:Type}(f g:Env->Res α)(p:W×Env):Res α:=match aU p.1.2 with
 | some true=>f p.2
 | some false=>g p.2
 | none=>.no
noncomputable def okW {α:Type}(a:α)(η:Env):Res (α×Env):=.ok (a,η)
noncomputable def gM (p:List W×Env):RE:=.ok (((dn p.1).up,.tup (aM p.1)),p.2)
noncomputable def i9 (h:Bool)(p:List W×Env):RE:=.ok ((if h then (dn p.1).up else .o .s,.lst (aM p.1)),p.2)
noncomputable def kWk (m:Md)(p:W×Env):RE:=ret p.2 (if m.le p.1.1 then some (m,p.1.2) else none)
noncomputable def kOp (o:Op)(h:Bool)(p:List W×Env):RE:=ret p.2 (oSem o h p.1)
noncomputable def lB (f:Env->RE)(p:W×Env):RE:=onT f (okW p.1) p
noncomputable def kOr (f:Env->RE)(p:W×Env):RE:=onT (okW p.1) f p
noncomputable def jk (p:W×Env):RE:=ret p.2 ((aU p.1.2).map fun b=>(.d,.bl (!b)))
noncomputable def kC3 (q:Op)(y:W)(z:W×Env):RE:=ret z.2 (oSem q false [y,z.1])
noncomputable def fW {α β:Type}(f:Env->Res (α×Env))(k:α×Env->Res β)(η:Env):Res β:=(f η).bind k
noncomputable def kC2 (o q:Op)(fc:Env->RE)(x:W)(y:W×Env):RE:=(ret y.2 (oSem o false [x,y.1])).bind fun k=>onB k.1.2 (fW fc (kC3 q y.1)) (okW (.d,.bl false)) k.2
noncomputable def kC1 (o q:Op)(fb fc:Env->RE)(x:W×Env):RE:=(fb x.2).bind (kC2 o q fc x.1)
noncomputable def eB (is:List Nat)(η:Env)(r:W×List W):RE:=.ok (r.1,putAll is r.2 η)
noncomputable def cR (C:Call)(f:Nat)(is:List Nat)(p:List W×Env):RE:=(C f p.1).bind (eB is p.2)
noncomputable def cH (p:W×Env):Res (Option W×Env):=.ok (some p.1,p.2)
noncomputable def b6 (f:Env->RE)(η:Env):Res (Option W×Env):=(f η).bind cH
noncomputable def eA (c f:Env->RE)(η:Env):Res (Option W×Env):=(c η).bind (onT (b6 f) (okW none))
noncomputable def aH (tg:List Nat)(f:Env->Res (Option W×Env)):List (List W)->Env->List W->Res (List W×Env)
 | [],η,acc=>.ok (acc,η)
 | ws::r,η,acc=>(ofO (aI tg ws η)).bind fun η1=>(f η1).bind fun p=>aH tg f r (af tg p.2) (acc++p.1.toList)
noncomputable def okD (w:W):Bool:=w.1==.d || w.2.leaf
noncomputable def cV (h:Bool)(q:List W×Env):RE:=ret q.2 (if h then (if q.1.all okD then some (.d,.lst (aM q.1)) else none) else some (.o .s,.lst (aM q.1)))
noncomputable def bP (h:Bool)(k:Ik)(tg:List Nat)(f:Env->Res (Option W×Env))(p:List W×Env):RE:=(ret (af tg p.2) (aQ k p.1)).bind fun t=>(aH tg f t.1 t.2 []).bind (cV h)
noncomputable def vwT:Option W->Option (List T)
 | some (.s,_)=>none
 | some (_,.lst ts)=>if leaves ts then some ts else none
 | _=>none
noncomputable def kV2 (i:Nat)(w:Option W)(p:W×Env):RE:=.ok (p.1,wr p.2 i w)
noncomputable def kV1 (h:Bool)(i t:Nat)(f:Env->Res (Option W×Env))(η:Env)(ts:List T):RE:=((aH [t] f (ts.map fun u=>[(.s,u)]) (af [t] (del η i)) []).bind (cV h)).bind (kV2 i (rd η i))
noncomputable def kb (f:Env->Res (List W×Env))(η:Env)(k:List W×Env->RE)(_:Unit):RE:=(f η).bind k
noncomputable def mG (i:Nat)(p:List W×Env):RE:=(ofO ((rd p.2 i).bind fun w=>s9 w p.1)).bind fun r=>.ok (r.1,put p.2 i r.2)
noncomputable def mz:Option W->Option W->Option W
 | some (.o .s,.lst ts),some (_,.int j)=>(atI ts j).map fun t=>(.s,t)
 | some (.s,.lst ts),some (_,.int j)=>(atI ts j).map fun t=>(.s,t)
 | _,_=>none
noncomputable def dH (f:Env->RE)(η:Env)(k:W×Env->RE)(_:Unit):RE:=(f η).bind k
noncomputable def jJ (i:Nat)(p:W×Env):RE:=(ofO ((rd p.2 i).bind fun w=>nv w p.1)).bind fun r=>.ok (r.1,put p.2 i r.2)
noncomputable def pB (i:Nat)(p:W×Env):RE:=ret p.2 (mz (rd p.2 i) (some p.1))
noncomputable def fN (w:W)(q:List W×Env):Res (List W×Env):=.ok (w::q.1,q.2)
noncomputable def aO (f:Env->Res (List W×Env))(p:W×Env):Res (List W×Env):=(f p.2).bind (fN p.1)
noncomputable def kf:List Nat->Md->T->Option (W×T)
 | [],m,t=>some ((m,t),.gone)
 | j::p,m,.lst ts=>(ts[j]?).bind fun t=>(kf p m.kid t).map fun r=>(r.1,.lst (ts.set j r.2))
 | j::p,m,.tup ts=>(ts[j]?).bind fun t=>(kf p m.kid t).map fun r=>(r.1,.tup (ts.set j r.2))
 | _::_,_,_=>none
noncomputable def nL (p:List Nat)(w:W):Option (W×W):=(kf p w.1 w.2).map fun r=>(r.1,(w.1,r.2))
noncomputable def uR (i:Nat)(η:Env)(r:W×W):RE:=.ok (r.1,put η i r.2)
noncomputable def gZ {α:Type}(tab:List (Str×α))(f:α->Env->RE)(p:W×Env):RE:=match p.1.2 with
 | .str x=>match tab.lookup x with
  | some a=>f a p.2
  | none=>.no
 | _=>.no
noncomputable def kCT (C:Call)(fa:Env->Res (List W×Env))(is:List Nat)(j:Nat)(η:Env):RE:=(fa η).bind (cR C j is)
noncomputable def kIn (neg:Bool)(ks:List Str)(p:W×Env):RE:=match p.1.2 with
 | .str x=>.ok ((.d,.bl (ks.contains x != neg)),p.2)
 | _=>.no
noncomputable def okS (t:T)(η:Env):RE:=.ok ((.s,t),η)
noncomputable def mL (tab:List (Str×T))(p:W×Env):RE:=match p.1.2 with
 | .str x=>.ok ((.s,(tab.lookup x).getD .non),p.2)
 | _=>.no
noncomputable def kX (vs:List Nat)(η:Env)(p:W×Env):RE:=.ok ((lf p.1.1 p.1.2,p.1.2),after (lf p.1.1 p.1.2) vs η)
noncomputable def kIo (i:Nat)(p:List W×Env):Res (List W×Env):=(ofO (rd p.2 i)).bind fun w=>.ok (w::p.1,del p.2 i)
section
variable (C:Call)
mutual
noncomputable def evE:E->Env->RE
 | .var i,η=>ret η ((rd η i).bind look)
 | .mv i,η=>ret (del η i) (rd η i)
 | .io i,η=>ret (del η i) (rd η i)
 | .cst t,η=>.ok ((.d,t),η)
 | .glb _ t,η=>.ok ((.s,t),η)
 | .tup es,η=>(evL es η).bind gM
 | .lst h es,η=>(evL es η).bind (i9 h)
 | .wk m e,η=>(evE e η).bind (kWk m)
 | .op o h es,η=>(evL es η).bind (kOp o h)
 | .and a b,η=>(evE a η).bind (lB (evE b))
 | .or a b,η=>(evE a η).bind (kOr (evE b))
 | .not a,η=>(evE a η).bind jk
 | .ifx c a b,η=>(evE c η).bind (onT (evE a) (evE b))
 | .chain o q a b c,η=>(evE a η).bind (kC1 o q (evE b) (evE c))
 | .call f es,η=>(evA es η).bind (cR C f (ios es))
 | .comp h k src tg none elt,η=>(evL src η).bind (bP h k tg (b6 (evE elt)))
 | .comp h k src tg (some c) elt,η=>(evL src η).bind (bP h k tg (eA (evE c) (evE elt)))
 | .pop i es,η=>(bY (rd η i)).bind (kb (evL es) η (mG i))
 | .lenV i,η=>ret η ((rd η i).bind fun w=>oSem .len false [w])
 | .ixV i j,η=>ret η (mz (rd η i) (rd η j))
 | .compV h i t c e,η=>(ofO (vwT (rd η i))).bind (kV1 h i t (eA (evE c) (evE e)) η)
 | .popN i e,η=>(bY (rd η i)).bind (dH (evE e) η (jJ i))
 | .ixQ i e,η=>(bY (rd η i)).bind (dH (evE e) η (pB i))
 | .tupA es,η=>(evA es η).bind gM
 | .qx vs ls e,η=>(evE e (bK vs ls η)).bind (kX vs η)
 | .mvP i p,η=>(ofO ((rd η i).bind (nL p))).bind (uR i η)
 | .callT tab k es,η=>(evE k η).bind (gZ tab (kCT C (evA es) (ios es)))
 | .inT neg ks e,η=>(evE e η).bind (kIn neg ks)
 | .ixT tab e,η=>(evE e η).bind (gZ tab okS)
 | .getT tab e,η=>(evE e η).bind (mL tab)
noncomputable def evL:List E->Env->Res (List W×Env)
 | [],η=>.ok ([],η)
 | e::es,η=>(evE e η).bind (aO (evL es))
noncomputable def evA:List E->Env->Res (List W×Env)
 | [],η=>.ok ([],η)
 | .io i::es,η=>(evA es η).bind (kIo i)
 | e::es,η=>(evE e η).bind (aO (evA es))
end
noncomputable def kT (η:Env)(p:W×Env):Res (Bool×Env):=ret η (aU p.1.2)
noncomputable def kT2 (p:W×Env):Res (Bool×Env):=ret p.2 (aU p.1.2)
noncomputable def evX:X->E->Env->RE
 | .q vs ls,e,η=>(evE C e (bK vs ls η)).bind (kX vs η)
 | .l vs,e,η=>evE C e (share vs η)
noncomputable def evT:X->E->Env->Res (Bool×Env)
 | .q vs ls,e,η=>(evE C e (bK vs ls η)).bind (kT η)
 | .l vs,e,η=>(evE C e (share vs η)).bind kT2
noncomputable def Fl.of {α:Type}(η:Env):Res α->(α->Fl)->Fl
 | .ok a,f=>f a
 | .ex _,_=>.no
 | .no,_=>.no
noncomputable def Fl.seq:Fl->(Env->Fl)->Fl
 | .nx η,f=>f η
 | z,_=>z
noncomputable def Fl.turn:Fl->(Env->Fl)->Fl
 | .nx η,f=>f η
 | .bk η,_=>.nx η
 | z,_=>z
noncomputable def onF:Bool->(Env->Fl)->(Env->Fl)->Env->Fl
 | true,f,_,η=>f η
 | false,_,g,η=>g η
noncomputable def eH (tg:List Nat)(f:Env->Fl):List (List W)->Env->Fl
 | [],η=>.nx η
 | ws::r,η=>Fl.of η (ofO (aI tg ws η)) fun η1=>Fl.turn (f η1) (eH tg f r)
noncomputable def kIf (f g:Env->Fl)(p:Bool×Env):Fl:=onF p.1 f g p.2
noncomputable def nu (f:Env->Fl)(g:Env->Fl)(η:Env):Fl:=Fl.turn (f η) g
noncomputable def n9 (c:Env->Res (Bool×Env))(f:Env->Fl):Nat->Env->Fl
 | 0,_=>.no
 | n+1,η=>Fl.of η (c η) (kIf (nu f (n9 c f n)) .nx)
noncomputable def ui:Nat:=1000000000000
noncomputable def nxO (η:Env):Option Env->Fl
 | some η=>.nx η
 | none=>.no
noncomputable def kn (i:Nat)(p:W×Env):Fl:=.nx (put p.2 i p.1)
noncomputable def mY (is:List Nat)(p:W×Env):Fl:=nxO p.2 ((uH p.1).bind fun ws=>aI is ws p.2)
noncomputable def oG (i:Nat)(p:W×Env):Fl:=nxO p.2 (((rd p.2 i).bind fun w=>nQ w p.1).map fun w=>put p.2 i w)
noncomputable def qU (i:Nat)(p:W×Env):Fl:=nxO p.2 (((rd p.2 i).bind fun w=>qe w p.1).map fun w=>put p.2 i w)
noncomputable def nG (i:Nat)(x:W)(q:W×Env):Fl:=nxO q.2 (((rd q.2 i).bind fun w=>oU w q.1 x).map fun w=>put q.2 i w)
noncomputable def iG (i:Nat)(x:W)(q:W×Env):Fl:=nxO q.2 (((rd q.2 i).bind fun w=>sQ w q.1 x).map fun w=>put q.2 i w)
noncomputable def iE (i:Nat)(f:Env->RE)(η:Env)(p:W×Env):Fl:=Fl.of η (f p.2) (iG i p.1)
noncomputable def qY (i:Nat)(x:W)(q:W×Env):Fl:=nxO q.2 (((rd q.2 i).bind fun w=>uw w q.1 x).map fun w=>put q.2 i w)
noncomputable def sj (i:Nat)(f:Env->RE)(η:Env)(p:W×Env):Fl:=Fl.of η (f p.2) (qY i p.1)
noncomputable def vL (i:Nat)(p:W×Env):Fl:=nxO p.2 (((rd p.2 i).bind fun w=>va w p.1).map fun w=>put p.2 i w)
noncomputable def nV (i:Nat)(f:Env->RE)(η:Env)(p:W×Env):Fl:=Fl.of η (f p.2) (nG i p.1)
noncomputable def gy (f:Env->RE)(η:Env)(k:W×Env->Fl)(_:Unit):Fl:=Fl.of η (f η) k
noncomputable def kNx (p:W×Env):Fl:=.nx p.2
noncomputable def kRt (p:W×Env):Fl:=.rt p.1 p.2
noncomputable def fM (tg:List Nat)(f:Env->Fl)(t:List (List W)×Env):Fl:=eH tg f t.1 t.2
noncomputable def ko (vs:List Nat)(k:Ik)(tg:List Nat)(f:Env->Fl)(η:Env)(p:List W×Env):Fl:=Fl.of η (ret (share vs η) (aQ k p.1)) (fM tg f)
noncomputable def tR (k:Ik)(tg:List Nat)(f:Env->Fl)(p:List W×Env):Fl:=Fl.of p.2 (ret p.2 (aQ k p.1)) (fM tg f)
noncomputable def mC (k:W->Env->Fl)(η:Env):Res (W×List W)->Fl
 | .ok (w,[])=>k w η
 | .ex t=>.ex t η
 | _=>.no
noncomputable def kC (f:Nat)(k:W->Env->Fl)(p:List W×Env):Fl:=mC k p.2 (C f p.1)
noncomputable def jN (i:Nat)(w:W)(η:Env):Fl:=.nx (put η i w)
noncomputable def i6 (_:W)(η:Env):Fl:=.nx η
noncomputable def fD (c:Nat)(fld:Str)(fk:Nat)(p:W×Env):Fl:=if fldOk fk p.1.1 p.1.2=true then .ex (.ins c [fld] [p.1.2]) p.2 else .no
noncomputable def Fl.drop (i:Nat):Fl->Fl
 | .nx η=>.nx (del η i)
 | .rt w η=>.rt w (del η i)
 | _=>.no
noncomputable def Fl.caught (cs:List Nat)(i:Nat)(h:Env->Fl):Fl->Fl
 | .ex (.ins c fs vs) η=>if cs.contains c=true then Fl.drop i (h (put η i (.s,.ins c fs vs))) else .no
 | .ex _ _=>.no
 | z=>z
noncomputable def vO (η:Env)(i:Nat)(f:Env->Fl):Option W->Fl
 | some (_,.str x)=>if (x.cps.toList.all (fun c=>decide (c < 128))&&decide (x.cps.size<=100))=true then (match PySem.intText? x with
  | some n=>.nx (put η i (.d,.int n))
  | none=>f η) else .no
 | _=>.no
mutual
noncomputable def evS:S->Env->Fl
 | .asg x i e,η=>Fl.of η (evX C x e η) (kn i)
 | .asgT x is e,η=>Fl.of η (evX C x e η) (mY is)
 | .setI x i k e,η=>Fl.of η (evX C x e η) (nV i (evX C x k) η)
 | .setK x i k e,η=>Fl.of η (evX C x e η) (iE i (evX C x k) η)
 | .setS x i k e,η=>Fl.of η (evX C x e η) (sj i (evX C x k) η)
 | .insF x i e,η=>Fl.of η (bY (rd η i)) (gy (evX C x e) η (vL i))
 | .revS i,η=>nxO η (((rd η i).bind vg).map fun w=>put η i w)
 | .apN i k l,η=>nxO η ((vQ (rd η i) (rd η k) (rd η l)).map fun w=>put η i w)
 | .insN i k l,η=>nxO η ((rR (rd η i) (rd η k) (rd η l)).map fun w=>put η i w)
 | .apC i k cs,η=>nxO η ((vo cs (rd η i) (rd η k)).map fun w=>put η i w)
 | .popI i k,η=>nxO η ((uu (rd η i) (rd η k)).map fun w=>put η i w)
 | .clrA i j,η=>nxO η ((vf (rd η i)).map fun w=>put (del η j) i w)
 | .exp x e,η=>Fl.of η (evX C x e η) kNx
 | .app x i e,η=>Fl.of η (bY (rd η i)) (gy (evX C x e) η (oG i))
 | .ext x i e,η=>Fl.of η (bY (rd η i)) (gy (evX C x e) η (qU i))
 | .ret vs e,η=>Fl.of η (evE C e (share vs η)) kRt
 | .retN,η=>.rt (.d,.non) η
 | .ite x c a b,η=>Fl.of η (evT C x c η) (kIf (evSs a) (evSs b))
 | .forS vs ls k src tg body,η=>Fl.of η (evL C src (bK vs ls η)) (ko vs k tg (evSs body) η)
 | .forU k src tg body,η=>Fl.of η (evL C src η) (tR k tg (evSs body))
 | .whl x c body,η=>n9 (evT C x c) (evSs body) ui η
 | .brk,η=>.bk η
 | .pas,η=>.nx η
 | .stop,_=>.no
 | .tri body,η=>evSs body η
 | .tryI i j h,η=>vO η i (evSs h) (rd η j)
 | .asgC vs i f es,η=>Fl.of η (evL C es (share vs η)) (kC C f (jN i))
 | .expC vs f es,η=>Fl.of η (evL C es (share vs η)) (kC C f i6)
 | .retC vs f es,η=>Fl.of η (evL C es (share vs η)) (kC C f .rt)
 | .raise c fld fk x e,η=>Fl.of η (evX C x e η) (fD c fld fk)
 | .tryC cs body i h,η=>Fl.caught cs i (evSs h) (evSs body η)
noncomputable def evSs:List S->Env->Fl
 | [],η=>.nx η
 | s::r,η=>Fl.seq (evS s η) (evSs r)
end
end
noncomputable def backs:List Nat->Env->Option (List W)
 | [],_=>some []
 | i::is,η=>(rd η i).bind fun w=>(backs is η).bind fun ws=>some (w::ws)
noncomputable def iV (w:W)(b:List W):Res (W×List W):=.ok (w,b)
noncomputable def Fl.out (io:List Nat):Fl->Res (W×List W)
 | .nx η=>(ofO (backs io η)).bind (iV (.d,.non))
 | .rt w η=>(ofO (backs io η)).bind (iV w)
 | .ex t _=>.ex t
 | _=>.no
noncomputable def runF (C:Call)(f:Fn)(ws:List W):Res (W×List W) :=
 if ws.length=f.ps then Fl.out f.io (evSs C f.body (ws.map some++a0b f.ns none)) else .no
noncomputable abbrev u5:=List Fn
noncomputable def qV (n:Nat):List W->Res (W×List W)
 | [(m,t)]=>if (lf m t==.d&&(decide (dp t<=n)&&decide (dp t<=64)))=true then .ok ((.d,.non),[]) else .no
 | _=>.no
noncomputable def nh:List Nat->List T->List T
 | [],_=>[]
 | n::ns,ts=>.lst (ts.take n)::nh ns (ts.drop n)
noncomputable def iR:List T->Option (List Nat)
 | []=>some []
 | .int (.ofNat n)::ts=>(iR ts).map (n::·)
 | _::_=>none
noncomputable def tX:List W->Res (W×List W)
 | [(_,.lst ls),(m,.lst ts)]=>(ofO (iR ls)).bind fun ns=>.ok ((m.kid.up.up,.lst (nh ns ts)),[])
 | _=>.no
noncomputable def callR (P:u5)(s r:Nat):Nat->Call
 | 0=>fun _ _=>.no
 | n+1=>fun f ws=>if f=s then qV n ws else if f=r then tX ws else (ofO P[f]?).bind fun d=>runF (callR P s r n) d ws
noncomputable abbrev zf:Fn:={ ps:=0,ns:=0,io:=[],body:=[.stop] }
theorem pG (C:Call)(i:Nat)(η:Env):evE C (.var i) η=ret η ((rd η i).bind look):=rfl
theorem pI (C:Call)(i:Nat)(η:Env):evE C (.mv i) η=ret (del η i) (rd η i):=rfl
theorem qq (C:Call)(i:Nat)(η:Env):evE C (.io i) η=ret (del η i) (rd η i):=rfl
theorem pV (C:Call)(t:T)(η:Env):evE C (.cst t) η=.ok ((.d,t),η):=rfl
theorem pK (C:Call)(es:List E)(η:Env):evE C (.tup es) η=(evL C es η).bind gM:=rfl
theorem rf (C:Call)(h:Bool)(es:List E)(η:Env):evE C (.lst h es) η=(evL C es η).bind (i9 h):=rfl
theorem qW (C:Call)(o:Op)(h:Bool)(es:List E)(η:Env):evE C (.op o h es) η=(evL C es η).bind (kOp o h):=rfl
theorem kF (C:Call)(a:E)(b:E)(η:Env):evE C (.and a b) η=(evE C a η).bind (lB (evE C b)):=rfl
theorem mE (C:Call)(a:E)(b:E)(η:Env):evE C (.or a b) η=(evE C a η).bind (kOr (evE C b)):=rfl
theorem kG (C:Call)(a:E)(η:Env):evE C (.not a) η=(evE C a η).bind jk:=rfl
theorem kU (C:Call)(c:E)(a:E)(b:E)(η:Env):evE C (.ifx c a b) η=(evE C c η).bind (onT (evE C a) (evE C b)):=rfl
theorem lx (C:Call)(o:Op)(q:Op)(a:E)(b:E)(c:E)(η:Env):evE C (.chain o q a b c) η=(evE C a η).bind (kC1 o q (evE C b) (evE C c)):=rfl
theorem mI (C:Call)(f:Nat)(es:List E)(η:Env):evE C (.call f es) η=(evA C es η).bind (cR C f (ios es)):=rfl
theorem mh (C:Call)(h:Bool)(k:Ik)(src:List E)(tg:List Nat)(elt:E)(η:Env):evE C (.comp h k src tg none elt) η=(evL C src η).bind (bP h k tg (b6 (evE C elt))):=rfl
theorem lj (C:Call)(h:Bool)(k:Ik)(src:List E)(tg:List Nat)(c:E)(elt:E)(η:Env):evE C (.comp h k src tg (some c) elt) η=(evL C src η).bind (bP h k tg (eA (evE C c) (evE C elt))):=rfl
theorem mq (C:Call)(i:Nat)(es:List E)(η:Env):evE C (.pop i es) η=(bY (rd η i)).bind (kb (evL C es) η (mG i)):=rfl
theorem n5 (h:Bool)(m n:Md)(ts:List T)(i:Int):oSem .sl2 h [(m,.lst ts),(n,.int i)]=newL h m.kid (cut ts none (some i)):=rfl
theorem oB (h:Bool)(m n:Md)(ts:List T)(k:Int):oSem .mul h [(m,.lst ts),(n,.int k)]=if decide (k.natAbs < 4611686018427387904)&&aZ (ts.length * k.toNat) then newL h .s (a0b k.toNat ts).flatten else none:=rfl
noncomputable def lkM:Md->Md
 | .s=>.s | _=>.d
theorem vi:lkM .s=.s:=rfl
theorem vb:lkM .d=.d:=rfl
theorem u3 (m:Md):lkM (.o m)=.d:=rfl
theorem tS (m:Md)(i:Int):look (m,.int i)=some (lkM m,.int i):=by cases m<;>rfl
theorem tf (m:Md)(b:Bool):look (m,.bl b)=some (lkM m,.bl b):=by cases m<;>rfl
theorem uo (m:Md)(x:Str):look (m,.str x)=some (lkM m,.str x):=by cases m<;>rfl
theorem um (m:Md):look (m,.non)=some (lkM m,.non):=by cases m<;>rfl
theorem o8 (m n k:Md)(ts us vs:List T):aQ .zip3 [(m,.lst ts),(n,.lst us),(k,.lst vs)]=some (jG ts us vs):=rfl
theorem oN (C:Call)(η:Env):evA C [] η=.ok ([],η):=rfl
theorem pH (C:Call)(i:Nat)(es:List E)(η:Env):evA C (.io i::es) η=(evA C es η).bind (kIo i):=rfl
theorem gK (C:Call)(i:Nat)(es:List E)(η:Env):evA C (.var i::es) η=(evE C (.var i) η).bind (aO (evA C es)):=rfl
theorem iW (C:Call)(i:Nat)(es:List E)(η:Env):evA C (.mv i::es) η=(evE C (.mv i) η).bind (aO (evA C es)):=rfl
theorem gj (C:Call)(t:T)(es:List E)(η:Env):evA C (.cst t::es) η=(evE C (.cst t) η).bind (aO (evA C es)):=rfl
theorem gI (C:Call)(l:List E)(es:List E)(η:Env):evA C (.tup l::es) η=(evE C (.tup l) η).bind (aO (evA C es)):=rfl
theorem gV (C:Call)(h:Bool)(l:List E)(es:List E)(η:Env):evA C (.lst h l::es) η=(evE C (.lst h l) η).bind (aO (evA C es)):=rfl
theorem jB (C:Call)(o:Op)(h:Bool)(l:List E)(es:List E)(η:Env):evA C (.op o h l::es) η=(evE C (.op o h l) η).bind (aO (evA C es)):=rfl
theorem jX (C:Call)(a b:E)(es:List E)(η:Env):evA C (.or a b::es) η=(evE C (.or a b) η).bind (aO (evA C es)):=rfl
theorem gY (C:Call)(a:E)(es:List E)(η:Env):evA C (.not a::es) η=(evE C (.not a) η).bind (aO (evA C es)):=rfl
theorem gA (C:Call)(c a b:E)(es:List E)(η:Env):evA C (.ifx c a b::es) η=(evE C (.ifx c a b) η).bind (aO (evA C es)):=rfl
theorem fE (C:Call)(f:Nat)(l:List E)(es:List E)(η:Env):evA C (.call f l::es) η=(evE C (.call f l) η).bind (aO (evA C es)):=rfl
theorem eN (C:Call)(h:Bool)(k:Ik)(src:List E)(tg:List Nat)(cnd:Option E)(elt:E)(es:List E)(η:Env):evA C (.comp h k src tg cnd elt::es) η=(evE C (.comp h k src tg cnd elt) η).bind (aO (evA C es)):=rfl
theorem oh {C:Call}{e:E}{es:List E}{η:Env}(he:∀ i,e≠.io i):evA C (e::es) η=(evE C e η).bind (aO (evA C es)):=by
 cases e with
 | io i=>exact absurd rfl (he i)
 | _=>rfl
theorem mM (C:Call)(η:Env):evL C ([]) η=.ok ([],η):=rfl
theorem mQ (C:Call)(e:E)(es:List E)(η:Env):evL C (e::es) η=(evE C e η).bind (aO (evL C es)):=rfl
theorem kl (C:Call)(x:X)(i:Nat)(e:E)(η:Env):evS C (.asg x i e) η=Fl.of η (evX C x e η) (kn i):=rfl
theorem kM (C:Call)(x:X)(is:List Nat)(e:E)(η:Env):evS C (.asgT x is e) η=Fl.of η (evX C x e η) (mY is):=rfl
theorem fm (C:Call)(x:X)(i:Nat)(k:E)(e:E)(η:Env):evS C (.setK x i k e) η=Fl.of η (evX C x e η) (iE i (evX C x k) η):=rfl
theorem lD (C:Call)(x:X)(i:Nat)(k:E)(e:E)(η:Env):evS C (.setI x i k e) η=Fl.of η (evX C x e η) (nV i (evX C x k) η):=rfl
theorem kD (C:Call)(x:X)(e:E)(η:Env):evS C (.exp x e) η=Fl.of η (evX C x e η) kNx:=rfl
theorem k9 (C:Call)(x:X)(i:Nat)(e:E)(η:Env):evS C (.app x i e) η=Fl.of η (bY (rd η i)) (gy (evX C x e) η (oG i)):=rfl
theorem kj (C:Call)(x:X)(i:Nat)(e:E)(η:Env):evS C (.ext x i e) η=Fl.of η (bY (rd η i)) (gy (evX C x e) η (qU i)):=rfl
theorem mB (C:Call)(vs:List Nat)(e:E)(η:Env):evS C (.ret vs e) η=Fl.of η (evE C e (share vs η)) kRt:=rfl
theorem kA (C:Call)(η:Env):evS C (.retN) η=.rt (.d,.non) η:=rfl
theorem ma (C:Call)(x:X)(c:E)(a:List S)(b:List S)(η:Env):evS C (.ite x c a b) η=Fl.of η (evT C x c η) (kIf (evSs C a) (evSs C b)):=rfl
theorem mR (C:Call)(vs:List Nat)(ls:List Nat)(k:Ik)(src:List E)(tg:List Nat)(body:List S)(η:Env):evS C (.forS vs ls k src tg body) η=Fl.of η (evL C src (bK vs ls η)) (ko vs k tg (evSs C body) η):=rfl
theorem mT (C:Call)(x:X)(c:E)(body:List S)(η:Env):evS C (.whl x c body) η=n9 (evT C x c) (evSs C body) ui η:=rfl
theorem l0 (C:Call)(η:Env):evS C (.brk) η=.bk η:=rfl
theorem lS (C:Call)(η:Env):evS C (.pas) η=.nx η:=rfl
theorem ik (C:Call)(η:Env):evSs C ([]) η=.nx η:=rfl
theorem jM (C:Call)(s:S)(r:List S)(η:Env):evSs C (s::r) η=Fl.seq (evS C s η) (evSs C r):=rfl
theorem mD (C:Call)(vs:List Nat)(ls:List Nat)(e:E)(η:Env):evX C (.q vs ls) e η=(evE C e (bK vs ls η)).bind (kX vs η):=rfl
theorem lP (C:Call)(vs:List Nat)(e:E)(η:Env):evX C (.l vs) e η=evE C e (share vs η):=rfl
theorem mO (C:Call)(vs:List Nat)(ls:List Nat)(e:E)(η:Env):evT C (.q vs ls) e η=(evE C e (bK vs ls η)).bind (kT η):=rfl
theorem mX (C:Call)(vs:List Nat)(e:E)(η:Env):evT C (.l vs) e η=(evE C e (share vs η)).bind kT2:=rfl
theorem qB {α β:Type}(a:α)(f:α->Res β):(Res.ok a).bind f=f a:=rfl
theorem vX {α:Type}(η:Env)(a:α)(f:α->Fl):Fl.of η (.ok a) f=f a:=rfl
theorem oP (η:Env)(f:Env->Fl):Fl.seq (.nx η) f=f η:=rfl
theorem om (w:W)(η:Env)(f:Env->Fl):Fl.seq (.rt w η) f=.rt w η:=rfl
theorem rm (η:Env)(f:Env->Fl):Fl.seq (.bk η) f=.bk η:=rfl
theorem lh (η:Env)(f:Env->Fl):Fl.turn (.nx η) f=f η:=rfl
theorem kq (w:W)(η:Env)(f:Env->Fl):Fl.turn (.rt w η) f=.rt w η:=rfl
theorem kN (η:Env)(f:Env->Fl):Fl.turn (.bk η) f=.nx η:=rfl
theorem qR {α:Type}(f g:Env->Res α)(η:Env):onB (.bl true) f g η=f η:=rfl
theorem q9 {α:Type}(f g:Env->Res α)(η:Env):onB (.bl false) f g η=g η:=rfl
theorem nO {α:Type}(f g:Env->Res α)(m:Md)(b:Bool)(η:Env):onT f g ((m,.bl b),η)=onB (.bl b) f g η:=by cases b<;>rfl
theorem qP {α:Type}(f g:Env->Res α)(m:Md)(η:Env):onT f g ((m,.bl true),η)=f η:=rfl
theorem oA {α:Type}(f g:Env->Res α)(m:Md)(η:Env):onT f g ((m,.bl false),η)=g η:=rfl
theorem nU (f g:Env->Fl)(η:Env):onF true f g η=f η:=rfl
theorem oi (f g:Env->Fl)(η:Env):onF false f g η=g η:=rfl
theorem uq {α:Type}(a:α):ofO (some a)=.ok a:=rfl
theorem uB {α:Type}(η:Env)(a:α):ret η (some a)=.ok (a,η):=rfl
theorem uf (o:Option W)(η:Env):rd (o::η) 0=o:=rfl
theorem rB (o:Option W)(η:Env)(i:Nat):rd (o::η) (i+1)=rd η i:=rfl
theorem tY (o w:Option W)(η:Env):wr (o::η) 0 w=w::η:=rfl
theorem sd (o w:Option W)(η:Env)(i:Nat):wr (o::η) (i+1) w=o::wr η i w:=rfl
theorem l8 (t:T):look (.s,t)=some (.s,t):=rfl
theorem mx (m:Md)(i:Int):(look (.d,.int i))=some (.d,.int i):=rfl
theorem kZ (m:Md)(b:Bool):(look (.d,.bl b))=some (.d,.bl b):=rfl
theorem lC (x:Str):(look (.d,.str x))=some (.d,.str x):=rfl
theorem lM:(look (.d,.non))=some (.d,.non):=rfl
theorem uS (m:Md)(t:T):toS (some (m,t))=some (.s,t):=rfl
theorem p5:toS none=none:=rfl
theorem ir (η:Env):share [] η=η:=rfl
theorem hI (i:Nat)(is:List Nat)(η:Env):share (i::is) η=share is (wr η i (toS (rd η i))):=rfl
theorem jS:cQ []=[]:=rfl
theorem jh (o:Option W)(η:Env):cQ (o::η)=none::cQ η:=rfl
theorem qh (vs ls:List Nat)(η:Env):bK vs ls η=cu ls η (eU vs η (cQ η)):=rfl
theorem lZ (η0 η:Env):eU [] η0 η=η:=rfl
theorem kz (i:Nat)(is:List Nat)(η0 η:Env):eU (i::is) η0 η=eU is η0 (wr η i (toS (rd η0 i))):=rfl
theorem i5 (η0 η:Env):cu [] η0 η=η:=rfl
theorem iw (i:Nat)(is:List Nat)(η0 η:Env):cu (i::is) η0 η=cu is η0 (wr η i (lfO (rd η0 i))):=rfl
theorem rX (m:Md)(i:Int):lfO (some (m,.int i))=some (.d,.int i):=rfl
theorem rK (m:Md)(b:Bool):lfO (some (m,.bl b))=some (.d,.bl b):=rfl
theorem sY (m:Md)(x:Str):lfO (some (m,.str x))=some (.d,.str x):=rfl
theorem rG (m:Md):lfO (some (m,.non))=some (.d,.non):=rfl
theorem hE (vs:List Nat)(η:Env):after .d vs η=η:=rfl
theorem iH (vs:List Nat)(η:Env):after .s vs η=share vs η:=rfl
theorem jF (m:Md)(vs:List Nat)(η:Env):after (.o m) vs η=share vs η:=rfl
theorem qu (m:Md)(i:Int):lf m (.int i)=.d:=rfl
theorem ro (m:Md)(b:Bool):lf m (.bl b)=.d:=rfl
theorem pY (m:Md)(x:Str):lf m (.str x)=.d:=rfl
theorem qI (m:Md):lf m .non=.d:=rfl
theorem pZ (m:Md)(ts:List T):lf m (.lst ts)=m:=rfl
theorem rA (m:Md)(ts:List T):lf m (.tup ts)=m:=rfl
theorem pS (t:T):lf .d t=.d:=by unfold lf; split<;>rfl
theorem qz (m:Md):Md.s.le m=true:=by cases m<;>rfl
theorem mF:Md.d.le .d=true:=rfl
theorem kB (m:Md):(Md.o m).le .d=true:=rfl
theorem lb (m n:Md):(Md.o m).le (.o n)=m.le n:=rfl
theorem ql (h:Bool)(m n:Md)(i j:Int):oSem .add h [(m,.int i),(n,.int j)]=some (.d,.int (i+j)):=rfl
theorem j1 (h:Bool)(m n:Md)(ts us:List T):oSem .add h [(m,.lst ts),(n,.lst us)]=if aZ (ts.length+us.length) then newL h (m.kid.meet n.kid) (ts++us) else none:=rfl
theorem jA (h:Bool)(m n:Md)(x y:Str):oSem .add h [(m,.str x),(n,.str y)]=if aZ (x.cps.size+y.cps.size) then some (.d,.str (x++y)) else none:=rfl
theorem j9 (h:Bool)(m n:Md)(ts us:List T):oSem .add h [(m,.tup ts),(n,.tup us)]=if aZ (ts.length+us.length)&&!ts.isEmpty then some (.s,.tup (ts++us)) else none:=rfl
theorem uN (h:Bool)(m n:Md)(i j:Int):oSem .sub h [(m,.int i),(n,.int j)]=some (.d,.int (i-j)):=rfl
theorem jr (h:Bool)(m n:Md)(i j:Int):oSem .mul h [(m,.int i),(n,.int j)]=if (decide (i.natAbs < 18446744073709551616)) || (decide (j.natAbs < 18446744073709551616)) then some (.d,.int (i * j)) else none:=rfl
theorem pR (h:Bool)(m n:Md)(i j:Int):oSem .fdiv h [(m,.int i),(n,.int j)]=if decide (0 < j)&&decide (j < 1073741824) then some (.d,.int (i / j)) else none:=rfl
theorem nK (h:Bool)(m n:Md)(i j:Int):oSem .mod h [(m,.int i),(n,.int j)]=if decide (0 < j) then some (.d,.int (i % j)) else none:=rfl
theorem rE (h:Bool)(m n:Md)(i j:Int):oSem .pow h [(m,.int i),(n,.int j)]=if decide (0<=j)&&decide (j<=1000000)&&decide (i.natAbs < 18446744073709551616) then some (.d,.int (i ^ j.toNat)) else none:=rfl
theorem pD (h:Bool)(m n:Md)(i j:Int):oSem .eq h [(m,.int i),(n,.int j)]=some (.d,.bl (i==j)):=rfl
theorem qw (h:Bool)(m n:Md)(x y:Str):oSem .eq h [(m,.str x),(n,.str y)]=some (.d,.bl (x==y)):=rfl
theorem qH (h:Bool)(m n:Md)(a b:Bool):oSem .eq h [(m,.bl a),(n,.bl b)]=some (.d,.bl (a==b)):=rfl
theorem qD (h:Bool)(m n:Md)(i j:Int):oSem .ne h [(m,.int i),(n,.int j)]=some (.d,.bl (!(i==j))):=rfl
theorem oo (h:Bool)(m n:Md)(x y:Str):oSem .ne h [(m,.str x),(n,.str y)]=some (.d,.bl (!(x==y))):=rfl
theorem qE (h:Bool)(m n:Md)(a b:Bool):oSem .ne h [(m,.bl a),(n,.bl b)]=some (.d,.bl (!(a==b))):=rfl
theorem vJ (h:Bool)(m n:Md)(i j:Int):oSem .lt h [(m,.int i),(n,.int j)]=some (.d,.bl (decide (i < j))):=rfl
theorem vI (h:Bool)(m n:Md)(i j:Int):oSem .le h [(m,.int i),(n,.int j)]=some (.d,.bl (decide (i<=j))):=rfl
theorem vx (h:Bool)(m n:Md)(i j:Int):oSem .gt h [(m,.int i),(n,.int j)]=some (.d,.bl (decide (j < i))):=rfl
theorem ve (h:Bool)(m n:Md)(i j:Int):oSem .ge h [(m,.int i),(n,.int j)]=some (.d,.bl (decide (j<=i))):=rfl
theorem eu (h:Bool)(m n:Md)(ts:List T)(i:Int):oSem .ix h [(m,.lst ts),(n,.int i)]=(atI ts i).map fun t=>(m.kid,t):=rfl
theorem sW (h:Bool)(m n:Md)(ts:List T)(i:Int):oSem .ix h [(m,.tup ts),(n,.int i)]=(atI ts i).map fun t=>(m.kid,t):=rfl
theorem o4 (h:Bool)(m:Md)(ts:List T):oSem .len h [(m,.lst ts)]=some (.d,.int ts.length):=rfl
theorem pM (h:Bool)(m:Md)(ts:List T):oSem .len h [(m,.tup ts)]=some (.d,.int ts.length):=rfl
theorem qo (h:Bool)(m:Md)(ns:List Int):oSem .len h [(m,.scr ns)]=some (.d,.int ns.length):=rfl
theorem sv (h:Bool)(m n:Md)(ns:List Int)(i:Int):oSem .ix h [(m,.scr ns),(n,.int i)]=(atI ns i).map fun n=>(.d,.int n):=rfl
theorem rN (h:Bool)(m n:Md)(ns:List Int)(i:Int):oSem .sl2 h [(m,.scr ns),(n,.int i)]=some (.d,.lst ((cut ns none (some i)).map T.int)):=rfl
theorem qF (m:Md)(ns:List Int):lf m (.scr ns)=.d:=rfl
theorem sy (m:Md)(ns:List Int):lfO (some (m,.scr ns))=some (.d,.scr ns):=rfl
theorem mN (ns:List Int):look (.d,.scr ns)=some (.d,.scr ns):=rfl
theorem oF (h:Bool)(m:Md)(x:Str):oSem .len h [(m,.str x)]=some (.d,.int x.cps.size):=rfl
theorem uZ (cs:List Nat)(h:Bool)(m:Md)(c:Nat)(fs:List Str)(vs:List T):oSem (.isX cs) h [(m,.ins c fs vs)]=some (.d,.bl (cs.contains c)):=rfl
theorem n4 (cs:List Nat)(h:Bool)(m:Md):oSem (.isX cs) h [(m,.non)]=some (.d,.bl false):=rfl
theorem fx (fld g:Str)(c:Nat)(h:Bool)(m:Md)(ts:List T):oSem (.att fld) h [(m,.ins c [g] [.tup ts])]=if (g==fld)=true then some (.s,.tup ts) else none:=rfl
theorem qd (fld g:Str)(c:Nat)(h:Bool)(m:Md)(x:Str):oSem (.att fld) h [(m,.ins c [g] [.str x])]=if (g==fld)=true then some (.d,.str x) else none:=rfl
theorem oE (tab:List (Str×Int))(d:Option Int)(h:Bool)(m:Md)(x:Str):oSem (.getK tab d) h [(m,.str x)]=some (.d,rV (tab.lookup x) d):=rfl
theorem vR (c:Nat)(fld:Str)(fk:Nat)(h:Bool)(m:Md)(t:T):oSem (.mk c fld fk) h [(m,t)]=if fldOk fk m t=true then some (.s,.ins c [fld] [t]) else none:=rfl
theorem ju (fld g:Str)(c:Nat)(h:Bool)(m:Md)(n:Int):oSem (.att fld) h [(m,.ins c [g] [.int n])]=if (g==fld)=true then some (.d,.int n) else none:=rfl
theorem uc (c:Nat)(fs:List Str)(vs:List T):T.isG (.ins c fs vs)=false:=rfl
theorem r8 (c:Nat)(fs:List Str)(vs:List T):T.isN (.ins c fs vs)=false:=rfl
theorem s8:T.isH .non=false:=rfl
theorem vD (b:Bool):T.isH (.bl b)=false:=rfl
theorem sR (i:Int):T.isH (.int i)=false:=rfl
theorem ur (x:Str):T.isH (.str x)=false:=rfl
theorem rL (ts:List T):T.isH (.tup ts)=false:=rfl
theorem rJ (ts:List T):T.isH (.lst ts)=false:=rfl
theorem tJ (ns:List Int):T.isH (.scr ns)=false:=rfl
theorem rP:T.isG .non=false:=rfl
theorem vS (b:Bool):T.isG (.bl b)=false:=rfl
theorem tF (i:Int):T.isG (.int i)=false:=rfl
theorem uD (x:Str):T.isG (.str x)=false:=rfl
theorem uF (ts:List T):T.isG (.tup ts)=false:=rfl
theorem rF (ts:List T):T.isG (.lst ts)=false:=rfl
theorem rU (ns:List Int):T.isG (.scr ns)=false:=rfl
theorem tP:T.isN .non=true:=rfl
theorem vC (b:Bool):T.isN (.bl b)=false:=rfl
theorem rC (i:Int):T.isN (.int i)=false:=rfl
theorem sX (x:Str):T.isN (.str x)=false:=rfl
theorem rO (ts:List T):T.isN (.tup ts)=false:=rfl
theorem sH (ts:List T):T.isN (.lst ts)=false:=rfl
theorem mn (h:Bool)(m:Md)(x:Str):oSem .lower h [(m,.str x)]=if x.cps.toList.all (fun c=>decide (c < 128)) then some (.d,.str ⟨x.cps.map rW⟩) else none:=rfl
theorem t6 (h:Bool)(m n:Md)(x y:Str):oSem .inS h [(m,.str x),(n,.str y)]=some (.d,.bl (!(a0M y x 0 y.length 1).isEmpty)):=rfl
theorem nW (h:Bool)(m n:Md)(x y:Str):oSem .ninS h [(m,.str x),(n,.str y)]=some (.d,.bl (!(!(a0M y x 0 y.length 1).isEmpty))):=rfl
theorem sZ (h:Bool)(m n:Md)(a:T)(ts:List T):oSem .inX h [(m,a),(n,.tup ts)]=if ts.all isStr&&f9 a then some (.d,.bl (ts.any fun t=>eqT t a)) else none:=rfl
theorem oZ (h:Bool)(m n:Md)(a:T)(ts:List T):oSem .ninX h [(m,a),(n,.tup ts)]=if ts.all isStr&&f9 a then some (.d,.bl (!ts.any fun t=>eqT t a)) else none:=rfl
theorem tD (h:Bool)(m n:Md)(x y:Str):oSem .leS h [(m,.str x),(n,.str y)]=some (.d,.bl (!decide (y.cps.toList < x.cps.toList))):=rfl
theorem qt (h:Bool)(m n:Md)(ts us:List T):oSem .catT h [(m,.tup ts),(n,.tup us)]=if aZ (ts.length+us.length) then some (.s,.tup (ts++us)) else none:=rfl
theorem hX (h:Bool)(m:Md)(ts:List T):oSem .lenSet h [(m,.tup ts)]=(strsOf ts).bind fun ss=>if decide (ss.length < 1000) then some (.d,.int (nI ss).length) else none:=rfl
theorem i4 (h:Bool)(m n:Md)(ts:List T)(x:Str):oSem .countS h [(m,.lst ts),(n,.str x)]=(strsOf ts).bind fun ss=>some (.d,.int (ss.count x)):=rfl
theorem qX (h:Bool):oSem .dnew h []=some (.d,.dct [] []):=rfl
theorem gW (h:Bool)(m:Md)(ts:List T):oSem .sortedS h [(m,.lst ts)]=(strsOf ts).bind fun ss=>if decide (ss.length < 64) then some (.d,.lst ((ey ss).map T.str)) else none:=rfl
theorem gf (h:Bool)(m:Md)(ks:List (Int ⊕ Str))(vs:List T):oSem .sortedD h [(m,.dct ks vs)]=(jj ks).bind fun ss=>if decide (ss.length < 64) then some (.d,.lst ((ey ss).map T.str)) else none:=rfl
theorem qK (m:Md)(ts:List T):aQ .enmT [(m,.tup ts)]=some (fR .s 0 ts):=rfl
theorem ue (m:Md)(x:Str):aQ .chr [(m,.str x)]=some (x.cps.toList.map fun c=>[(.d,.str ⟨#[c]⟩)]):=rfl
theorem tM (h:Bool)(m:Md)(i:Int):oSem .abs h [(m,.int i)]=some (.d,.int i.natAbs):=rfl
theorem oR (h:Bool)(m n:Md)(z:Str)(ts:List T):oSem .join h [(m,.str z),(n,.lst ts)]=(strsOf ts).bind fun ss=>if sOk (Str.join z ss)&&decide ((ss.map fun s=>s.cps.size+z.cps.size).sum<=LIM) then some (.d,.str (Str.join z ss)) else none:=rfl
theorem fF (C:Call)(vs:List Nat)(i f:Nat)(es:List E)(η:Env):evS C (.asgC vs i f es) η=Fl.of η (evL C es (share vs η)) (kC C f (jN i)):=rfl
theorem fj (C:Call)(vs:List Nat)(f:Nat)(es:List E)(η:Env):evS C (.expC vs f es) η=Fl.of η (evL C es (share vs η)) (kC C f i6):=rfl
theorem eR (C:Call)(vs:List Nat)(f:Nat)(es:List E)(η:Env):evS C (.retC vs f es) η=Fl.of η (evL C es (share vs η)) (kC C f .rt):=rfl
theorem eK (C:Call)(c:Nat)(fld:Str)(fk:Nat)(x:X)(e:E)(η:Env):evS C (.raise c fld fk x e) η=Fl.of η (evX C x e η) (fD c fld fk):=rfl
theorem eX (C:Call)(cs:List Nat)(body:List S)(i:Nat)(h:List S)(η:Env):evS C (.tryC cs body i h) η=Fl.caught cs i (evSs C h) (evSs C body η):=rfl
theorem vN (C:Call)(f:Nat)(k:W->Env->Fl)(ws:List W)(η:Env):kC C f k (ws,η)=mC k η (C f ws):=rfl
theorem pT (k:W->Env->Fl)(η:Env)(w:W):mC k η (.ok (w,[]))=k w η:=rfl
theorem p9 (k:W->Env->Fl)(η:Env)(t:T):mC k η (.ex t)=.ex t η:=rfl
theorem k4 (i:Nat)(w:W)(η:Env):jN i w η=.nx (put η i w):=rfl
theorem kH (w:W)(η:Env):i6 w η=.nx η:=rfl
theorem hV (c:Nat)(fld:Str)(m:Md)(n:Int)(η:Env):fD c fld 0 ((m,.int n),η)=if decide (n.natAbs.log2 < 1920)=true then .ex (.ins c [fld] [.int n]) η else .no:=rfl
theorem kh (cs:List Nat)(i:Nat)(h:Env->Fl)(c:Nat)(fs:List Str)(vs:List T)(η:Env):Fl.caught cs i h (.ex (.ins c fs vs) η)=if cs.contains c=true then Fl.drop i (h (put η i (.s,.ins c fs vs))) else .no:=rfl
theorem gU (cs:List Nat)(i:Nat)(h:Env->Fl)(η:Env):Fl.caught cs i h (.nx η)=.nx η:=rfl
theorem gR (cs:List Nat)(i:Nat)(h:Env->Fl)(w:W)(η:Env):Fl.caught cs i h (.rt w η)=.rt w η:=rfl
theorem rg (i:Nat)(η:Env):Fl.drop i (.nx η)=.nx (del η i):=rfl
theorem mS (i:Nat)(w:W)(η:Env):Fl.drop i (.rt w η)=.rt w (del η i):=rfl
theorem kr (h:Bool)(m n:Md)(i j:Int):oSem .fdivN h [(m,.int i),(n,.int j)]=if (j != 0)&&decide (j.natAbs < 18446744073709551616) then some (.d,.int (i.fdiv j)) else none:=rfl
theorem qG (h:Bool)(m n:Md)(i j:Int):oSem .modN h [(m,.int i),(n,.int j)]=if j != 0 then some (.d,.int (i.fmod j)) else none:=rfl
theorem oW (h:Bool)(m:Md)(ts:List T):oSem .tuple h [(m,.lst ts)]=some (m.kid.up,.tup ts):=rfl
theorem qO (m:Md)(ts:List T):newL true m ts=if leaves ts then some (.d,.lst ts) else none:=rfl
theorem qZ (m:Md)(ts:List T):newL false m ts=some (m.up,.lst ts):=rfl
theorem oj (m:Md)(ts:List T):aQ .seq [(m,.lst ts)]=some (ts.map fun t=>[(.s,t)]):=rfl
theorem qr (m:Md)(ts:List T):aQ .seq [(m,.tup ts)]=some (ts.map fun t=>[(.s,t)]):=rfl
theorem oJ (m n o:Md)(i j c:Int):aQ .rng [(m,.int i),(n,.int j),(o,.int c)]=if decide (i.natAbs < 4611686018427387904)&&decide (j.natAbs < 4611686018427387904)&&decide (c=-1)&&aZ (i-j).toNat then some ((a0D (i-j).toNat).map fun (k:Nat)=>[(.d,.int (i-k))]) else none:=rfl
theorem il (m:Md)(n:Int):aQ .rng [(m,.int n)]=if decide (n.natAbs < 4611686018427387904)&&aZ n.toNat then some ((a0D n.toNat).map fun (k:Nat)=>[(.d,.int k)]) else none:=rfl
theorem ka (η:Env):aI [] [] η=some η:=rfl
theorem j3 (i:Nat)(is:List Nat)(w:W)(ws:List W)(η:Env):aI (i::is) (w::ws) η=aI is ws (put η i w):=rfl
theorem se {α β:Type}(f:α->β)(a:α):(some a).map f=some (f a):=rfl
theorem iP (b:Bool):aU (.bl b)=some b:=rfl
theorem jx (i:Int):aU (.int i)=some (i != 0):=rfl
theorem mK {α β:Type}(a:α)(f:α->Option β):(some a).bind f=f a:=rfl
theorem lQ:Md.s.kid=.s:=rfl
theorem lp:Md.d.kid=.d:=rfl
theorem mm (m:Md):(Md.o m).kid=m:=rfl
theorem ot:Md.s.up=.o .s:=rfl
theorem pe:Md.d.up=.d:=rfl
theorem pd (m:Md):(Md.o m).up=.o (.o m):=rfl
theorem jy (m:Md):Md.s.meet m=.s:=by cases m<;>rfl
theorem bM (m:Md):Md.d.meet m=m:=by cases m<;>rfl
theorem gp (m:Md):(Md.o m).meet .s=.s:=rfl
theorem gX (m:Md):(Md.o m).meet .d=.o m:=rfl
theorem gh (m n:Md):(Md.o m).meet (.o n)=.o (m.meet n):=rfl
theorem qp (n:Md)(ts:List T)(t:T):nQ (.d,.lst ts) (n,t)=if ts.length < LIM then some ((lf n t).up,.lst (ts++[t])) else none:=by show (if _ then some ((Md.d.meet _).up,_) else none)=_; rw [bM]
theorem oY (m n:Md)(ts:List T)(t:T):nQ (.o m,.lst ts) (n,t)=if ts.length < LIM then some ((m.meet (lf n t)).up,.lst (ts++[t])) else none:=rfl
theorem qy (n:Md)(ts us:List T):qe (.d,.lst ts) (n,.lst us)=if ts.length+us.length<=LIM then some (n.kid.up,.lst (ts++us)) else none:=by show (if _ then some ((Md.d.meet _).up,_) else none)=_; rw [bM]
theorem qJ (m n:Md)(ts us:List T):qe (.o m,.lst ts) (n,.lst us)=if ts.length+us.length<=LIM then some ((m.meet n.kid).up,.lst (ts++us)) else none:=rfl
theorem o7 (l n:Md)(ts:List T)(t:T)(j:Int):oU (.d,.lst ts) (l,.int j) (n,t)=(ixN ts.length j).map fun k=>((lf n t).up,.lst (ts.set k t)):=by show ((ixN ts.length j).map fun k=>((Md.d.meet _).up,_))=_; rw [bM]
theorem p8 (m l n:Md)(ts:List T)(t:T)(j:Int):oU (.o m,.lst ts) (l,.int j) (n,t)=(ixN ts.length j).map fun k=>((m.meet (lf n t)).up,.lst (ts.set k t)):=rfl
theorem p7 (m:Md)(ts:List T):bY (some (m,.lst ts))=.ok ():=rfl
theorem nP (m:Md)(ts:List T):uH (m,.tup ts)=some (ts.map fun t=>(m.kid,t)):=rfl
theorem sP (η η':Env):nxO η (some η')=.nx η':=rfl
theorem iM (η:Env):backs [] η=some []:=rfl
theorem jV (i:Nat)(is:List Nat)(η:Env):backs (i::is) η=(rd η i).bind fun w=>(backs is η).bind fun ws=>some (w::ws):=rfl
theorem pN (io:List Nat)(η:Env):Fl.out io (.nx η)=(ofO (backs io η)).bind (iV (.d,.non)):=rfl
theorem qi (io:List Nat)(w:W)(η:Env):Fl.out io (.rt w η)=(ofO (backs io η)).bind (iV w):=rfl
theorem x_run (C:Call)(f:Fn)(ws:List W)(h:ws.length=f.ps):runF C f ws=Fl.out f.io (evSs C f.body (ws.map some++a0b f.ns none)):=if_pos h
theorem at0 {α:Type}(a:α)(l:List α):atI (a::l) 0=some a:=by simp [atI,ixN]
theorem atN {α:Type}{xs:List α}{i:Int}{n:Nat}{a:α}(hi:i=n)(h:xs[n]?=some a):atI xs i=some a:=by
 subst hi
 have:=(a0n.mp h).1
 rw [atI,ixN,if_pos (by omega),if_pos (by omega)]
 exact h
theorem at1 {α:Type}(a b:α)(l:List α):atI (a::b::l) 1=some b:=atN (n:=1) rfl rfl
theorem at2 {α:Type}(a b c:α)(l:List α):atI (a::b::c::l) 2=some c:=atN (n:=2) rfl rfl
theorem at3 {α:Type}(a b c d:α)(l:List α):atI (a::b::c::d::l) 3=some d:=atN (n:=3) rfl rfl
theorem at4 {α:Type}(a b c d e:α)(l:List α):atI (a::b::c::d::e::l) 4=some e:=atN (n:=4) rfl rfl
theorem bx {α:Type}{tg:List Nat}{f:Env->Res (Option W×Env)}{η:Env}{g:α->List W}(w:α->W):∀ (ts:List α) (acc:List W),(∀ x∈ts,∃ η1 η2,aI tg (g x) η=some η1/\f η1=.ok (some (w x),η2)/\af tg η2=η) ->
  aH tg f (ts.map g) η acc=.ok (acc++ts.map w,η)
 | [],acc,_=>by rw [a1J,a1J,a0B]; rfl
 | x::ts,acc,h=>by
  obtain ⟨η1,η2,h1,h2,h3⟩:=h x a0e
  rw [a0u,a0u]
  show (ofO (aI tg (g x) η)).bind _=_
  rw [h1]
  show (f η1).bind _=_
  rw [h2]
  show aH tg f (ts.map g) (af tg η2) (acc++[w x])=_
  rw [h3,bx w ts _ fun y hy=>h y (a0f _ hy),a1g]
  rfl
theorem fH {α:Type}{tg:List Nat}{f:Env->Fl}{g:α->List W}(st:List α->Env):∀ (ts pre:List α),(∀ p x r,pre++ts=p++x::r->∃ η1,aI tg (g x) (st p)=some η1/\f η1=.nx (st (p++[x]))) ->
  eH tg f (ts.map g) (st pre)=.nx (st (pre++ts))
 | [],pre,_=>by rw [a0B]; rfl
 | x::ts,pre,h=>by
  obtain ⟨η1,h1,h2⟩:=h pre x ts rfl
  rw [a0u]
  show Fl.of _ (ofO (aI tg (g x) (st pre))) _=_
  rw [h1]
  show Fl.turn (f η1) _=_
  rw [h2]
  show eH tg f (ts.map g) (st (pre++[x]))=_
  rw [fH st ts (pre++[x]) fun p y r e=>h p y r (by rw [<- e,a1g]; rfl),a1g]
  rfl
theorem bW {α:Type}(m:Md)(g:α->T)(ts:List α):aM (ts.map fun x=>(m,g x))=ts.map g:=by
 induction ts with
 | nil=>rfl
 | cons x r ih=>rw [a0u,a0u,<- ih]; rfl
end M

namespace MR
open L2 L3 M
open PySem (Addr Str sizeLine)
noncomputable abbrev Fp:=Addr->Prop
noncomputable def ScrR (K:a0a)(H:Hp)(a:Addr)(ns:List Int):Prop:=(∃ o,H a=some (.frz o (.lst (ns.map V.int))))\/SqL K (fun _=>none) a (ns.map V.int)
theorem ScrR.sq {K:a0a}{H:Hp}{a:Addr}{ns:List Int}(h:ScrR K H a ns):SqL K H a (ns.map V.int):=by
 rcases h with ⟨o,h⟩ | ((h | ⟨o,h⟩) | h)
 ·exact .inl (.inr ⟨o,h⟩)
 ·cases h
 ·cases h
 ·exact .inr h
theorem ScrR.keep {K:a0a}{H H':Hp}{a:Addr}{ns:List Int}(s:∀ a o u,H a=some (.frz o u)->H' a=some (.frz o u))(h:ScrR K H a ns):ScrR K H' a ns:=h.imp (fun ⟨o,e⟩=>⟨o,s a o _ e⟩) id
noncomputable def LstR (K:a0a)(Z:Fp)(H:Hp)(G:Fp)(a:Addr)(xs:List V):Md->Prop
 | .s=>Z a/\H a=some (.lst xs)
 | _=>G a/\H a=some (.lst xs)
noncomputable def mkD (ks:List (Int ⊕ Str))(xs:List V):List (Key×V):=ks.zip xs
noncomputable def DctR (Z:Fp)(H:Hp)(G:Fp)(a:Addr)(o:HO):Md->Prop
 | .s=>Z a/\H a=some o
 | _=>G a/\H a=some o
noncomputable def dmd:Md->Md
 | .d=>.d
 | _=>.s
mutual
noncomputable def Rep (K:a0a)(Z:Fp)(H:Hp):Md->T->V->Fp->Prop
 | _,.non,v,_=>v=.non
 | _,.bl b,v,_=>v=.bl b
 | _,.int i,v,_=>v=.int i
 | _,.str x,v,_=>v=.str x/\sOk x=true
 | m,.tup ts,v,G=>∃ a xs,v=.ref a/\SqT K H a xs/\xs.length<=LIM/\RepL K Z H m.kid ts xs G
 | m,.lst ts,v,G=>∃ a xs,v=.ref a/\xs.length<=LIM/\LstR K Z H G a xs m/\RepL K Z H m.kid ts xs (fun b=>G b/\b≠a)
 | m,.dct ks vs,v,G=>∃ a xs,v=.ref a/\ks.length<=LIM/\DctR Z H G a (.dK (mkD ks xs)) m/\(ks.Nodup/\∀ k∈ks,kOk k=true)/\vs.length=ks.length/\RepL K Z H (dmd m) vs xs (fun _=>False)
 | m,.ins c fs vs,v,_=>m≠.d/\∃ a dx C xs,v=.ref a/\Z a/\Z dx/\H a=some (XO a C (some dx) false)/\H dx=some (.xd (fs.zip xs))/\fs.length=vs.length/\XNm K c C/\RepL K Z H .s vs xs (fun _=>False)
 | _,.gone,_,_=>True
 | _,.scr ns,v,_=>∃ a,v=.ref a/\ns.length<=LIM/\ScrR K H a ns
noncomputable def RepL (K:a0a)(Z:Fp)(H:Hp):Md->List T->List V->Fp->Prop
 | _,[],xs,_=>xs=[]
 | m,t::ts,xs,G=>∃ x r G1 G2,xs=x::r/\(∀ a,G1 a->G a)/\(∀ a,G2 a->G a)/\(∀ a,G1 a->¬ G2 a)/\Rep K Z H m t x G1/\RepL K Z H m ts r G2
end
section
variable {K:a0a}{Z Z':Fp}{H H':Hp}{m:Md}{t:T}{ts:List T}{v:V}{xs:List V}{G G':Fp}
theorem LstR.mono {a:Addr}(w:∀ a,G a->G' a)(h:LstR K Z H G a xs m):LstR K Z H G' a xs m:=by
 cases m with
 | s=>exact h
 | d=>exact ⟨w _ h.1,h.2⟩
 | o m=>exact ⟨w _ h.1,h.2⟩
theorem DctR.mono {a:Addr}{o:HO}(w:∀ a,G a->G' a)(h:DctR Z H G a o m):DctR Z H G' a o m:=by
 cases m with
 | s=>exact h
 | d=>exact ⟨w _ h.1,h.2⟩
 | o m=>exact ⟨w _ h.1,h.2⟩
mutual
theorem Rep.mono:∀ {m:Md} {t:T} {v:V} {G G':Fp},(∀ a,G a->G' a)->Rep K Z H m t v G->Rep K Z H m t v G'
 | _,.non,_,_,_,_,h=>h
 | _,.bl _,_,_,_,_,h=>h
 | _,.int _,_,_,_,_,h=>h
 | _,.str _,_,_,_,_,h=>h
 | m,.tup ts,v,G,G',w,⟨a,xs,e,q,l,r⟩=>⟨a,xs,e,q,l,RepL.mono w r⟩
 | m,.lst ts,v,G,G',w,⟨a,xs,e,l,q,r⟩=>⟨a,xs,e,l,q.mono w,RepL.mono (fun b hb=>⟨w b hb.1,hb.2⟩) r⟩
 | m,.dct ks vs,v,G,G',w,⟨a,xs,e,l,q,n,hl,r⟩=>⟨a,xs,e,l,q.mono w,n,hl,r⟩
 | _,.ins _ _ _,_,_,_,_,h=>h
 | _,.gone,_,_,_,_,h=>h
 | _,.scr _,_,_,_,_,h=>h
theorem RepL.mono:∀ {m:Md} {ts:List T} {xs:List V} {G G':Fp},(∀ a,G a->G' a)->RepL K Z H m ts xs G->RepL K Z H m ts xs G'
 | _,[],_,_,_,_,h=>h
 | m,t::ts,xs,G,G',w,⟨x,r,G1,G2,e,h1,h2,hd,p,q⟩=>⟨x,r,G1,G2,e,fun a ha=>w a (h1 a ha),fun a ha=>w a (h2 a ha),hd,p,q⟩
end
noncomputable def Stay (Z:Fp)(H H':Hp):Prop:=(∀ a o,Z a->H a=some o->H' a=some o)/\(∀ a xs,Rd H a (.tup xs)->Rd H' a (.tup xs))/\∀ a o u,H a=some (.frz o u)->H' a=some (.frz o u)
theorem Stay.sqt (s:Stay Z H H'){a:Addr}(h:SqT K H a xs):SqT K H' a xs:=by
 rcases h with h | h
 ·exact .inl (s.2.1 a xs h)
 ·exact .inr h
theorem LstR.keep {a:Addr}(s:Stay Z H H')(z:∀ a,Z a->Z' a)(g:∀ a o,G a->H a=some o->H' a=some o)(h:LstR K Z H G a xs m):LstR K Z' H' G a xs m:=by
 cases m with
 | s=>exact ⟨z _ h.1,s.1 _ _ h.1 h.2⟩
 | d=>exact ⟨h.1,g _ _ h.1 h.2⟩
 | o m=>exact ⟨h.1,g _ _ h.1 h.2⟩
theorem DctR.keep {a:Addr}{o:HO}(s:Stay Z H H')(z:∀ a,Z a->Z' a)(g:∀ a o,G a->H a=some o->H' a=some o)(h:DctR Z H G a o m):DctR Z' H' G a o m:=by
 cases m with
 | s=>exact ⟨z _ h.1,s.1 _ _ h.1 h.2⟩
 | d=>exact ⟨h.1,g _ _ h.1 h.2⟩
 | o m=>exact ⟨h.1,g _ _ h.1 h.2⟩
mutual
theorem Rep.keep (s:Stay Z H H')(z:∀ a,Z a->Z' a):∀ {m:Md} {t:T} {v:V} {G:Fp},(∀ a o,G a->H a=some o->H' a=some o)->Rep K Z H m t v G->Rep K Z' H' m t v G
 | _,.non,_,_,_,h=>h
 | _,.bl _,_,_,_,h=>h
 | _,.int _,_,_,_,h=>h
 | _,.str _,_,_,_,h=>h
 | m,.tup ts,v,G,g,⟨a,xs,e,q,l,r⟩=>⟨a,xs,e,s.sqt q,l,RepL.keep s z g r⟩
 | m,.lst ts,v,G,g,⟨a,xs,e,l,q,r⟩=>⟨a,xs,e,l,q.keep s z g,RepL.keep s z (fun b o hb=>g b o hb.1) r⟩
 | m,.dct ks vs,v,G,g,⟨a,xs,e,l,q,n,hl,r⟩=>⟨a,xs,e,l,q.keep s z g,n,hl,RepL.keep s z (fun _ _ hb=>hb.elim) r⟩
 | _,.ins _ _ _,_,_,_,⟨ne,a,dx,C,xs,e,z1,z2,h1,h2,l,n,r⟩=>⟨ne,a,dx,C,xs,e,z _ z1,z _ z2,s.1 _ _ z1 h1,s.1 _ _ z2 h2,l,n,RepL.keep s z (fun _ _ hb=>hb.elim) r⟩
 | _,.gone,_,_,_,h=>h
 | _,.scr _,_,_,_,⟨a,e,l,q⟩=>⟨a,e,l,q.keep s.2.2⟩
theorem RepL.keep (s:Stay Z H H')(z:∀ a,Z a->Z' a):∀ {m:Md} {ts:List T} {xs:List V} {G:Fp},(∀ a o,G a->H a=some o->H' a=some o)->RepL K Z H m ts xs G->RepL K Z' H' m ts xs G
 | _,[],_,_,_,h=>h
 | m,t::ts,xs,G,g,⟨x,r,G1,G2,e,h1,h2,hd,p,q⟩=>⟨x,r,G1,G2,e,h1,h2,hd,Rep.keep s z (fun a o ha=>g a o (h1 a ha)) p,RepL.keep s z (fun a o ha=>g a o (h2 a ha)) q⟩
end
theorem c9 (Z:Fp)(H:Hp):Stay Z H H:=⟨fun _ _ _ h=>h,fun _ _ h=>h,fun _ _ _ h=>h⟩
theorem Rep.zmono (z:∀ a,Z a->Z' a)(h:Rep K Z H m t v G):Rep K Z' H m t v G:=h.keep (c9 Z H) z fun _ _ _ q=>q
theorem RepL.zmono (z:∀ a,Z a->Z' a)(h:RepL K Z H m ts xs G):RepL K Z' H m ts xs G:=h.keep (c9 Z H) z fun _ _ _ q=>q
theorem RepL.length:∀ {ts:List T} {xs:List V} {G:Fp},RepL K Z H m ts xs G->xs.length=ts.length
 | [],_,_,h=>by rw [show _=[] from h]; rfl
 | _::_,_,_,⟨x,r,G1,G2,e,_,_,_,_,q⟩=>by rw [e,a0o,a0o,RepL.length q]
theorem RepL.get:∀ {ts:List T} {xs:List V} {G:Fp} {i:Nat} {t:T},RepL K Z H m ts xs G->ts[i]?=some t->∃ x,xs[i]?=some x/\Rep K Z H m t x G
 | [],_,_,_,_,_,e=>by simp at e
 | _::_,_,_,0,_,⟨x,r,G1,G2,e,h1,_,_,p,_⟩,e2=>by
  rw [a1b] at e2; cases e2
  exact ⟨x,by rw [e]; rfl,p.mono h1⟩
 | _::_,_,_,i+1,_,⟨x,r,G1,G2,e,_,h2,_,_,q⟩,e2=>by
  rw [a0p] at e2
  obtain ⟨y,hy,p⟩:=RepL.get q e2
  exact ⟨y,by rw [e,a0p]; exact hy,p.mono h2⟩
theorem RepL.append:∀ {ts us:List T} {xs ys:List V} {G1 G2 G:Fp},(∀ a,G1 a->G a)->(∀ a,G2 a->G a)->(∀ a,G1 a->¬ G2 a)->RepL K Z H m ts xs G1->RepL K Z H m us ys G2->RepL K Z H m (ts++us) (xs++ys) G
 | [],us,xs,ys,G1,G2,G,w1,w2,d,h,k=>by rw [show xs=[] from h]; exact k.mono w2
 | t::ts,us,xs,ys,G1,G2,G,w1,w2,d,⟨x,r,A,B,e,h1,h2,hd,p,q⟩,k=>by
  rw [e]
  refine ⟨x,r++ys,A,fun a=>B a\/G2 a,rfl,fun a ha=>w1 a (h1 a ha),fun a ha=>ha.elim (fun z=>w1 a (h2 a z)) (w2 a),fun a ha hb=>hb.elim (hd a ha) (d a (h1 a ha)),p,?_⟩
  exact RepL.append (fun a z=>.inl z) (fun a z=>.inr z) (fun a ha=>d a (h2 a ha)) q k
theorem RepL.one {x:V}(p:Rep K Z H m t x G):RepL K Z H m [t] [x] G:=⟨x,[],G,fun _=>False,rfl,fun _ h=>h,fun _ h=>h.elim,fun _ _ h=>h,p,rfl⟩
theorem RepL.take:∀ {ts:List T} {xs:List V} {G:Fp} (n:Nat),RepL K Z H m ts xs G->RepL K Z H m (ts.take n) (xs.take n) G
 | [],_,_,n,h=>by rw [show _=[] from h,a2A,a2A]; rfl
 | _::_,_,_,0,h=>rfl
 | _::_,_,_,n+1,⟨x,r,A,B,e,h1,h2,hd,p,q⟩=>by rw [e]; exact ⟨x,r.take n,A,B,rfl,h1,h2,hd,p,RepL.take n q⟩
theorem RepL.drop:∀ {ts:List T} {xs:List V} {G:Fp} (n:Nat),RepL K Z H m ts xs G->RepL K Z H m (ts.drop n) (xs.drop n) G
 | [],_,_,n,h=>by rw [show _=[] from h,a2B,a2B]; rfl
 | _::_,_,_,0,h=>h
 | _::_,_,_,n+1,⟨x,r,A,B,e,h1,h2,hd,p,q⟩=>by rw [e]; exact (RepL.drop n q).mono h2
theorem Rep.leaf {m':Md}(hs:∀ a o u,H a=some (.frz o u)->H' a=some (.frz o u))(hl:t.leaf=true)(h:Rep K Z H m t v G):Rep K Z' H' m' t v G':=by
 cases t with
 | non=>exact h
 | bl _=>exact h
 | int _=>exact h
 | str _=>exact h
 | scr _=>obtain ⟨a,e,l,q⟩:=h; exact ⟨a,e,l,q.keep hs⟩
 | _=>cases hl
theorem RepL.leaves {m':Md}(hs:∀ a o u,H a=some (.frz o u)->H' a=some (.frz o u)):∀ {ts:List T} {xs:List V} {G G':Fp},leaves ts=true->RepL K Z H m ts xs G->RepL K Z' H' m' ts xs G'
 | [],_,_,_,_,h=>h
 | t::ts,_,_,G',hl,⟨x,r,A,B,e,h1,h2,hd,p,q⟩=>by
  have h':(t.leaf&&ts.all T.leaf)=true:=hl
  rw [a0d] at h'
  exact ⟨x,r,fun _=>False,fun _=>False,e,fun _ z=>z.elim,fun _ z=>z.elim,fun _ z=>z.elim,p.leaf hs h'.1,RepL.leaves hs h'.2 q⟩
noncomputable def no:Fp:=fun _=>False
mutual
theorem Rep.sh:∀ {m:Md} {t:T} {v:V} {G:Fp},Rep K Z H m t v G->Rep K (fun a=>Z a\/G a) H .s t v no
 | _,.non,_,_,h=>h
 | _,.bl _,_,_,h=>h
 | _,.int _,_,_,h=>h
 | _,.str _,_,_,h=>h
 | m,.tup ts,v,G,⟨a,xs,e,q,l,r⟩=>⟨a,xs,e,q,l,RepL.sh r⟩
 | m,.lst ts,v,G,⟨a,xs,e,l,q,r⟩=>⟨a,xs,e,l,by
   cases m with
   | s=>exact ⟨.inl q.1,q.2⟩
   | d=>exact ⟨.inr q.1,q.2⟩
   | o m=>exact ⟨.inr q.1,q.2⟩,(RepL.zmono (fun b hb=>hb.elim .inl fun z=>.inr z.1) (RepL.sh r)).mono fun _ z=>z.elim⟩
 | m,.dct ks vs,v,G,⟨a,xs,e,l,q,n,hl,r⟩=>⟨a,xs,e,l,by
   cases m with
   | s=>exact ⟨.inl q.1,q.2⟩
   | d=>exact ⟨.inr q.1,q.2⟩
   | o m=>exact ⟨.inr q.1,q.2⟩,n,hl,RepL.zmono (fun b hb=>hb.elim .inl fun z=>z.elim) (RepL.sh r)⟩
 | _,.ins _ _ _,_,_,⟨ne,a,dx,C,xs,e,z1,z2,h1,h2,l,n,r⟩=>⟨(fun z=>by cases z),a,dx,C,xs,e,.inl z1,.inl z2,h1,h2,l,n,RepL.zmono (fun b hb=>hb.elim .inl fun z=>z.elim) (RepL.sh r)⟩
 | _,.gone,_,_,h=>h
 | _,.scr _,_,_,h=>h
theorem RepL.sh:∀ {m:Md} {ts:List T} {xs:List V} {G:Fp},RepL K Z H m ts xs G->RepL K (fun a=>Z a\/G a) H .s ts xs no
 | _,[],_,_,h=>h
 | m,t::ts,xs,G,⟨x,r,G1,G2,e,h1,h2,hd,p,q⟩=>⟨x,r,no,no,e,fun _ z=>z,fun _ z=>z,fun _ z _=>z,Rep.zmono (fun b hb=>hb.imp id (h1 b)) (Rep.sh p),RepL.zmono (fun b hb=>hb.imp id (h2 b)) (RepL.sh q)⟩
end
theorem vd:∀ a:Md,a.le .d=true
 | .s=>rfl | .d=>rfl | .o _=>rfl
theorem dz:∀ a:Md,a.le a=true
 | .s=>rfl | .d=>rfl | .o a=>dz a
theorem eI:∀ {a b c:Md},a.le b=true->b.le c=true->a.le c=true
 | .s,_,.s,_,_=>rfl
 | .s,_,.d,_,_=>rfl
 | .s,_,.o _,_,_=>rfl
 | .o a,.o b,.o c,h,k=>eI (a:=a) (b:=b) (c:=c) h k
 | .o a,.o b,.d,h,k=>rfl
 | .o a,.d,.d,h,k=>rfl
 | .d,.d,.d,_,_=>rfl
 | .d,.s,_,h,_=>by cases h
 | .d,.o _,_,h,_=>by cases h
 | .o _,.s,_,h,_=>by cases h
 | .o _,.o _,.s,_,k=>by cases k
 | .o _,.d,.s,_,k=>by cases k
 | .o _,.d,.o _,_,k=>by cases k
 | .d,.d,.s,_,k=>by cases k
 | .d,.d,.o _,_,k=>by cases k
theorem bO:∀ a b:Md,(a.meet b).le a=true/\(a.meet b).le b=true
 | .s,.s=>⟨rfl,rfl⟩
 | .s,.d=>⟨rfl,rfl⟩
 | .s,.o _=>⟨rfl,rfl⟩
 | .d,.s=>⟨rfl,rfl⟩
 | .d,.d=>⟨rfl,rfl⟩
 | .d,.o b=>⟨rfl,dz b⟩
 | .o _,.s=>⟨rfl,rfl⟩
 | .o a,.d=>⟨dz a,rfl⟩
 | .o a,.o b=>bO a b
theorem iS:∀ {a b:Md},a.le b=true->a.kid.le b.kid=true
 | .s,.s,_=>rfl
 | .s,.d,_=>rfl
 | .s,.o _,_=>by first | rfl | exact (by cases ‹Md›<;>rfl)
 | .o a,.o b,h=>h
 | .o a,.d,_=>vd a
 | .d,.d,_=>rfl
 | .d,.s,h=>by cases h
 | .d,.o _,h=>by cases h
 | .o _,.s,h=>by cases h
theorem eW:∀ a:Md,a.up.kid=a
 | .s=>rfl | .d=>rfl | .o _=>rfl
theorem cW (a:Md):a.up≠.s:=by cases a<;>intro h<;>cases h
theorem LstR.own {a:Addr}(hm:m≠.s):LstR K Z H G a xs m ↔ G a/\H a=some (.lst xs):=by
 cases m with
 | s=>exact absurd rfl hm
 | d=>exact Iff.rfl
 | o m=>exact Iff.rfl
noncomputable abbrev a8 (Z G G':Fp):Fp:=fun a=>Z a\/(G a/\¬ G' a)
mutual
theorem Rep.weak:∀ {m m':Md} {t:T} {v:V} {G:Fp},m'.le m=true->Rep K Z H m t v G->∃ G',(∀ a,G' a->G a)/\Rep K (a8 Z G G') H m' t v G'
 | m,m',.non,_,G,_,h=>⟨G,fun _ z=>z,h⟩
 | m,m',.bl _,_,G,_,h=>⟨G,fun _ z=>z,h⟩
 | m,m',.int _,_,G,_,h=>⟨G,fun _ z=>z,h⟩
 | m,m',.str _,_,G,_,h=>⟨G,fun _ z=>z,h⟩
 | m,m',.scr _,_,G,_,h=>⟨G,fun _ z=>z,h⟩
 | m,m',.tup ts,v,G,hm,⟨a,xs,e,q,l,r⟩=>by
  obtain ⟨G',h1,h2⟩:=RepL.weak (iS hm) r
  exact ⟨G',h1,a,xs,e,q,l,h2⟩
 | m,m',.lst ts,v,G,hm,h=>by
  cases m' with
  | s=>exact ⟨no,fun _ z=>z.elim,(Rep.sh h).zmono fun a ha=>ha.imp id fun z=>⟨z,fun q=>q⟩⟩
  | d =>
   cases m with
   | s=>cases hm
   | o _=>cases hm
   | d=>exact ⟨G,fun _ z=>z,h.zmono fun _ z=>.inl z⟩
  | o k =>
   have hne:m≠.s:=by rintro rfl; cases hm
   obtain ⟨a,xs,e,l,q,r⟩:=h
   rw [LstR.own hne] at q
   obtain ⟨G',h1,h2⟩:=RepL.weak (iS hm) r
   refine ⟨fun b=>G' b\/b=a,fun b hb=>hb.elim (fun z=>(h1 b z).1) (fun z=>z ▸ q.1),a,xs,e,l,⟨.inr rfl,q.2⟩,?_⟩
   refine (h2.zmono fun b hb=>?_).mono fun b hb=>⟨.inl hb,(h1 b hb).2⟩
   rcases hb with z | ⟨⟨z1,z2⟩,z3⟩
   ·exact .inl z
   ·exact .inr ⟨z1,fun q=>q.elim z3 z2⟩
 | m,m',.dct ks vs,v,G,hm,h=>by
  cases m' with
  | s=>exact ⟨no,fun _ z=>z.elim,(Rep.sh h).zmono fun a ha=>ha.imp id fun z=>⟨z,fun q=>q⟩⟩
  | d =>
   cases m with
   | s=>cases hm
   | o _=>cases hm
   | d=>exact ⟨G,fun _ z=>z,h.zmono fun _ z=>.inl z⟩
  | o k =>
   obtain ⟨a,xs,e,l,q,n,hl,r⟩:=h
   cases m with
   | s=>cases hm
   | d=>exact ⟨G,fun _ z=>z,a,xs,e,l,q,n,hl,RepL.zmono (fun b hb=>hb.elim .inl fun z=>z.elim) (RepL.sh r)⟩
   | o k'=>exact ⟨G,fun _ z=>z,a,xs,e,l,q,n,hl,RepL.zmono (fun b hb=>.inl hb) r⟩
 | m,m',.ins _ _ _,v,G,hm,⟨ne,a,dx,C,xs,e,z1,z2,h1,h2,l,n,r⟩=>⟨G,fun _ z=>z,(fun z=>ne (by subst z; cases m<;>first | rfl | cases hm)),a,dx,C,xs,e,.inl z1,.inl z2,h1,h2,l,n,RepL.zmono (fun b hb=>.inl hb) r⟩
 | m,m',.gone,_,G,_,h=>⟨G,fun _ z=>z,h⟩
theorem RepL.weak:∀ {m m':Md} {ts:List T} {xs:List V} {G:Fp},m'.le m=true->RepL K Z H m ts xs G->∃ G',(∀ a,G' a->G a)/\RepL K (a8 Z G G') H m' ts xs G'
 | m,m',[],_,G,_,h=>⟨G,fun _ z=>z,h⟩
 | m,m',t::ts,xs,G,hm,⟨x,r,G1,G2,e,h1,h2,hd,p,q⟩=>by
  obtain ⟨A,a1,a2⟩:=Rep.weak hm p
  obtain ⟨B,b1,b2⟩:=RepL.weak hm q
  refine ⟨fun b=>A b\/B b,fun b hb=>hb.elim (fun z=>h1 b (a1 b z)) (fun z=>h2 b (b1 b z)),x,r,A,B,e,fun _ z=>.inl z,fun _ z=>.inr z,fun b za zb=>hd b (a1 b za) (b1 b zb),?_,?_⟩
  ·refine a2.zmono fun b hb=>hb.imp id fun z=>⟨h1 b z.1,fun q=>q.elim z.2 fun w=>hd b z.1 (b1 b w)⟩
  ·refine b2.zmono fun b hb=>hb.imp id fun z=>⟨h2 b z.1,fun q=>q.elim (fun w=>hd b (a1 b w) z.1) z.2⟩
end
noncomputable def RepW (K:a0a)(Z:Fp)(H:Hp):List W->List V->Fp->Prop
 | [],xs,_=>xs=[]
 | w::ws,xs,G=>∃ x r G1 G2,xs=x::r/\(∀ a,G1 a->G a)/\(∀ a,G2 a->G a)/\(∀ a,G1 a->¬ G2 a)/\Rep K Z H w.1 w.2 x G1/\RepW K Z H ws r G2
theorem RepW.length:∀ {ws:List W} {xs:List V} {G:Fp},RepW K Z H ws xs G->xs.length=ws.length
 | [],_,_,h=>by rw [show _=[] from h]; rfl
 | _::_,_,_,⟨x,r,G1,G2,e,_,_,_,_,q⟩=>by rw [e,a0o,a0o,RepW.length q]
theorem RepW.mono:∀ {ws:List W} {xs:List V} {G G':Fp},(∀ a,G a->G' a)->RepW K Z H ws xs G->RepW K Z H ws xs G'
 | [],_,_,_,_,h=>h
 | _::_,_,_,_,w,⟨x,r,G1,G2,e,h1,h2,hd,p,q⟩=>⟨x,r,G1,G2,e,fun a ha=>w a (h1 a ha),fun a ha=>w a (h2 a ha),hd,p,q⟩
theorem RepW.keep (s:Stay Z H H')(z:∀ a,Z a->Z' a):∀ {ws:List W} {xs:List V} {G:Fp},(∀ a o,G a->H a=some o->H' a=some o)->RepW K Z H ws xs G->RepW K Z' H' ws xs G
 | [],_,_,_,h=>h
 | _::_,_,_,g,⟨x,r,G1,G2,e,h1,h2,hd,p,q⟩=>⟨x,r,G1,G2,e,h1,h2,hd,p.keep s z fun a o ha=>g a o (h1 a ha),RepW.keep s z (fun a o ha=>g a o (h2 a ha)) q⟩
theorem RepW.append:∀ {ws us:List W} {xs ys:List V} {G1 G2 G:Fp},(∀ a,G1 a->G a)->(∀ a,G2 a->G a)->(∀ a,G1 a->¬ G2 a)->RepW K Z H ws xs G1->RepW K Z H us ys G2->RepW K Z H (ws++us) (xs++ys) G
 | [],us,xs,ys,G1,G2,G,w1,w2,d,h,k=>by rw [show xs=[] from h]; exact k.mono w2
 | t::ts,us,xs,ys,G1,G2,G,w1,w2,d,⟨x,r,A,B,e,h1,h2,hd,p,q⟩,k=>by
  rw [e]
  refine ⟨x,r++ys,A,fun a=>B a\/G2 a,rfl,fun a ha=>w1 a (h1 a ha),fun a ha=>ha.elim (fun z=>w1 a (h2 a z)) (w2 a),fun a ha hb=>hb.elim (hd a ha) (d a (h1 a ha)),p,?_⟩
  exact RepW.append (fun a z=>.inl z) (fun a z=>.inr z) (fun a ha=>d a (h2 a ha)) q k
theorem RepW.one {w:W}{x:V}(p:Rep K Z H w.1 w.2 x G):RepW K Z H [w] [x] G:=⟨x,[],G,no,rfl,fun _ h=>h,fun _ h=>h.elim,fun _ _ h=>h,p,rfl⟩
theorem eE:∀ {ws:List W} {w:W},w∈ws->(dn ws).le (lf w.1 w.2)=true
 | u::ws,w,h=>by
  rcases a0Q.mp h with z | z
  ·subst z; exact (bO _ _).1
  ·exact eI (bO _ _).2 (eE z)
theorem Rep.lf (h:Rep K Z H m t v G):Rep K Z H (M.lf m t) t v G:=by
 unfold M.lf
 split
 ·rename_i hl; exact h.leaf (fun _ _ _ q=>q) hl
 ·exact h
theorem RepW.to {N:Md}:∀ {ws:List W} {xs:List V} {G:Fp},(∀ w∈ws,N.le (M.lf w.1 w.2)=true)->RepW K Z H ws xs G->∃ G',(∀ a,G' a->G a)/\RepL K (a8 Z G G') H N (aM ws) xs G'
 | [],_,G,_,h=>⟨G,fun _ z=>z,h⟩
 | w::ws,xs,G,hm,⟨x,r,G1,G2,e,h1,h2,hd,p,q⟩=>by
  obtain ⟨A,a1,a2⟩:=Rep.weak (hm w a0e) p.lf
  obtain ⟨B,b1,b2⟩:=RepW.to (fun u hu=>hm u (a0f _ hu)) q
  refine ⟨fun b=>A b\/B b,fun b hb=>hb.elim (fun z=>h1 b (a1 b z)) (fun z=>h2 b (b1 b z)),x,r,A,B,e,fun _ z=>.inl z,fun _ z=>.inr z,fun b za zb=>hd b (a1 b za) (b1 b zb),?_,?_⟩
  ·refine a2.zmono fun b hb=>hb.imp id fun z=>⟨h1 b z.1,fun q=>q.elim z.2 fun w=>hd b z.1 (b1 b w)⟩
  ·refine b2.zmono fun b hb=>hb.imp id fun z=>⟨h2 b z.1,fun q=>q.elim (fun w=>hd b (a1 b w) z.1) z.2⟩
end
noncomputable def OO:=List V ⊕ List (Key×V)
noncomputable def OO.ho:OO->HO
 | .inl xs=>.lst xs
 | .inr kvs=>.dK kvs
noncomputable def Own (Z:Fp)(H:Hp)(F:Fp):Prop:=∀ a,F a->¬ Z a/\∃ xs:OO,H a=some xs.ho
theorem oH {xs:List V}{ys:OO}(e:some (HO.tup xs)=some ys.ho):False:=by cases ys<;>cases e
theorem jT {o:PySem.Obj}{u:HO}{ys:OO}(e:some (HO.frz o u)=some ys.ho):False:=by cases ys<;>cases e
structure Step (Z:Fp)(H:Hp)(F:Fp)(Z':Fp)(H':Hp)(F':Fp):Prop where
 keep:∀ a o,H a=some o->¬ F a->H' a=some o
 zm:∀ a,Z a->Z' a
 zn:∀ a,Z' a->Z a\/F a\/H a=none
 fn:∀ a,F' a->F a\/H a=none
 al:∀ a,H a≠none->H' a≠none
 za:(∀ a,Z a->H a≠none)->∀ a,Z' a->H' a≠none
section
variable {K:a0a}{Z Z1 Z2 Z':Fp}{H H1 H2 H':Hp}{F F1 F2 F' R G:Fp}
theorem Step.refl (Z:Fp)(H:Hp)(F:Fp):Step Z H F Z H F:=⟨fun _ _ h _=>h,fun _ h=>h,fun _ h=>.inl h,fun _ h=>.inl h,fun _ h=>h,fun z=>z⟩
theorem Step.trans (s:Step Z H F Z1 H1 F1)(t:Step Z1 H1 F1 Z2 H2 F2):Step Z H F Z2 H2 F2 where
 keep:=fun a o h n=>t.keep a o (s.keep a o h n) fun q=>(s.fn a q).elim n fun z=>by rw [h] at z; cases z
 zm:=fun a h=>t.zm a (s.zm a h)
 zn:=fun a h=>by
  rcases t.zn a h with q | q | q
  ·exact s.zn a q
  ·exact .inr (s.fn a q)
  ·exact .inr (.inr (by
    cases e:H a with
    | none=>rfl
    | some o=>exact absurd q (s.al a (by rw [e]; simp))))
 fn:=fun a h=>by
  rcases t.fn a h with q | q
  ·exact s.fn a q
  ·exact .inr (by
    cases e:H a with
    | none=>rfl
    | some o=>exact absurd q (s.al a (by rw [e]; simp)))
 al:=fun a h=>t.al a (s.al a h)
 za:=fun z=>t.za (s.za z)
theorem Step.frame (R:Fp)(s:Step Z H F Z' H' F'):Step Z H (fun a=>F a\/R a) Z' H' (fun a=>F' a\/R a) where
 keep:=fun a o h n=>s.keep a o h fun q=>n (.inl q)
 zm:=s.zm
 zn:=fun a h=>(s.zn a h).imp id fun q=>q.imp .inl id
 fn:=fun a h=>h.elim (fun q=>(s.fn a q).imp .inl id) fun q=>.inl (.inr q)
 al:=s.al
 za:=s.za
theorem Step.mono (s:Step Z H F Z' H' F')(h1:∀ a,F a->F1 a)(h2:∀ a,F2 a->F' a):Step Z H F1 Z' H' F2 where
 keep:=fun a o h n=>s.keep a o h fun q=>n (h1 a q)
 zm:=s.zm
 zn:=fun a h=>(s.zn a h).imp id fun q=>q.imp (h1 a) id
 fn:=fun a h=>(s.fn a (h2 a h)).imp (h1 a) id
 al:=s.al
 za:=s.za
theorem Own.stay (o:Own Z H F)(s:Step Z H F Z' H' F'):Stay Z H H':=by
 refine ⟨fun a u hz h=>s.keep a u h fun q=>(o a q).1 hz,fun a xs h=>?_,fun a u v h=>s.keep a _ h fun q=>?_⟩
 ·rcases h with h | ⟨u,h⟩
  ·refine .inl (s.keep a _ h fun q=>?_)
   obtain ⟨_,ys,e⟩:=o a q
   rw [h] at e; exact oH e
  ·refine .inr ⟨u,s.keep a _ h fun q=>?_⟩
   obtain ⟨_,ys,e⟩:=o a q
   rw [h] at e; exact jT e
 ·obtain ⟨_,ys,e⟩:=o a q
  rw [h] at e; exact jT e
theorem Rep.frame {m:Md}{t:T}{v:V}(o:Own Z H F)(s:Step Z H F Z' H' F')(d:∀ a,G a->¬ F a)(h:Rep K Z H m t v G):Rep K Z' H' m t v G:=h.keep (o.stay s) s.zm fun a u ha e=>s.keep a u e (d a ha)
theorem RepW.frame {ws:List W}{xs:List V}(o:Own Z H F)(s:Step Z H F Z' H' F')(d:∀ a,G a->¬ F a)(h:RepW K Z H ws xs G):RepW K Z' H' ws xs G:=h.keep (o.stay s) s.zm fun a u ha e=>s.keep a u e (d a ha)
theorem Own.frame (o:Own Z H G)(s:Step Z H F Z' H' F')(d:∀ a,G a->¬ F a):Own Z' H' G/\∀ a,G a->¬ F' a:=by
 refine ⟨fun a ha=>?_,fun a ha q=>?_⟩
 ·obtain ⟨nz,xs,e⟩:=o a ha
  refine ⟨fun q=>?_,xs,s.keep a _ e (d a ha)⟩
  rcases s.zn a q with z | z | z
  ·exact nz z
  ·exact d a ha z
  ·rw [e] at z; cases z
 ·obtain ⟨nz,xs,e⟩:=o a ha
  rcases s.fn a q with z | z
  ·exact d a ha z
  ·rw [e] at z; cases z
end
noncomputable abbrev Fps:=Nat->Fp
noncomputable def tot (Fs:Fps):Fp:=fun a=>∃ i,Fs i a
structure Gd (Z:Fp)(H:Hp)(Fs:Fps):Prop where
 own:Own Z H (tot Fs)
 dis:∀ i j a,Fs i a->Fs j a->i=j
 zal:∀ a,Z a->H a≠none
structure Cf where
 sl:Nat->Option Nat
 pv:Nat->Option V
noncomputable def u1 (K:a0a)(sl:Cf)(Z:Fp)(H:Hp)(η:Env)(σ:L2.St)(Fs:Fps):Prop :=
 ∀ i m t,rd η i=some (m,t)->∃ v,Rep K Z H m t v (Fs i)/\(∀ j,sl.sl i=some j->σ[j]?=some (some v))/\∀ u,sl.pv i=some u->v=u
structure At (K:a0a)(sl:Cf)(σ:L2.St)(Z:Fp)(H:Hp)(Fs:Fps)(η:Env)(G:Fp):Prop where
 gd:Gd Z H Fs
 env:u1 K sl Z H η σ Fs
 own:Own Z H G
 dis:∀ a,G a->¬ tot Fs a
 lk:∀ i u j,sl.pv i=some u->sl.sl i=some j->σ[j]?=some (some u)
 ln:∀ i j,sl.sl i=some j->j < σ.length
section
variable {K:a0a}{sl:Cf}{σ:L2.St}{Z Z':Fp}{H H':Hp}{Fs Fs':Fps}{η η':Env}{G G' R:Fp}
theorem At.frame (a:At K sl σ Z H Fs η R)(b:At K sl σ Z' H' Fs' η' G)(s:Step Z H (tot Fs) Z' H' (fun c=>tot Fs' c\/G c)) :
  At K sl σ Z' H' Fs' η' (fun c=>R c\/G c)/\Step Z H (fun c=>tot Fs c\/R c) Z' H' (fun c=>tot Fs' c\/(R c\/G c))/\∀ c,R c->¬ G c:=by
 have o:=a.own.frame s a.dis
 refine ⟨⟨b.gd,b.env,fun c hc=>hc.elim (o.1 c) (b.own c),fun c hc=>hc.elim (fun z q=>o.2 c z (.inl q)) (b.dis c),b.lk,b.ln⟩,(s.frame R).mono (fun _ z=>z) fun c hc=>?_,fun c z q=>o.2 c z (.inr q)⟩
 rcases hc with z | z | z
 ·exact .inl (.inl z)
 ·exact .inr z
 ·exact .inl (.inr z)
end
end MR
namespace MR
open L2 L3 M
open PySem (Addr Str sizeLine)
section
variable {K:a0a}{sl:Cf}{sf:Nat->Option Nat}{C:Call}{σ:L2.St}{Z Z' Z1:Fp}{H H' H1:Hp}{Fs Fs' Fs1:Fps}{η η' η1:Env}{G G' R F:Fp}
theorem At.mono (a:At K sl σ Z H Fs η G)(h:∀ c,G' c->G c):At K sl σ Z H Fs η G':=⟨a.gd,a.env,fun c hc=>a.own c (h c hc),fun c hc=>a.dis c (h c hc),a.lk,a.ln⟩
theorem At.bare (a:At K sl σ Z H Fs η G):At K sl σ Z H Fs η no:=a.mono fun _ z=>z.elim
noncomputable def wE (K:a0a)(sl:Nat->Option Nat)(C:Call)(e:E):TE:=fun σ H Q=>∃ pv Z Fs η w η',At K ⟨sl,pv⟩ σ Z H Fs η no/\evE C e η=.ok (w,η') /\
 ∀ v Z' H' Fs' G,At K ⟨sl,pv⟩ σ Z' H' Fs' η' G->Rep K Z' H' w.1 w.2 v G->Step Z H (tot Fs) Z' H' (fun a=>tot Fs' a\/G a)->Q v H'
noncomputable def wL (K:a0a)(sl:Nat->Option Nat)(C:Call)(es:List E):TA:=fun σ H Q=>∃ pv Z Fs η ws η',At K ⟨sl,pv⟩ σ Z H Fs η no/\evL C es η=.ok (ws,η') /\
 ∀ vs Z' H' Fs' G,At K ⟨sl,pv⟩ σ Z' H' Fs' η' G->RepW K Z' H' ws vs G->Step Z H (tot Fs) Z' H' (fun a=>tot Fs' a\/G a)->Q vs H'
theorem gQ {e:E}{w:W}{Q:VK}(A:At K sl σ Z H Fs η R)(ev:evE C e η=.ok (w,η'))
  (k:∀ v Z' H' Fs' G,At K sl σ Z' H' Fs' η' (fun c=>R c\/G c)->Rep K Z' H' w.1 w.2 v G->(∀ c,R c->¬ G c)->Step Z H (tot Fs) Z' H' (fun a=>tot Fs' a\/G a) ->
   Step Z H (fun c=>tot Fs c\/R c) Z' H' (fun c=>tot Fs' c\/(R c\/G c))->Q v H'):wE K sl.sl C e σ H Q :=
 ⟨sl.pv,Z,Fs,η,w,η',A.bare,ev,fun v Z' H' Fs' G B r s=>by
  obtain ⟨h1,h2,h3⟩:=A.frame B s
  exact k v Z' H' Fs' G h1 r h3 s h2⟩
theorem sJ {es:List E}{ws:List W}{Q:List V->Hp->Prop}(A:At K sl σ Z H Fs η R)(ev:evL C es η=.ok (ws,η'))
  (k:∀ vs Z' H' Fs' G,At K sl σ Z' H' Fs' η' (fun c=>R c\/G c)->RepW K Z' H' ws vs G->(∀ c,R c->¬ G c)->Step Z H (tot Fs) Z' H' (fun a=>tot Fs' a\/G a) ->
   Step Z H (fun c=>tot Fs c\/R c) Z' H' (fun c=>tot Fs' c\/(R c\/G c))->Q vs H'):wL K sl.sl C es σ H Q :=
 ⟨sl.pv,Z,Fs,η,ws,η',A.bare,ev,fun v Z' H' Fs' G B r s=>by
  obtain ⟨h1,h2,h3⟩:=A.frame B s
  exact k v Z' H' Fs' G h1 r h3 s h2⟩
theorem aa {α β:Type}{r:Res α}{f:α->Res β}{b:β}(h:r.bind f=.ok b):∃ a,r=.ok a/\f a=.ok b:=by
 cases r with
 | ok a=>exact ⟨a,rfl,h⟩
 | ex t=>cases h
 | no=>cases h
theorem ai {α:Type}{η:Env}{o:Option α}{b:α×Env}(h:ret η o=.ok b):∃ a,o=some a/\b=(a,η):=by
 cases o with
 | none=>cases h
 | some a=>exact ⟨a,rfl,by cases h; rfl⟩
theorem bo {α:Type}{o:Option α}{b:α}(h:ofO o=.ok b):o=some b:=by
 cases o with
 | none=>cases h
 | some a=>cases h; rfl
theorem az {e:E}{es:List E}{ws:List W}(h:evL C (e::es) η=.ok (ws,η')):∃ w η1 us,evE C e η=.ok (w,η1)/\evL C es η1=.ok (us,η')/\ws=w::us:=by
 obtain ⟨⟨w,η1⟩,h1,h2⟩:=aa (show (evE C e η).bind (aO (evL C es))=_ from h)
 obtain ⟨⟨us,η2⟩,h3,h4⟩:=aa (show (evL C es η1).bind (fN w)=_ from h2)
 cases h4
 exact ⟨w,η1,us,h1,h3,rfl⟩
theorem cM {e:E}{es:List E}{ws:List W}(he:∀ i,e≠.io i)(h:evA C (e::es) η=.ok (ws,η')):∃ w η1 us,evE C e η=.ok (w,η1)/\evA C es η1=.ok (us,η')/\ws=w::us:=by
 rw [oh he] at h
 obtain ⟨⟨w,η1⟩,h1,h2⟩:=aa h
 obtain ⟨⟨us,η2⟩,h3,h4⟩:=aa (show (evA C es η1).bind (fN w)=_ from h2)
 cases h4
 exact ⟨w,η1,us,h1,h3,rfl⟩
theorem f7 {i:Nat}{es:List E}{ws:List W}(h:evA C (.io i::es) η=.ok (ws,η')):∃ us η1 w,evA C es η=.ok (us,η1)/\rd η1 i=some w/\ws=w::us/\η'=del η1 i:=by
 obtain ⟨⟨us,η1⟩,h1,h2⟩:=aa (show (evA C es η).bind (kIo i)=_ from h)
 obtain ⟨w,h3,h4⟩:=aa (show (ofO (rd η1 i)).bind (fun w=>.ok (w::us,del η1 i))=_ from h2)
 cases h4
 exact ⟨us,η1,w,h1,bo h3,rfl,rfl⟩
theorem ud (e:E):(∃ i,e=.io i)\/∀ i,e≠.io i:=by
 cases e with
 | io i=>exact .inl ⟨i,rfl⟩
 | _=>exact .inr fun _ z=>by cases z
theorem mr {e:E}{es:List E}(σ:L2.St)(H:Hp)(Q:List V->Hp->Prop)(h:wL K sf C (e::es) σ H Q):jI (wE K sf C e) (wL K sf C es) σ H Q:=by
 obtain ⟨pv,Z,Fs,η,ws,η',A,ev,k⟩:=h
 obtain ⟨w,η1,us,h1,h2,rfl⟩:=az ev
 refine gQ A h1 fun x Z1 H1 Fs1 G1 A1 r1 _ s1 _=>?_
 have A1':=A1.mono (G':=G1) fun _ z=>.inr z
 refine sJ A1' h2 fun xs Z2 H2 Fs2 G2 A2 r2 d2 s2 t2=>?_
 refine k (x::xs) Z2 H2 Fs2 _ A2 ⟨x,xs,G1,G2,rfl,fun _ z=>.inl z,fun _ z=>.inr z,d2,r1.frame A1.gd.own s2 A1'.dis,r2⟩ ?_
 exact s1.trans t2
theorem p6 (σ:L2.St)(H:Hp)(Q:List V->Hp->Prop)(h:wL K sf C [] σ H Q):oS σ H Q:=by
 obtain ⟨pv,Z,Fs,η,ws,η',A,ev,k⟩:=h
 cases ev
 exact k [] Z H Fs no A rfl ((Step.refl _ _ _).mono (fun _ z=>z) fun a ha=>ha.elim id fun z=>z.elim)
noncomputable def Out (K:a0a)(Z:Fp)(H:Hp)(G:Fp)(w:W)(Q:VK):Prop:=∀ v Z' H' G',Rep K Z' H' w.1 w.2 v G'->Own Z' H' G'->Step Z H G Z' H' G'->Q v H'
theorem At.op (A:At K sl σ Z H Fs η G)(o:Own Z' H' G')(s:Step Z H G Z' H' G'):At K sl σ Z' H' Fs η G'/\Step Z H (fun c=>tot Fs c\/G c) Z' H' (fun c=>tot Fs c\/G' c):=by
 have d:∀ a,tot Fs a->¬ G a:=fun a h q=>A.dis a q h
 have f:=A.gd.own.frame s d
 refine ⟨⟨⟨f.1,A.gd.dis,s.za A.gd.zal⟩,fun i m t e=>?_,o,fun a ha q=>f.2 a q ha,A.lk,A.ln⟩,?_⟩
 ·obtain ⟨v,r,hv⟩:=A.env i m t e
  exact ⟨v,r.frame A.own s fun a ha=>d a ⟨i,ha⟩,hv⟩
 ·refine (s.frame (tot Fs)).mono (fun _ z=>z.symm) fun _ z=>z.symm
theorem br {w:W}{Q:VK}(A:At K sl σ Z1 H1 Fs1 η1 G)(s:Step Z H F Z1 H1 (fun a=>tot Fs1 a\/G a))
  (k:∀ v Z' H' Fs' G,At K sl σ Z' H' Fs' η1 G->Rep K Z' H' w.1 w.2 v G->Step Z H F Z' H' (fun a=>tot Fs' a\/G a)->Q v H'):Out K Z1 H1 G w Q:=fun v Z' H' G' r o t=>by
 obtain ⟨B,u⟩:=A.op o t
 exact k v Z' H' Fs1 G' B r (s.trans u)
noncomputable def Loc (K:a0a)(n:Nat)(o:Op)(h:Bool)(r:List V->Hp->VK->Prop):Prop:=∀ (ws:List W) (w:W) (xs:List V) (Z:Fp) (H:Hp) (G:Fp) (Q:VK),ws.length=n->oSem o h ws=some w->RepW K Z H ws xs G->Own Z H G->(∀ a,Z a->H a≠none)->Out K Z H G w Q->r xs H Q
theorem bp {o:Op}{h:Bool}{es:List E}{w:W}(e:evE C (.op o h es) η=.ok (w,η')):∃ ws,evL C es η=.ok (ws,η')/\oSem o h ws=some w:=by
 obtain ⟨⟨ws,η1⟩,h1,h2⟩:=aa (show (evL C es η).bind (kOp o h)=_ from e)
 obtain ⟨a,h3,h4⟩:=ai (show ret η1 (oSem o h ws)=_ from h2)
 cases h4
 exact ⟨ws,h1,h3⟩
theorem dC:∀ {es:List E} {η η':Env} {ws:List W},evL C es η=.ok (ws,η')->ws.length=es.length
 | [],_,_,_,h=>by cases h; rfl
 | e::es,_,_,_,h=>by
  obtain ⟨w,η1,us,_,h2,rfl⟩:=az h
  rw [a0o,a0o,dC h2]
theorem iQ {n:Nat}{o:Op}{h:Bool}{es:List E}{r:List V->Hp->VK->Prop}(l:Loc K n o h r)(hn:es.length=n)(σ:L2.St)(H:Hp)(Q:VK)(hw:wE K sf C (.op o h es) σ H Q):tCB r (wL K sf C es) σ H Q:=by
 obtain ⟨pv,Z,Fs,η,w,η',A,ev,k⟩:=hw
 obtain ⟨ws,h1,h2⟩:=bp ev
 exact ⟨pv,Z,Fs,η,ws,η',A,h1,fun vs Z' H' Fs' G B r s=>l ws w vs Z' H' G Q ((dC h1).trans hn) h2 r B.own B.gd.zal (br B s k)⟩
theorem a5 {o:Op}{h:Bool}{a b:E}{r:R2}(l:Loc K 2 o h fun xs H Q=>∀ x y,xs=[x,y]->r x y H Q)(σ:L2.St)(H:Hp)(Q:VK)(hw:wE K sf C (.op o h [a,b]) σ H Q):tOp r (wE K sf C a) (wE K sf C b) σ H Q:=by
 obtain ⟨pv,Z,Fs,η,w,η',A,ev,k⟩:=hw
 obtain ⟨ws,h1,h2⟩:=bp ev
 obtain ⟨wa,η1,us,e1,e2,rfl⟩:=az h1
 obtain ⟨wb,η2,us,e3,e4,rfl⟩:=az e2
 cases e4
 refine gQ A e1 fun x Z1 H1 Fs1 G1 A1 r1 _ s1 _=>?_
 have A1':=A1.mono (G':=G1) fun _ z=>.inr z
 refine gQ A1' e3 fun y Z2 H2 Fs2 G2 A2 r2 d2 s2 t2=>?_
 exact l [wa,wb] w [x,y] Z2 H2 _ Q rfl h2 ⟨x,[y],G1,G2,rfl,fun _ z=>.inl z,fun _ z=>.inr z,d2,r1.frame A1.gd.own s2 A1'.dis,RepW.one r2⟩ A2.own A2.gd.zal (br A2 (s1.trans t2) k) x y rfl
theorem a6:Own Z H no:=fun _ z=>z.elim
theorem Step.drop:Step Z H G Z H no:=(Step.refl Z H G).mono (fun _ z=>z) fun _ z=>z.elim
section
variable {Q:VK}{m:Md}{ts:List T}{xs:List V}
theorem aK {i:Int}(k:Out K Z H G (m,.int i) Q):Q (.int i) H:=k _ Z H no rfl a6 .drop
theorem cG {b:Bool}(k:Out K Z H G (m,.bl b) Q):Q (.bl b) H:=k _ Z H no rfl a6 .drop
theorem dJ {x:Str}(k:Out K Z H G (m,.str x) Q)(h:sOk x=true):Q (.str x) H:=k _ Z H no ⟨rfl,h⟩ a6 .drop
theorem cD {t:T}{v:V}(o:Own Z H G)(k:Out K Z H G (m,t) Q)(r:Rep K Z H m t v G):Q v H:=k v Z H G r o (.refl _ _ _)
theorem el {p:Addr}{o:HO}(hp:H p=none):Stay Z H (upd H p o):=by
 have ne:∀ {a u},H a=some u->a≠p:=fun {a u} e z=>by subst z; rw [hp] at e; cases e
 refine ⟨fun a u _ e=>?_,fun a xs e=>?_,fun a u v e=>?_⟩
 ·rw [ae (ne e)]; exact e
 ·rcases e with e | ⟨u,e⟩
  ·exact .inl (by rw [ae (ne e)]; exact e)
  ·exact .inr ⟨u,by rw [ae (ne e)]; exact e⟩
 ·rw [ae (ne e)]; exact e
theorem ej {p:Addr}{o:HO}(hp:H p=none)(ow:Own Z H G)(hg:∀ a,G' a->G a\/a=p)(z:Fp)(hz:∀ a,Z a->z a)(hz':∀ a,z a->Z a\/G a):Step Z H G z (upd H p o) G':=by
 have ne:∀ {a u},H a=some u->a≠p:=fun {a u} e q=>by subst q; rw [hp] at e; cases e
 have al:∀ a,H a≠none->upd H p o a≠none:=fun a h=>by
  by_cases e:a=p
  ·rw [e,aA]; simp
  ·rw [ae e]; exact h
 refine ⟨fun a u e _=>by rw [ae (ne e)]; exact e,hz,fun a h=>(hz' a h).imp id .inl,fun a h=>(hg a h).imp id fun e=>by rw [e]; exact hp,al,fun q a h=>al a ?_⟩
 rcases hz' a h with c | c
 ·exact q a c
 ·obtain ⟨_,xs,e⟩:=ow a c
  rw [e]; simp
theorem bj {p:Addr}(ow:Own Z H G)(za:∀ a,Z a->H a≠none)(hg:∀ a,G' a->G a)(hl:xs.length<=LIM)(r:RepL K (a8 Z G G') H m.kid ts xs G')(hm:m≠.s)(k:Out K Z H G (m,.lst ts) Q)(hp:H p=none):Q (.ref p) (upd H p (.lst xs)):=by
 have ne:∀ {a u},H a=some u->a≠p:=fun {a u} e q=>by subst q; rw [hp] at e; cases e
 have np:∀ a,G' a->a≠p:=fun a h=>by obtain ⟨_,ys,e⟩:=ow a (hg a h); exact ne e
 refine k _ (a8 Z G G') _ (fun a=>G' a\/a=p) ⟨p,xs,rfl,hl,(LstR.own hm).mpr ⟨.inr rfl,aA⟩,?_⟩ ?_ (ej hp ow (fun a h=>h.imp (hg a) id) _ (fun a h=>.inl h) fun a h=>h.imp id a2O)
 ·refine (r.keep (el hp) (fun _ z=>z) fun a u _ e=>by rw [ae (ne e)]; exact e).mono fun a h=>⟨.inl h,np a h⟩
 ·rintro a (h | h)
  ·obtain ⟨nz,ys,e⟩:=ow a (hg a h)
   exact ⟨fun z=>z.elim nz fun q=>q.2 h,ys,by rw [ae (ne e)]; exact e⟩
  ·subst h
   refine ⟨fun z=>z.elim (fun q=>za a q hp) fun q=>?_,.inl xs,aA⟩
   obtain ⟨_,ys,e⟩:=ow a q.1
   rw [hp] at e; cases e
theorem lK {p:Addr}(ow:Own Z H G)(hg:∀ a,G' a->G a)(hl:xs.length<=LIM)(r:RepL K (a8 Z G G') H m.kid ts xs G')(k:Out K Z H G (m,.tup ts) Q)(hp:H p=none):Q (.ref p) (upd H p (.tup xs)):=by
 have ne:∀ {a u},H a=some u->a≠p:=fun {a u} e q=>by subst q; rw [hp] at e; cases e
 refine k _ (a8 Z G G') _ G' ⟨p,xs,rfl,.inl (.inl aA),hl,?_⟩ ?_ (ej hp ow (fun a h=>.inl (hg a h)) _ (fun a h=>.inl h) fun a h=>h.imp id a2O)
 ·exact r.keep (el hp) (fun _ z=>z) fun a u _ e=>by rw [ae (ne e)]; exact e
 ·intro a h
  obtain ⟨nz,ys,e⟩:=ow a (hg a h)
  exact ⟨fun z=>z.elim nz fun q=>q.2 h,ys,by rw [ae (ne e)]; exact e⟩
theorem eJ {v:V}{H':Hp}(ow:Own Z H G)(hg:∀ a,G' a->G a)(hl:xs.length<=LIM)(r:RepL K (a8 Z G G') H m.kid ts xs G')(k:Out K Z H G (m,.tup ts) Q)(same:∀ b o,H b=some o->H' b=some o)(hv:∃ c,v=.ref c/\SqT K H' c xs):Q v H':=by
 obtain ⟨c,rfl,hs⟩:=hv
 have al:∀ a,H a≠none->H' a≠none:=fun a h=>by
  cases e:H a with
  | none=>exact absurd e h
  | some o=>rw [same a o e]; simp
 refine k _ (a8 Z G G') _ G' ⟨c,xs,rfl,hs,hl,?_⟩ (fun a h=>?_) ⟨fun a o e _=>same a o e,fun a h=>.inl h,fun a h=>h.imp id fun q=>.inl q.1,fun a h=>.inl (hg a h),al,fun q a h=>al a ?_⟩
 ·refine r.keep ⟨fun a o _ e=>same a o e,fun a ys e=>?_,fun a o u e=>same a _ e⟩ (fun _ z=>z) fun a u _ e=>same a u e
  rcases e with e | ⟨u,e⟩
  ·exact .inl (same a _ e)
  ·exact .inr ⟨u,same a _ e⟩
 ·obtain ⟨nz,ys,e⟩:=ow a (hg a h)
  exact ⟨fun z=>z.elim nz fun q=>q.2 h,ys,same a _ e⟩
 ·rcases h with h | h
  ·exact q a h
  ·obtain ⟨_,ys,e⟩:=ow a h.1
   rw [e]; simp
theorem cB {p:Addr}{h:Bool}{w:W}(ow:Own Z H G)(za:∀ a,Z a->H a≠none)(hl:xs.length<=LIM)(r:∃ G',(∀ a,G' a->G a)/\RepL K (a8 Z G G') H m ts xs G')(hn:newL h m ts=some w)(k:Out K Z H G w Q)(hp:H p=none):Q (.ref p) (upd H p (.lst xs)):=by
 obtain ⟨G',hg,r⟩:=r
 unfold newL at hn
 split at hn
 ·split at hn
  ·rename_i hlv
   cases hn
   refine bj (m:=.d) (G':=no) ow za (fun _ z=>z.elim) hl ?_ (by simp) k hp
   exact r.leaves (fun _ _ _ e=>e) hlv
  ·cases hn
 ·cases hn
  exact bj (m:=m.up) ow za hg hl (by rw [eW]; exact r) (cW m) k hp
end
end
end MR
namespace MR
open L2 L3 M
open PySem (Addr Str sizeLine)
section
variable {K:a0a}{h:Bool}
theorem er {α β:Type}{ws:List α}{x y:β}(e:ws.length=[x,y].length):∃ a b,ws=[a,b]:=by
 match ws,e with
 | [a,b],_=>exact ⟨a,b,rfl⟩
theorem u9 {α β:Type}{ws:List α}{x:β}(e:ws.length=[x].length):∃ a,ws=[a]:=by
 match ws,e with
 | [a],_=>exact ⟨a,rfl⟩
theorem b4 {Z:Fp}{H:Hp}{G:Fp}{u w:W}{x y:V}(r:RepW K Z H [u,w] [x,y] G):∃ G1 G2,(∀ a,G1 a->G a)/\(∀ a,G2 a->G a)/\(∀ a,G1 a->¬ G2 a)/\Rep K Z H u.1 u.2 x G1/\Rep K Z H w.1 w.2 y G2:=by
 obtain ⟨x',r',G1,G2,e,h1,h2,d,p,y',r2,G3,G4,e2,h3,h4,d2,q,z⟩:=r
 cases e; cases e2
 exact ⟨G1,G3,h1,fun a ha=>h2 a (h3 a ha),fun a ha hb=>d a ha (h3 a hb),p,q⟩
theorem uh {Z:Fp}{H:Hp}{G:Fp}{w:W}{x:V}(r:RepW K Z H [w] [x] G):Rep K Z H w.1 w.2 x G:=by
 obtain ⟨x',r',G1,G2,e,h1,h2,d,p,z⟩:=r
 cases e
 exact p.mono h1
theorem bu {ws:List W}{xs:List V}{Z:Fp}{H:Hp}{G:Fp}{w:W}(hw:ws=[w])(r:RepW K Z H ws xs G):∃ x,xs=[x]/\Rep K Z H w.1 w.2 x G:=by
 subst hw
 obtain ⟨x,hx⟩:=u9 (x:=()) (show xs.length=[()].length from r.length)
 subst hx
 exact ⟨x,rfl,uh r⟩
theorem iA {n:Nat}(h:n<=LIM):n < sizeLine:=a0X h (by decide)
theorem LIM_le {n:Nat}(h:n<=LIM):n<=sizeLine:=a1F (iA h)
theorem bw {n:Nat}(h:aZ n=true):n<=LIM:=of_decide_eq_true h
theorem nq {o:Op}{C:Int->Int->Prop}{g:Int->Int->T}(inv:∀ {u v w:W},oSem o h [u,v]=some w->∃ m n i j,u=(m,.int i)/\v=(n,.int j)/\C i j/\w=(.d,g i j))(gv:Int->Int->V)(hg:∀ {Z:Fp} {H:Hp} {G:Fp} {Q:VK} {i j:Int},Out K Z H G (.d,g i j) Q->Q (gv i j) H) :
  Loc K 2 o h fun xs H Q=>∀ x y,xs=[x,y]->rI C gv x y H Q:=by
 intro ws w xs Z H G Q hn e r ow za k x y hx
 subst hx
 obtain ⟨u,v,rfl⟩:=er r.length.symm
 obtain ⟨m,n,i,j,rfl,rfl,c,rfl⟩:=inv e
 obtain ⟨G1,G2,_,_,_,r1,r2⟩:=b4 r
 exact ⟨i,j,r1,r2,c,hg k⟩
theorem jR {o:Op}{g:Int->Int->T}(inv:∀ {u v w:W},oSem o h [u,v]=some w->∃ m n i j,u=(m,.int i)/\v=(n,.int j)/\w=(.d,g i j))(gv:Int->Int->V)(hg:∀ {Z:Fp} {H:Hp} {G:Fp} {Q:VK} {i j:Int},Out K Z H G (.d,g i j) Q->Q (gv i j) H) :
  Loc K 2 o h fun xs H Q=>∀ x y,xs=[x,y]->rI0 gv x y H Q:=by
 intro ws w xs Z H G Q hn e r ow za k x y hx
 subst hx
 obtain ⟨u,v,rfl⟩:=er r.length.symm
 obtain ⟨m,n,i,j,rfl,rfl,rfl⟩:=inv e
 obtain ⟨G1,G2,_,_,_,r1,r2⟩:=b4 r
 exact ⟨i,j,r1,r2,hg k⟩
theorem kJ {u v w:W}(e:oSem .sub h [u,v]=some w):∃ m n i j,u=(m,.int i)/\v=(n,.int j)/\w=(.d,.int (i-j)):=by
 obtain ⟨m,a⟩:=u; obtain ⟨n,b⟩:=v
 cases a<;>first | (cases e; done) | (cases b<;>first | (cases e; exact ⟨_,_,_,_,rfl,rfl,rfl⟩) | cases e)
theorem i7 {u v w:W}(e:oSem .gt h [u,v]=some w):∃ m n i j,u=(m,.int i)/\v=(n,.int j)/\w=(.d,.bl (decide (j < i))):=by
 obtain ⟨m,a⟩:=u; obtain ⟨n,b⟩:=v
 cases a<;>first | (cases e; done) | (cases b<;>first | (cases e; exact ⟨_,_,_,_,rfl,rfl,rfl⟩) | cases e)
theorem lq {u v w:W}(e:oSem .mod h [u,v]=some w):∃ m n i j,u=(m,.int i)/\v=(n,.int j)/\(0 < j)/\w=(.d,.int (i % j)):=by
 obtain ⟨m,a⟩:=u; obtain ⟨n,b⟩:=v
 cases a<;>first | (cases e; done) | (cases b<;>try (cases e; done))
 rename_i i j
 rw [nK] at e
 split at e
 ·rename_i hc
  rw [decide_eq_true_eq] at hc
  cases e
  exact ⟨_,_,_,_,rfl,rfl,hc,rfl⟩
 ·cases e
theorem mV {u v w:W}(e:oSem .pow h [u,v]=some w):∃ m n i j,u=(m,.int i)/\v=(n,.int j)/\oO i j/\w=(.d,.int (i ^ j.toNat)):=by
 obtain ⟨m,a⟩:=u; obtain ⟨n,b⟩:=v
 cases a<;>first | (cases e; done) | (cases b<;>try (cases e; done))
 rename_i i j
 rw [rE] at e
 split at e
 ·rename_i hc
  rw [a0d,a0d,decide_eq_true_eq,decide_eq_true_eq,decide_eq_true_eq] at hc
  cases e
  exact ⟨_,_,_,_,rfl,rfl,⟨hc.1.1,hc.1.2,hc.2⟩,rfl⟩
 ·cases e
theorem ll:Loc K 2 .sub h fun xs H Q=>∀ x y,xs=[x,y]->rI0 (fun i j=>.int (i-j)) x y H Q:=jR kJ _ fun k=>aK k
theorem qa:Loc K 2 .gt h fun xs H Q=>∀ x y,xs=[x,y]->rI0 (fun i j=>.bl (decide (j < i))) x y H Q:=jR i7 _ fun k=>cG k
theorem l6:Loc K 2 .mod h fun xs H Q=>∀ x y,xs=[x,y]->rI (fun _ j=>0 < j) (fun i j=>.int (i % j)) x y H Q:=nq lq _ fun k=>aK k
theorem kY:Loc K 2 .pow h fun xs H Q=>∀ x y,xs=[x,y]->rI oO (fun i j=>.int (i ^ j.toNat)) x y H Q:=nq mV _ fun k=>aK k
theorem bg {Z:Fp}{H:Hp}{G:Fp}{m:Md}{ts:List T}{v:V}(r:Rep K Z H m (.lst ts) v G):∃ a xs,v=.ref a/\H a=some (.lst xs)/\xs.length<=LIM/\RepL K Z H m.kid ts xs G:=by
 obtain ⟨a,xs,e,l,q,p⟩:=r
 exact ⟨a,xs,e,by cases m<;>exact q.2,l,p.mono fun _ z=>z.1⟩
theorem bC {Z:Fp}{H:Hp}{G:Fp}{m:Md}{ts:List T}{v:V}(r:Rep K Z H m (.tup ts) v G):∃ a xs,v=.ref a/\SqT K H a xs/\xs.length<=LIM/\RepL K Z H m.kid ts xs G:=r
theorem jP {Z:Fp}{H:Hp}{G G1 G2:Fp}{m n:Md}{ts us:List T}{xs ys:List V}(w1:∀ a,G1 a->G a)(w2:∀ a,G2 a->G a)(d:∀ a,G1 a->¬ G2 a)(r1:RepL K Z H m ts xs G1)(r2:RepL K Z H n us ys G2) :
  ∃ G',(∀ a,G' a->G a)/\RepL K (a8 Z G G') H (m.meet n) (ts++us) (xs++ys) G':=by
 obtain ⟨A,a1,a2⟩:=RepL.weak (bO m n).1 r1
 obtain ⟨B,b1,b2⟩:=RepL.weak (bO m n).2 r2
 refine ⟨fun b=>A b\/B b,fun b hb=>hb.elim (fun z=>w1 b (a1 b z)) fun z=>w2 b (b1 b z),RepL.append (fun _ z=>.inl z) (fun _ z=>.inr z) (fun b za zb=>d b (a1 b za) (b1 b zb)) (a2.zmono fun b hb=>?_) (b2.zmono fun b hb=>?_)⟩
 ·exact hb.imp id fun z=>⟨w1 b z.1,fun q=>q.elim z.2 fun w=>d b z.1 (b1 b w)⟩
 ·exact hb.imp id fun z=>⟨w2 b z.1,fun q=>q.elim (fun w=>d b (a1 b w) z.1) z.2⟩
theorem aW {p q:Str}(h1:sOk p=true)(h2:sOk q=true)(hl:p.cps.size+q.cps.size<=LIM):sOk (p++q)=true:=by
 unfold sOk at *
 rw [a0d] at *
 refine ⟨?_,decide_eq_true ?_⟩
 ·show Array.all (p.cps++q.cps) _=true
  rw [Array.all_append,a0d]
  exact ⟨h1.1,h2.1⟩
 ·show (p.cps++q.cps).size<=LIM
  rw [a2a]
  exact hl
theorem lO (rT:R2)(hT:∀ {Z:Fp} {H:Hp} {G:Fp} {Q:VK} {a b:Addr} {xs ys:List V} {ts:List T},SqT K H a xs->SqT K H b ys->xs≠[]->xs.length+ys.length<=LIM->Own Z H G->(∃ G',(∀ a,G' a->G a)/\RepL K (a8 Z G G') H .s ts (xs++ys) G')->Out K Z H G (.s,.tup ts) Q->rT (.ref a) (.ref b) H Q) :
  Loc K 2 .add h fun xs H Q=>∀ x y,xs=[x,y]->rI0 (fun i j=>.int (i+j)) x y H Q\/(∃ i j,x=.str i/\y=.str j/\i.length+j.length<=sizeLine/\Q (.str (i++j)) H)\/tL x y H Q\/rT x y H Q:=by
 intro ws w xs Z H G Q hn e r ow za k x y hx
 subst hx
 obtain ⟨⟨m,a⟩,⟨n,b⟩,rfl⟩:=er r.length.symm
 obtain ⟨G1,G2,w1,w2,d,r1,r2⟩:=b4 r
 cases a<;>first | (cases e; done) | (cases b<;>try (cases e; done))
 ·cases e
  exact .inl ⟨_,_,r1,r2,aK k⟩
 ·rename_i p q
  rw [jA] at e
  split at e
  ·rename_i hf
   cases e
   refine .inr (.inl ⟨p,q,r1.1,r2.1,LIM_le (bw hf),dJ k ?_⟩)
   exact aW r1.2 r2.2 (bw hf)
  ·cases e
 ·rename_i ts us
  rw [j9] at e
  split at e
  ·rename_i hf
   cases e
   rw [a0d] at hf
   obtain ⟨a,xs,rfl,hs,hl,p⟩:=bC r1
   obtain ⟨b,ys,rfl,hs2,hl2,p2⟩:=bC r2
   have hlen:=bw hf.1
   have e1:=p.length
   have e2:=p2.length
   refine .inr (.inr (.inr (hT hs hs2 ?_ (by omega) ow ?_ k)))
   ·rintro rfl
    cases ts with
    | nil=>simp at hf
    | cons _ _=>simp at e1
   ·refine ⟨no,fun _ z=>z.elim,RepL.append (G1:=no) (G2:=no) (fun _ z=>z) (fun _ z=>z) (fun _ z _=>z) ((RepL.sh p).zmono fun b hb=>?_) ((RepL.sh p2).zmono fun b hb=>?_)⟩
    ·exact hb.imp id fun z=>⟨w1 b z,fun q=>q⟩
    ·exact hb.imp id fun z=>⟨w2 b z,fun q=>q⟩
  ·cases e
 ·rename_i ts us
  rw [j1] at e
  split at e
  ·rename_i hf
   obtain ⟨a,xs,rfl,hs,hl,p⟩:=bg r1
   obtain ⟨b,ys,rfl,hs2,hl2,p2⟩:=bg r2
   have hlen:=bw hf
   have e1:=p.length
   have e2:=p2.length
   have hl3:(xs++ys).length<=LIM:=by rw [a0t]; omega
   refine .inr (.inr (.inl ⟨a,b,xs,ys,rfl,rfl,hs,hs2,LIM_le (by omega),fun q hq=>?_⟩))
   exact cB ow za hl3 (jP w1 w2 d p p2) e k hq
  ·cases e
theorem kP:Loc K 2 .mul h fun xs H Q=>∀ x y,xs=[x,y]->rI CMul (fun i j=>.int (i * j)) x y H Q\/uJ x y H Q:=by
 intro ws w xs Z H G Q hn e r ow za k x y hx
 subst hx
 obtain ⟨⟨m,a⟩,⟨n,b⟩,rfl⟩:=er r.length.symm
 obtain ⟨G1,G2,w1,w2,d,r1,r2⟩:=b4 r
 cases a<;>first | (cases e; done) | (cases b<;>try (cases e; done))
 ·rename_i i j
  rw [jr] at e
  split at e
  ·rename_i hc
   cases e
   refine .inl ⟨i,j,r1,r2,?_,aK k⟩
   rw [a2r,decide_eq_true_eq,decide_eq_true_eq] at hc
   have h64:(2:Int) ^ 64=18446744073709551616:=by decide
   unfold CMul
   rw [h64]
   omega
  ·cases e
 ·rename_i ts j
  have e':(if decide (j.natAbs < 4611686018427387904)&&aZ (ts.length * j.toNat) then newL h .s (a0b j.toNat ts).flatten else none)=some w:=e
  split at e'
  ·rename_i hc
   rw [a0d,decide_eq_true_eq] at hc
   obtain ⟨a,xs,rfl,hs,hl,p⟩:=bg r1
   have hlen:=bw hc.2
   have e1:=p.length
   have hl3:((a0b j.toNat xs).flatten).length<=LIM:=by
    rw [List.length_flatten,List.map_replicate,List.sum_replicate_nat,e1,a2G]; exact hlen
   refine .inr ⟨a,j,xs,rfl,r2,hs,by omega,by omega,LIM_le (by rw [e1]; exact hlen),fun q hq=>?_⟩
   refine cB ow za hl3 ⟨no,fun _ z=>z.elim,?_⟩ e' k hq
   have ps:=(RepL.sh p).zmono (Z':=a8 Z G no) fun b hb=>hb.imp id fun z=>⟨w1 b z,fun q=>q⟩
   generalize j.toNat=c
   induction c with
   | zero=>exact rfl
   | succ c ih=>exact RepL.append (fun _ z=>z) (fun _ z=>z) (fun _ z _=>z) ps ih
  ·cases e'
theorem iO {Z:Fp}{H:Hp}{G:Fp}{m:Md}{ts:List T}{xs:List V}{i:Int}{t:T}(p:RepL K Z H m ts xs G)(e:M.atI ts i=some t):∃ x,L2.atI xs i=some x/\Rep K Z H m t x G:=by
 unfold M.atI at e
 have hn:M.ixN ts.length i=L2.ixN xs.length i:=by rw [p.length]; rfl
 cases e1:M.ixN ts.length i with
 | none=>rw [e1] at e; cases e
 | some j =>
  rw [e1] at e
  obtain ⟨x,hx,r⟩:=p.get (show ts[j]?=some t from e)
  refine ⟨x,?_,r⟩
  unfold L2.atI
  rw [<- hn,e1]
  exact hx
theorem kE {x:Str}{c:Nat}(h:sOk x=true)(hc:c∈x.cps.toList):sOk ⟨#[c]⟩=true:=by
 unfold sOk at *
 rw [a0d] at *
 refine ⟨?_,rfl⟩
 have h1:=h.1
 rw [a1c] at h1
 have h2:=h1 c (Array.mem_def.mpr hc)
 rw [a1c]
 intro y hy
 have:y=c:=by simpa using hy
 rw [this]; exact h2
theorem dR {x:Str}(h:sOk x=true):x.cps.size<=LIM:=by
 unfold sOk at h
 rw [a0d,decide_eq_true_eq] at h
 exact h.2
theorem nX:Loc K 2 .ix h fun xs H Q=>∀ x y,xs=[x,y]->(∃ p xs i v,x=.ref p/\y=.int i/\(SqL K H p xs\/SqT K H p xs)/\L2.atI xs i=some v/\Q v H)\/(∃ z i c,x=.str z/\y=.int i/\z.length<=sizeLine/\L2.atI z.cps.toList i=some c/\Q (.str ⟨#[c]⟩) H):=by
 intro ws w xs Z H G Q hn e r ow za k x y hx
 subst hx
 obtain ⟨⟨m,a⟩,⟨n,b⟩,rfl⟩:=er r.length.symm
 obtain ⟨G1,G2,w1,w2,d,r1,r2⟩:=b4 r
 cases b with
 | int i =>
  cases a with
  | lst ts =>
   obtain ⟨a,xs,rfl,hs,hl,p⟩:=bg r1
   have e':(M.atI ts i).map (fun t=>(m.kid,t))=some w:=e
   cases e1:M.atI ts i with
   | none=>rw [e1] at e'; cases e'
   | some t =>
    rw [e1] at e'; cases e'
    obtain ⟨v,hv,rv⟩:=iO p e1
    exact .inl ⟨a,xs,i,v,rfl,r2,.inl (.inl (.inl hs)),hv,cD ow k (rv.mono w1)⟩
  | tup ts =>
   obtain ⟨a,xs,rfl,hs,hl,p⟩:=bC r1
   have e':(M.atI ts i).map (fun t=>(m.kid,t))=some w:=e
   cases e1:M.atI ts i with
   | none=>rw [e1] at e'; cases e'
   | some t =>
    rw [e1] at e'; cases e'
    obtain ⟨v,hv,rv⟩:=iO p e1
    exact .inl ⟨a,xs,i,v,rfl,r2,.inr hs,hv,cD ow k (rv.mono w1)⟩
  | str z =>
   have e':(M.atI z.cps.toList i).map (fun c=>((.d,.str ⟨#[c]⟩):W))=some w:=e
   cases e1:M.atI z.cps.toList i with
   | none=>rw [e1] at e'; cases e'
   | some c =>
    rw [e1] at e'; cases e'
    refine .inr ⟨z,i,c,r1.1,r2,LIM_le (dR r1.2),e1,dJ k (kE r1.2 ?_)⟩
    unfold M.atI at e1
    cases e2:M.ixN z.cps.toList.length i with
    | none=>rw [e2] at e1; cases e1
    | some j=>rw [e2] at e1; exact a04 e1
  | scr ns =>
   obtain ⟨a,rfl,hL,hs⟩:=r1
   have e':(M.atI ns i).map (fun n=>((.d,.int n):W))=some w:=e
   cases e1:M.atI ns i with
   | none=>rw [e1] at e'; cases e'
   | some n =>
    rw [e1] at e'; cases e'
    refine .inl ⟨a,_,i,.int n,rfl,r2,.inl hs.sq,?_,aK k⟩
    unfold M.atI at e1
    unfold L2.atI
    rw [a0g]
    cases e2:M.ixN ns.length i with
    | none=>rw [e2] at e1; cases e1
    | some j =>
     rw [e2] at e1
     rw [show L2.ixN ns.length i=some j from e2]
     show (ns.map V.int)[j]?=_
     rw [a0w,show ns[j]?=some n from e1]
     rfl
  | _=>cases e
 | _=>cases a<;>cases e
theorem mW:Loc K 1 .len h fun xs H Q=>∃ x n,xs=[x]/\(match x with
  | .str y=>y.length<=sizeLine/\n=y.length
  | .byt y=>y.size<=sizeLine/\n=y.size
  | .ref p=>(∃ xs,SqL K H p xs/\n=xs.length)\/∃ xs,SqT K H p xs/\n=xs.length
  | _=>False)/\Q (.int (n:Nat)) H:=by
 intro ws w xs Z H G Q hn e r ow za k
 match ws,hn with
 | [(m,a)],_ =>
  obtain ⟨x,rfl,r1⟩:=bu rfl r
  cases a with
  | lst ts =>
   obtain ⟨a,xs,hx,hs,hl,p⟩:=bg r1
   cases e
   refine ⟨x,ts.length,rfl,?_,aK k⟩
   rw [show x=.ref a from hx]
   exact .inl ⟨xs,.inl (.inl hs),p.length.symm⟩
  | tup ts =>
   obtain ⟨a,xs,hx,hs,hl,p⟩:=bC r1
   cases e
   refine ⟨x,ts.length,rfl,?_,aK k⟩
   rw [show x=.ref a from hx]
   exact .inr ⟨xs,hs,p.length.symm⟩
  | str z =>
   cases e
   refine ⟨x,z.length,rfl,?_,aK k⟩
   rw [show x=.str z from r1.1]
   exact ⟨LIM_le (dR r1.2),rfl⟩
  | scr ns =>
   obtain ⟨a,hx,hL,hs⟩:=r1
   cases e
   refine ⟨x,ns.length,rfl,?_,aK k⟩
   rw [show x=.ref a from hx]
   exact .inl ⟨_,hs.sq,by rw [a0g]⟩
  | _=>cases e
theorem jm {Z:Fp}{H:Hp}{G:Fp}{m:Md}:∀ ns:List Int,RepL K Z H m (ns.map T.int) (ns.map V.int) G
 | []=>rfl
 | n::ns=>⟨.int n,ns.map V.int,no,no,rfl,fun _ z=>z.elim,fun _ z=>z.elim,fun _ z=>z.elim,rfl,jm ns⟩
end
end MR
namespace MR
open L2 L3 M
open PySem (Addr Str sizeLine)
section
variable {K:a0a}{sl:Cf}{sf:Nat->Option Nat}{C:Call}{σ:L2.St}{Z Z' Z1:Fp}{H H' H1:Hp}{Fs Fs' Fs1:Fps}{η η' η1:Env}{G G' R F:Fp}
mutual
theorem Rep.sany:∀ {t:T} {v:V} {G G':Fp},Rep K Z H .s t v G->Rep K Z H .s t v G'
 | .non,_,_,_,h=>h
 | .bl _,_,_,_,h=>h
 | .int _,_,_,_,h=>h
 | .str _,_,_,_,h=>h
 | .scr _,_,_,_,h=>h
 | .tup ts,_,_,_,⟨a,xs,e,q,l,r⟩=>⟨a,xs,e,q,l,RepL.sany r⟩
 | .lst ts,_,_,_,⟨a,xs,e,l,q,r⟩=>⟨a,xs,e,l,q,RepL.sany r⟩
 | .dct _ _,_,_,_,⟨a,xs,e,l,q,n,hl,r⟩=>⟨a,xs,e,l,q,n,hl,r⟩
 | .ins _ _ _,_,_,_,h=>h
 | .gone,_,_,_,h=>h
theorem RepL.sany:∀ {ts:List T} {xs:List V} {G G':Fp},RepL K Z H .s ts xs G->RepL K Z H .s ts xs G'
 | [],_,_,_,h=>h
 | t::ts,xs,_,_,⟨x,r,G1,G2,e,h1,h2,hd,p,q⟩=>⟨x,r,no,no,e,fun _ z=>z.elim,fun _ z=>z.elim,fun _ z=>z.elim,Rep.sany p,RepL.sany q⟩
end
theorem aP:∀ (η:Env) (i j:Nat) (o:Option W),rd (wr η i o) j=if j=i/\i < η.length then o else rd η j
 | [],i,j,o=>by simp [wr,rd]
 | p::η,0,0,o=>by simp [wr,rd]
 | p::η,0,j+1,o=>by simp [wr,rd]
 | p::η,i+1,0,o=>by simp [wr,rd]
 | p::η,i+1,j+1,o=>by
  show rd (wr η i o) j=_
  rw [aP η i j o]
  simp [rd]
theorem cO:∀ {η:Env} {i:Nat} {w:W},rd η i=some w->i < η.length
 | [],_,_,h=>by cases h
 | _::_,0,_,_=>by simp
 | _::η,i+1,_,h=>by have:=cO (η:=η) (i:=i) h; simp; exact this
theorem bT (h:∀ a,F a->G a):Step Z H G Z H F:=(Step.refl Z H G).mono (fun _ z=>z) h
theorem n6 {i j:Nat}(hs:sf i=some j)(σ:L2.St)(H:Hp)(Q:VK)(h:wE K sf C (.var i) σ H Q):nT j σ H Q:=by
 obtain ⟨pv,Z,Fs,η,w,η',A,ev,k⟩:=h
 obtain ⟨w',e1,e2⟩:=ai (show ret η ((rd η i).bind look)=_ from ev)
 cases e2
 cases e3:rd η i with
 | none=>rw [e3] at e1; cases e1
 | some u =>
  rw [e3] at e1
  obtain ⟨m,t⟩:=u
  obtain ⟨v,r,hv⟩:=A.env i m t e3
  refine ⟨v,hv.1 j hs,k v Z H Fs no A ?_ (bT fun a ha=>ha.elim id fun z=>z.elim)⟩
  cases m with
  | s=>cases e1; exact r.sany
  | d =>
   have e1':(if t.leaf=true then some (Md.d,t) else none)=some w:=e1
   split at e1'
   ·rename_i hl; cases e1'; exact r.leaf (fun _ _ _ q=>q) hl
   ·cases e1'
  | o m =>
   have e1':(if t.leaf=true then some (Md.d,t) else none)=some w:=e1
   split at e1'
   ·rename_i hl; cases e1'; exact r.leaf (fun _ _ _ q=>q) hl
   ·cases e1'
noncomputable def vH (Fs:Fps)(i:Nat):Fps:=fun j a=>j≠i/\Fs j a
theorem pk {e:E}{i j:Nat}(he:∀ η,evE C e η=ret (del η i) (rd η i))(hs:sf i=some j)(σ:L2.St)(H:Hp)(Q:VK)(h:wE K sf C e σ H Q):nT j σ H Q:=by
 obtain ⟨pv,Z,Fs,η,w,η',A,ev,k⟩:=h
 rw [he] at ev
 obtain ⟨w',e1,e2⟩:=ai ev
 cases e2
 obtain ⟨m,t⟩:=w
 obtain ⟨v,r,hv⟩:=A.env i m t e1
 refine ⟨v,hv.1 j hs,k v Z H (vH Fs i) (Fs i) ⟨⟨fun a ⟨l,h1,h2⟩=>A.gd.own a ⟨l,h2⟩,fun l l' a h1 h2=>A.gd.dis l l' a h1.2 h2.2,A.gd.zal⟩,fun l m' t' e=>?_,fun a ha=>A.gd.own a ⟨i,ha⟩,fun a ha ⟨l,h1,h2⟩=>h1 (A.gd.dis l i a h2 ha),A.lk,A.ln⟩ r (bT fun a ha=>ha.elim (fun ⟨l,h1,h2⟩=>⟨l,h2⟩) fun z=>⟨i,z⟩)⟩
 rw [aP] at e
 split at e
 ·cases e
 ·rename_i hne
  obtain ⟨v',r',hv'⟩:=A.env l m' t' e
  have hli:l≠i:=fun z=>hne ⟨z,cO e1⟩
  exact ⟨v',r'.mono fun a ha=>⟨hli,ha⟩,hv'⟩
theorem fz {t:T}{v:V}(hv:∀ {Z:Fp} {H:Hp},Rep K Z H .d t v no)(σ:L2.St)(H:Hp)(Q:VK)(h:wE K sf C (.cst t) σ H Q):tC v σ H Q:=by
 obtain ⟨pv,Z,Fs,η,w,η',A,ev,k⟩:=h
 cases ev
 exact k v Z H Fs no A hv (bT fun a ha=>ha.elim id fun z=>z.elim)
theorem n8 {b:Bool}{es:List E}(hn:es.length<=LIM)(σ:L2.St)(H:Hp)(Q:VK)(h:wE K sf C (.lst b es) σ H Q):uQ (wL K sf C es) σ H Q:=by
 obtain ⟨pv,Z,Fs,η,w,η',A,ev,k⟩:=h
 obtain ⟨⟨ws,η1⟩,h1,h2⟩:=aa (show (evL C es η).bind (i9 b)=_ from ev)
 cases h2
 refine ⟨pv,Z,Fs,η,ws,_,A,h1,fun vs Z' H' Fs' G B r s=>?_⟩
 have hl:vs.length<=LIM:=by rw [r.length,dC h1]; exact hn
 refine ⟨LIM_le hl,fun p hp=>?_⟩
 cases b with
 | true =>
  obtain ⟨G',g1,g2⟩:=RepW.to (fun u hu=>eE hu) r
  exact bj (m:=(dn ws).up) B.own B.gd.zal g1 hl (by rw [eW]; exact g2) (cW _) (br B s k) hp
 | false =>
  obtain ⟨G',g1,g2⟩:=RepW.to (N:=.s) (fun u hu=>by cases lf u.1 u.2<;>rfl) r
  exact bj (m:=.o .s) B.own B.gd.zal g1 hl g2 (by simp) (br B s k) hp
noncomputable def wT (K:a0a)(sl:Nat->Option Nat)(C:Call)(e:E):TT:=fun σ H Q=>∃ pv Z Fs η w η' b,At K ⟨sl,pv⟩ σ Z H Fs η no/\evE C e η=.ok (w,η')/\aU w.2=some b /\
 ∀ Z' H' Fs',At K ⟨sl,pv⟩ σ Z' H' Fs' η' no->Step Z H (tot Fs) Z' H' (tot Fs')->Q b H'
noncomputable def TrV (K:a0a)(x:V)(H:Hp)(k:Bool):Prop :=
 match x with
 | .non=>k=false
 | .bl b=>k=b
 | .int i=>k=(i != 0)
 | .str y=>y.length<=sizeLine/\k=((y.length:Int) != 0)
 | .ref p=>(∃ xs,SqL K H p xs/\k=!xs.isEmpty)\/(∃ xs,SqT K H p xs/\k=!xs.isEmpty)
 | _=>False
theorem bq {α β:Type}{xs:List α}{ys:List β}(h:xs.length=ys.length):xs.isEmpty=ys.isEmpty:=by
 cases xs<;>cases ys<;>first | rfl | simp at h
theorem gN {m:Md}{t:T}{v:V}{b:Bool}(e:aU t=some b)(r:Rep K Z H m t v G):TrV K v H b:=by
 cases t with
 | non=>cases e; rw [show v=_ from r]; rfl
 | bl c=>cases e; rw [show v=_ from r]; rfl
 | int i=>cases e; rw [show v=_ from r]; rfl
 | str x =>
  cases e; rw [show v=_ from r.1]
  refine ⟨LIM_le (dR r.2),?_⟩
  show (x.cps.size != 0)=(((x.cps.size:Nat):Int) != 0)
  cases x.cps.size with
  | zero=>rfl
  | succ n=>simp; omega
 | tup ts =>
  obtain ⟨a,xs,rfl,hs,hl,p⟩:=bC r
  cases e
  exact .inr ⟨xs,hs,by rw [bq p.length]⟩
 | lst ts =>
  obtain ⟨a,xs,rfl,hs,hl,p⟩:=bg r
  cases e
  exact .inl ⟨xs,.inl (.inl hs),by rw [bq p.length]⟩
 | scr ns =>
  obtain ⟨a,rfl,hL,hs⟩:=r
  cases e
  exact .inl ⟨_,hs.sq,by rw [bq (a0g ..)]⟩
 | dct _ _=>cases e
 | ins _ _ _=>cases e
 | gone=>cases e
theorem kI {e:E}{w:W}{b:Bool}{Q:Bool->Hp->Prop}(A:At K sl σ Z H Fs η no)(ev:evE C e η=.ok (w,η'))(ht:aU w.2=some b)(k:∀ Z' H' Fs',At K sl σ Z' H' Fs' η' no->Step Z H (tot Fs) Z' H' (tot Fs')->Q b H'):wT K sl.sl C e σ H Q:=⟨sl.pv,Z,Fs,η,w,η',b,A,ev,ht,k⟩
theorem bh {α:Type}{f g:Env->Res α}{p:W×Env}{r:α}(h:onT f g p=.ok r):∃ b,aU p.1.2=some b/\(if b=true then f p.2 else g p.2)=.ok r:=by
 unfold onT at h
 split at h
 ·rename_i e; exact ⟨true,e,h⟩
 ·rename_i e; exact ⟨false,e,h⟩
 ·cases h
theorem pW {e:E}(σ:L2.St)(H:Hp)(Q:Bool->Hp->Prop)(h:wT K sf C (.not e) σ H Q):sL (wT K sf C e) σ H Q:=by
 obtain ⟨pv,Z,Fs,η,w,η',b,A,ev,ht,k⟩:=h
 obtain ⟨⟨u,η1⟩,h1,h2⟩:=aa (show (evE C e η).bind jk=_ from ev)
 obtain ⟨w',e1,e2⟩:=ai (show ret η1 ((aU u.2).map fun b=>((.d,.bl (!b)):W))=_ from h2)
 cases e2
 cases e3:aU u.2 with
 | none=>rw [e3] at e1; cases e1
 | some c =>
  rw [e3] at e1; cases e1
  have:b=!c:=by cases ht; rfl
  subst this
  exact kI A h1 e3 k
theorem r9 {a b:E}(σ:L2.St)(H:Hp)(Q:Bool->Hp->Prop)(h:wT K sf C (.or a b) σ H Q):tOr (wT K sf C a) (wT K sf C b) σ H Q:=by
 obtain ⟨pv,Z,Fs,η,w,η',c,A,ev,ht,k⟩:=h
 obtain ⟨⟨u,η1⟩,h1,h2⟩:=aa (show (evE C a η).bind (kOr (evE C b))=_ from ev)
 obtain ⟨d,h3,h4⟩:=bh (show onT (okW u) (evE C b) (u,η1)=_ from h2)
 refine kI A h1 h3 fun Z1 H1 Fs1 A1 s1=>?_
 cases d with
 | false=>rw [if_neg a0m] at h4 ⊢; exact kI A1 h4 ht fun Z2 H2 Fs2 A2 s2=>k Z2 H2 Fs2 A2 (s1.trans s2)
 | true =>
  rw [if_pos rfl] at h4 ⊢
  cases h4
  cases (h3.symm.trans ht)
  exact k Z1 H1 Fs1 A1 s1
theorem nY {c a b:E}(σ:L2.St)(H:Hp)(Q:VK)(h:wE K sf C (.ifx c a b) σ H Q):tIf (wT K sf C c) (wE K sf C a) (wE K sf C b) σ H Q:=by
 obtain ⟨pv,Z,Fs,η,w,η',A,ev,k⟩:=h
 obtain ⟨⟨u,η1⟩,h1,h2⟩:=aa (show (evE C c η).bind (onT (evE C a) (evE C b))=_ from ev)
 obtain ⟨d,h3,h4⟩:=bh h2
 refine kI A h1 h3 fun Z1 H1 Fs1 A1 s1=>?_
 cases d with
 | true=>rw [if_pos rfl] at h4 ⊢; exact ⟨pv,Z1,Fs1,η1,w,η',A1,h4,fun v Z' H' Fs' G B r s=>k v Z' H' Fs' G B r (s1.trans s)⟩
 | false=>rw [if_neg a0m] at h4 ⊢; exact ⟨pv,Z1,Fs1,η1,w,η',A1,h4,fun v Z' H' Fs' G B r s=>k v Z' H' Fs' G B r (s1.trans s)⟩
end
end MR
namespace MR
open L2 L3 M
open PySem (Addr Str sizeLine)
section
variable {K:a0a}{sl:Cf}{sf:Nat->Option Nat}{C:Call}{σ:L2.St}{Z Z' Z1:Fp}{H H' H1:Hp}{Fs Fs' Fs1:Fps}{η η' η1:Env}{G G' R F:Fp}
structure Wk (K:a0a)(J:It)(Z:Fp)(H0:Hp)(ts:List (List W)):Prop where
 go:∀ H i,Stay Z H0 H->i < ts.length->J.go i H
 stop:∀ H i,Stay Z H0 H->ts.length<=i->J.stop i H
 len:ts.length<=LIM
noncomputable def iK (K:a0a)(J:It)(Z:Fp)(H0:Hp)(ts:List (List W)):Prop :=
 ∀ H i x H',Stay Z H0 H->i < ts.length->J.yld i H x H'->H'=H/\∃ w,ts[i]?=some [w]/\Rep K Z H w.1 w.2 x no
noncomputable def vq (K:a0a)(J:It)(Z:Fp)(H0:Hp)(ts:List (List W)):Prop :=
 ∀ H i x H',Stay Z H0 H->i < ts.length->J.yld i H x H'->∃ p y z u w,x=.ref p/\(∀ b o,H b=some o->H' b=some o)/\SqT K H' p [y,z]/\ts[i]?=some [u,w]/\Rep K Z H u.1 u.2 y no/\Rep K Z H w.1 w.2 z no
theorem d7 (same:∀ b o,H b=some o->H' b=some o):Stay Z H H':=by
 refine ⟨fun a o _ e=>same a o e,fun a ys e=>?_,fun a o u e=>same a _ e⟩
 rcases e with e | ⟨u,e⟩
 ·exact .inl (same a _ e)
 ·exact .inr ⟨u,same a _ e⟩
theorem cx (same:∀ a o,H a=some o->H' a=some o):Step Z H G Z H' G:=by
 have al:∀ a,H a≠none->H' a≠none:=fun a h=>by
  cases e:H a with
  | none=>exact absurd e h
  | some o=>rw [same a o e]; simp
 exact ⟨fun a o h _=>same a o h,fun _ h=>h,fun _ h=>.inl h,fun _ h=>.inl h,al,fun z a h=>al a (z a h)⟩
noncomputable def Yld (K:a0a)(J:It)(Z:Fp)(H0:Hp)(ts:List (List W)):Nat->Prop
 | 1=>iK K J Z H0 ts
 | 2=>vq K J Z H0 ts
 | _=>False
noncomputable def wI (K:a0a)(sl:Nat->Option Nat)(C:Call)(n:Nat)(k:Ik)(src:List E):TI:=fun σ H R=>∃ pv Z Fs η ws η' ts,At K ⟨sl,pv⟩ σ Z H Fs η no/\evL C src η=.ok (ws,η')/\aQ k ws=some ts /\
 ∀ J Z' H' Fs',At K ⟨sl,pv⟩ σ Z' H' Fs' η' no->Step Z H (tot Fs) Z' H' (tot Fs')->Wk K J Z' H' ts->Yld K J Z' H' ts n->R J H'
theorem At.freeze (A:At K sl σ Z H Fs η G):At K sl σ (fun a=>Z a\/G a) H Fs η no:=by
 refine ⟨⟨fun a ha=>⟨fun z=>z.elim (A.gd.own a ha).1 fun q=>A.dis a q ha,(A.gd.own a ha).2⟩,A.gd.dis,fun a h=>h.elim (A.gd.zal a) fun q=>?_⟩,fun i m t e=>?_,a6,fun _ z=>z.elim,A.lk,A.ln⟩
 ·obtain ⟨_,xs,e⟩:=A.own a q
  rw [e]; simp
 ·obtain ⟨v,r,h⟩:=A.env i m t e
  exact ⟨v,r.zmono fun a h=>.inl h,h⟩
theorem aX (o:Own Z' H' G)(s:Step Z H F Z' H' (fun a=>F' a\/G a)):Step Z H F (fun a=>Z' a\/G a) H' F' where
 keep:=s.keep
 zm:=fun a h=>.inl (s.zm a h)
 zn:=fun a h=>h.elim (s.zn a) fun q=>.inr (s.fn a (.inr q))
 fn:=fun a h=>s.fn a (.inl h)
 al:=s.al
 za:=fun z a h=>h.elim (s.za z a) fun q=>by
  obtain ⟨_,xs,e⟩:=o a q
  rw [e]; simp
theorem dY {a:Addr}{xs:List V}{H0:Hp}(s:Stay Z H0 H)(hz:Z a)(h:H0 a=some (.lst xs)):SqL K H a xs:=.inl (.inl (s.1 a _ hz h))
theorem kQ {a:Addr}{xs:List V}{ts:List T}(hL:xs.length<=LIM)(hz:Z a)(h:H a=some (.lst xs))(r:RepL K Z H .s ts xs no):Wk K (Itl K a) Z H (ts.map fun t=>[(.s,t)])/\iK K (Itl K a) Z H (ts.map fun t=>[(.s,t)]):=by
 have hl:=r.length
 refine ⟨⟨fun H' i s hi=>?_,fun H' i s hi=>?_,by rw [a0g]; omega⟩,fun H' i x H'' s hi y=>?_⟩
 ·rw [a0g] at hi
  exact ⟨xs,xs[i]'(by omega),dY s hz h,by simp⟩
 ·rw [a0g] at hi
  exact ⟨xs,dY s hz h,by omega⟩
 ·rw [a0g] at hi
  obtain ⟨rfl,y⟩:=y
  have hx:=y xs (dY s hz h)
  obtain ⟨x',hx',rx⟩:=r.get (show ts[i]?=some ts[i] by simp)
  rw [hx] at hx'; cases hx'
  refine ⟨rfl,(.s,ts[i]),by rw [a0w,show ts[i]?=some ts[i] by simp]; rfl,rx.keep s (fun _ z=>z) fun _ _ z=>z.elim⟩
theorem qC {a:Addr}{xs:List V}{ts:List T}(hL:xs.length<=LIM)(h:SqT K H a xs)(r:RepL K Z H .s ts xs no):Wk K (Itt K a) Z H (ts.map fun t=>[(.s,t)])/\iK K (Itt K a) Z H (ts.map fun t=>[(.s,t)]):=by
 have hl:=r.length
 refine ⟨⟨fun H' i s hi=>?_,fun H' i s hi=>?_,by rw [a0g]; omega⟩,fun H' i x H'' s hi y=>?_⟩
 ·rw [a0g] at hi
  exact ⟨xs,xs[i]'(by omega),s.sqt h,by simp⟩
 ·rw [a0g] at hi
  exact ⟨xs,s.sqt h,by omega⟩
 ·rw [a0g] at hi
  obtain ⟨rfl,y⟩:=y
  have hx:=y xs (s.sqt h)
  obtain ⟨x',hx',rx⟩:=r.get (show ts[i]?=some ts[i] by simp)
  rw [hx] at hx'; cases hx'
  refine ⟨rfl,(.s,ts[i]),by rw [a0w,show ts[i]?=some ts[i] by simp]; rfl,rx.keep s (fun _ z=>z) fun _ _ z=>z.elim⟩
theorem o9 {lo:Int}{n:Nat}(hL:n<=LIM):Wk K (Itr lo n) Z H ((a0D n).map fun (k:Nat)=>[(.d,.int (lo+k))])/\iK K (Itr lo n) Z H ((a0D n).map fun (k:Nat)=>[(.d,.int (lo+k))]):=by
 refine ⟨⟨fun H' i s hi=>by show i < n; simpa using hi,fun H' i s hi=>by show n<=i; simpa using hi,by simpa using hL⟩,fun H' i x H'' s hi y=>?_⟩
 obtain ⟨rfl,rfl⟩:=y
 refine ⟨rfl,(.d,.int (lo+i)),?_,rfl⟩
 rw [a0g,List.length_range] at hi
 rw [a0w,List.getElem?_range hi]
 rfl
theorem eZ {a:Addr}{ns:List Int}{H0:Hp}(s:Stay Z H0 H)(h:ScrR K H0 a ns):SqL K H a (ns.map V.int):=(h.keep s.2.2).sq
theorem qS {a:Addr}{ns:List Int}(hL:ns.length<=LIM)(h:ScrR K H a ns):Wk K (Itl K a) Z H (ns.map fun n=>[(.d,.int n)])/\iK K (Itl K a) Z H (ns.map fun n=>[(.d,.int n)]):=by
 refine ⟨⟨fun H' i s hi=>?_,fun H' i s hi=>?_,by rw [a0g]; exact hL⟩,fun H' i x H'' s hi y=>?_⟩
 ·rw [a0g] at hi
  exact ⟨_,(ns.map V.int)[i]'(by rw [a0g]; exact hi),eZ s h,by simp⟩
 ·rw [a0g] at hi
  exact ⟨_,eZ s h,by rw [a0g]; exact hi⟩
 ·rw [a0g] at hi
  obtain ⟨rfl,y⟩:=y
  have hx:=y _ (eZ s h)
  refine ⟨rfl,(.d,.int ns[i]),by rw [a0w,show ns[i]?=some ns[i] by simp]; rfl,?_⟩
  rw [a0w,show ns[i]?=some ns[i] by simp] at hx
  exact (a0q hx).symm
theorem qv {e:E}(σ:L2.St)(H:Hp)(R:It->Hp->Prop)(h:wI K sf C 1 .seq [e] σ H R):ni K (wE K sf C e) σ H R\/uX K (wE K sf C e) σ H R:=by
 obtain ⟨pv,Z,Fs,η,ws,η',ts,A,ev,ht,k⟩:=h
 obtain ⟨⟨m,a⟩,η1,us,e1,e2,rfl⟩:=az ev
 cases e2
 cases a with
 | lst ts' =>
  cases ht
  refine .inl ⟨pv,Z,Fs,η,_,_,A,e1,fun v Z' H' Fs' G B r s=>?_⟩
  obtain ⟨a,xs,rfl,l,q,p⟩:=Rep.sh r
  obtain ⟨w1,w2⟩:=kQ l q.1 q.2 p.sany
  exact ⟨a,rfl,⟨xs,.inl (.inl q.2)⟩,k _ _ H' Fs' B.freeze (aX B.own s) w1 w2⟩
 | tup ts' =>
  cases ht
  refine .inr ⟨pv,Z,Fs,η,_,_,A,e1,fun v Z' H' Fs' G B r s=>?_⟩
  obtain ⟨a,xs,rfl,q,l,p⟩:=Rep.sh r
  obtain ⟨w1,w2⟩:=qC l q p.sany
  exact ⟨a,rfl,⟨xs,q⟩,k _ _ H' Fs' B.freeze (aX B.own s) w1 w2⟩
 | scr ns =>
  cases ht
  refine .inl ⟨pv,Z,Fs,η,_,_,A,e1,fun v Z' H' Fs' G B r s=>?_⟩
  obtain ⟨a,rfl,hl,q⟩:=r
  obtain ⟨w1,w2⟩:=qS (Z:=fun a=>Z' a\/G a) hl q
  exact ⟨a,rfl,⟨_,q.sq⟩,k _ _ H' Fs' B.freeze (aX B.own s) w1 w2⟩
 | _=>cases ht
theorem p62:(2:Int) ^ 62=4611686018427387904:=by decide
theorem lr {e:E}(σ:L2.St)(H:Hp)(R:It->Hp->Prop)(h:wI K sf C 1 .rng [e] σ H R):mZ (wL K sf C [e]) σ H R:=by
 obtain ⟨pv,Z,Fs,η,ws,η',ts,A,ev,ht,k⟩:=h
 refine ⟨pv,Z,Fs,η,ws,η',A,ev,fun vs Z' H' Fs' G B r s=>?_⟩
 obtain ⟨⟨m,a⟩,η1,us,e1,e2,rfl⟩:=az ev
 cases e2
 obtain ⟨x,rfl,r1⟩:=bu rfl r
 cases a with
 | int n =>
  rw [il] at ht
  split at ht
  ·rename_i hc
   rw [a0d,decide_eq_true_eq] at hc
   cases ht
   refine ⟨n,by rw [show x=_ from r1],by rw [p62]; omega,by rw [p62]; omega,?_⟩
   obtain ⟨w1,w2⟩:=o9 (K:=K) (Z:=fun a=>Z' a\/G a) (H:=H') (lo:=0) (n:=n.toNat) (bw hc.2)
   have hz:∀ k:Nat,(0:Int)+(k:Int)=k:=fun k=>by omega
   simp only [hz] at w1 w2
   exact k _ _ H' Fs' B.freeze (aX B.own s) w1 w2
  ·cases ht
 | _=>cases ht
end
end MR
namespace MR
open L2 L3 M
open PySem (Addr Str sizeLine)
section
variable {K:a0a}{sl:Cf}{sf sg:Nat->Option Nat}{C:Call}{σ σ2:L2.St}{Z Z' Z1:Fp}{H H' H1:Hp}{Fs Fs' Fs1:Fps}{η η' η1:Env}{G G' R F:Fp}{tg is:List Nat}{pv val:Nat->Option V}
theorem aj:∀ (tg:List Nat) (η:Env) (i:Nat),rd (af tg η) i=if i∈tg then none else rd η i
 | [],η,i=>by simp [af]
 | t::tg,η,i=>by
  show rd (af tg (wr η t none)) i=_
  rw [aj tg,aP]
  by_cases h1:i∈tg
  ·simp [h1]
  ·by_cases h2:i=t
   ·subst h2
    rw [if_neg h1,if_pos a0e]
    split
    ·rfl
    ·rename_i hn
     cases e:rd η i with
     | none=>rfl
     | some w=>exact absurd ⟨rfl,cO e⟩ hn
   ·rw [if_neg h1,if_neg (show ¬ i∈t::tg by simp [h1,h2]),if_neg (show ¬ (i=t/\t < η.length) from fun h=>h2 h.1)]
noncomputable def Nn (η η':Env):Prop:=∀ i,rd η i=none->rd η' i=none
theorem Nn.refl (η:Env):Nn η η:=fun _ h=>h
theorem Nn.trans {a b c:Env}(h:Nn a b)(k:Nn b c):Nn a c:=fun i e=>k i (h i e)
theorem dP (η:Env)(j:Nat):Nn η (del η j):=fun i e=>by
 rw [aP]; split
 ·rfl
 ·exact e
theorem fB {η:Env}{j:Nat}{w:W}(h:rd η j≠none):Nn η (put η j w):=fun i e=>by
 rw [aP]; split
 ·rename_i hc; rw [<- hc.1] at h; exact absurd e h
 ·exact e
theorem bU:∀ {is:List Nat} {ws:List W} {η0 η:Env},(∀ i∈is,rd η0 i≠none)->Nn η0 η->Nn η0 (putAll is ws η)
 | [],_,_,_,_,h=>h
 | _::_,[],_,_,_,h=>h
 | i::is,w::ws,η0,η,hi,h=>by
  show Nn η0 (putAll is ws (put η i w))
  refine bU (fun j hj=>hi j (a0f _ hj)) fun j e=>?_
  rw [aP]; split
  ·rename_i hc; rw [hc.1] at e; exact absurd e (hi i a0e)
  ·exact h j e
theorem bH {f:Env->Res (Option W×Env)}(hf:∀ {η o η'},f η=.ok (o,η')->Nn η η'):∀ {ts:List (List W)} {η η':Env} {acc ws:List W},(∀ i∈tg,rd η i=none)->aH tg f ts η acc=.ok (ws,η')->Nn η η'
 | [],η,η',acc,ws,_,h=>by cases h; exact Nn.refl _
 | t::ts,η,η',acc,ws,ht,h=>by
  obtain ⟨η1,h1,h2⟩:=aa (show (ofO (aI tg t η)).bind (fun η1=>(f η1).bind fun p=>aH tg f ts (af tg p.2) (acc++p.1.toList))=_ from h)
  obtain ⟨⟨o,η2⟩,h3,h4⟩:=aa h2
  have hb:∀ {tg:List Nat} {t:List W} {η η1:Env},aI tg t η=some η1->∀ i,i ∉ tg->rd η1 i=rd η i:=fun {tg}=>by
   induction tg with
   | nil=>intro t η η1 h i hi; cases t with
    | nil=>cases h; rfl
    | cons _ _=>cases h
   | cons j tg ih=>intro t η η1 h i hi; cases t with
    | nil=>cases h
    | cons w t =>
     have:=ih (show aI tg t (put η j w)=some η1 from h) i (fun z=>hi (a0f _ z))
     rw [this,aP,if_neg fun z=>hi (by rw [z.1]; exact a0e)]
  have e1:=hb (bo h1)
  have hd:∀ i,rd η i=none->rd (af tg η2) i=none:=fun i e=>by
   rw [aj]
   split
   ·rfl
   ·rename_i hi
    exact hf h3 i (by rw [e1 i hi]; exact e)
  exact Nn.trans (b:=af tg η2) hd (bH hf (fun i hi=>by rw [aj,if_pos hi]) h4)
noncomputable def dm (sf sg:Nat->Option Nat)(tg:List Nat)(is:List Nat):Prop :=
 ∀ i j,sg i=some j->(∃ k:Nat,tg[k]?=some i/\j=k)\/(i ∉ tg/\∃ (k j0:Nat),j=tg.length+k/\is[k]?=some j0/\sf i=some j0)
theorem At.pin (A:At K ⟨sf,pv⟩ σ Z H Fs η G):∃ val,(∀ i u,pv i=some u->val i=some u)/\At K ⟨sf,val⟩ σ Z H Fs η G/\∀ i m t,rd η i=some (m,t)->val i≠none:=by
 have ch:∀ i,∃ o:Option V,(∀ u,pv i=some u->o=some u)/\(∀ u j,o=some u->sf i=some j->σ[j]?=some (some u))/\∀ m t,rd η i=some (m,t)->∃ v,o=some v/\Rep K Z H m t v (Fs i)/\(∀ j,sf i=some j->σ[j]?=some (some v)):=fun i=>by
  cases e:rd η i with
  | none=>exact ⟨pv i,fun _ h=>h,fun u j h hs=>A.lk i u j h hs,fun _ _ h=>by cases h⟩
  | some w =>
   obtain ⟨m,t⟩:=w
   obtain ⟨v,r,h1,h2⟩:=A.env i m t e
   refine ⟨some v,fun u h=>by rw [h2 u h],fun u j h hs=>?_,fun m' t' h=>by cases h; exact ⟨v,rfl,r,h1⟩⟩
   cases h
   exact h1 j hs
 obtain ⟨val,hval⟩:=Classical.axiomOfChoice ch
 refine ⟨val,fun i u h=>(hval i).1 u h,⟨A.gd,fun i m t e=>?_,A.own,A.dis,fun i u j h hs=>(hval i).2.1 u j h hs,A.ln⟩,fun i m t e=>?_⟩
 ·obtain ⟨v,h1,r,h2⟩:=(hval i).2.2 m t e
  exact ⟨v,r,h2,fun u hu=>by rw [show val i=some u from hu] at h1; cases h1; rfl⟩
 ·obtain ⟨v,h1,r,h2⟩:=(hval i).2.2 m t e
  rw [h1]; simp
theorem At.unpin (h:∀ i u,pv i=some u->val i=some u)(A:At K ⟨sf,val⟩ σ Z H Fs η G):At K ⟨sf,pv⟩ σ Z H Fs η G :=
 ⟨A.gd,fun i m t e=>let ⟨v,r,h1,h2⟩:=A.env i m t e; ⟨v,r,h1,fun u hu=>h2 u (h i u hu)⟩,A.own,A.dis,fun i u j hu hs=>A.lk i u j (h i u hu) hs,A.ln⟩
noncomputable def inV (val:Nat->Option V)(tg:List Nat):Nat->Option V:=fun i=>if i∈tg then none else val i
theorem At.into (I:dm sf sg tg is)(ht:∀ i∈tg,rd η i=none)(hσ:∀ (k j0:Nat) (v:V),is[k]?=some j0->σ[j0]?=some (some v)->σ2[tg.length+k]?=some (some v))(hl:∀ i j,sg i=some j->j < σ2.length)(A:At K ⟨sf,val⟩ σ Z H Fs η G):At K ⟨sg,inV val tg⟩ σ2 Z H Fs η G:=by
 refine ⟨A.gd,fun i m t e=>?_,A.own,A.dis,fun i u j hu hs=>?_,hl⟩
 ·have hi:i ∉ tg:=fun h=>by rw [ht i h] at e; cases e
  obtain ⟨v,r,h1,h2⟩:=A.env i m t e
  refine ⟨v,r,fun j hj=>?_,fun u hu=>h2 u (by have h3:inV val tg i=some u:=hu; unfold inV at h3; rw [if_neg hi] at h3; exact h3)⟩
  rcases I i j hj with ⟨k,hk,_⟩ | ⟨_,k,j0,rfl,hk,hs⟩
  ·exact absurd (a04 hk) hi
  ·exact hσ k j0 v hk (h1 j0 hs)
 ·have hi:i ∉ tg:=fun h=>by
   have hu':inV val tg i=some u:=hu
   unfold inV at hu'; rw [if_pos h] at hu'; cases hu'
  have hu':val i=some u:=by have h3:inV val tg i=some u:=hu; unfold inV at h3; rw [if_neg hi] at h3; exact h3
  rcases I i j hs with ⟨k,hk,_⟩ | ⟨_,k,j0,rfl,hk,hs⟩
  ·exact absurd (a04 hk) hi
  ·exact hσ k j0 u hk (A.lk i u j0 hu' hs)
theorem At.outof (ht:∀ i∈tg,rd η i=none)(hv:∀ i m t,rd η i=some (m,t)->val i≠none)(lk:∀ i u j,val i=some u->sf i=some j->σ[j]?=some (some u))(ln:∀ i j,sf i=some j->j < σ.length)(A:At K ⟨sg,inV val tg⟩ σ2 Z H Fs η G):At K ⟨sf,val⟩ σ Z H Fs η G:=by
 refine ⟨A.gd,fun i m t e=>?_,A.own,A.dis,lk,ln⟩
 have hi:i ∉ tg:=fun h=>by rw [ht i h] at e; cases e
 obtain ⟨v,r,h1,h2⟩:=A.env i m t e
 cases hu:val i with
 | none=>exact absurd hu (hv i m t e)
 | some u =>
  have:v=u:=h2 u (by show inV val tg i=some u; unfold inV; rw [if_neg hi]; exact hu)
  subst this
  exact ⟨v,r,fun j hj=>lk i v j hu hj,fun u' hu'=>by rw [show val i=some u' from hu'] at hu; cases hu; rfl⟩
end
section
variable {C:Call}
theorem cK:∀ (vs:List Nat) (η:Env),Nn η (M.share vs η)
 | [],η=>fun _ e=>e
 | v::vs,η=>Nn.trans (b:=wr η v (toS (rd η v))) (fun i e=>by
   rw [aP]; split
   ·rename_i hc; rw [<- hc.1,e]; rfl
   ·exact e) (cK vs _)
theorem iT (m:Md)(vs:List Nat)(η:Env):Nn η (after m vs η):=by
 cases m with
 | d=>exact fun _ e=>e
 | s=>exact cK vs η
 | o _=>exact cK vs η
theorem et {α:Type}{tab:List (Str×α)}{f:α->Env->RE}{p:W×Env}{r:W×Env}(h:gZ tab f p=.ok r):∃ x a,p.1.2=.str x/\tab.lookup x=some a/\f a p.2=.ok r:=by
 unfold gZ at h
 split at h
 ·rename_i x hx
  split at h
  ·rename_i a ha; exact ⟨x,a,hx,ha,h⟩
  ·cases h
 ·cases h
theorem lA {neg:Bool}{ks:List Str}{p r:W×Env}(h:kIn neg ks p=.ok r):∃ x,p.1.2=.str x/\r.2=p.2/\r.1=(.d,.bl (ks.contains x != neg)):=by
 unfold kIn at h
 split at h
 ·rename_i x hx; cases h; exact ⟨x,hx,rfl,rfl⟩
 ·cases h
theorem jq {tab:List (Str×T)}{p r:W×Env}(h:mL tab p=.ok r):∃ x,p.1.2=.str x/\r.2=p.2/\r.1=(.s,(tab.lookup x).getD .non):=by
 unfold mL at h
 split at h
 ·rename_i x hx; cases h; exact ⟨x,hx,rfl,rfl⟩
 ·cases h
mutual
theorem ah:∀ (e:E) {η η':Env} {w:W},evE C e η=.ok (w,η')->Nn η η'
 | .var i,η,η',w,h=>by obtain ⟨_,_,e⟩:=ai (show ret η ((rd η i).bind look)=_ from h); cases e; exact Nn.refl _
 | .mv i,η,η',w,h=>by obtain ⟨_,_,e⟩:=ai (show ret (del η i) (rd η i)=_ from h); cases e; exact dP _ _
 | .io i,η,η',w,h=>by obtain ⟨_,_,e⟩:=ai (show ret (del η i) (rd η i)=_ from h); cases e; exact dP _ _
 | .cst t,η,η',w,h=>by cases h; exact Nn.refl _
 | .glb _ t,η,η',w,h=>by cases h; exact Nn.refl _
 | .tup es,η,η',w,h=>by
  obtain ⟨⟨ws,η1⟩,h1,h2⟩:=aa (show (evL C es η).bind gM=_ from h)
  cases h2; exact bF es h1
 | .lst b es,η,η',w,h=>by
  obtain ⟨⟨ws,η1⟩,h1,h2⟩:=aa (show (evL C es η).bind (i9 b)=_ from h)
  cases h2; exact bF es h1
 | .wk m e,η,η',w,h=>by
  obtain ⟨⟨u,η1⟩,h1,h2⟩:=aa (show (evE C e η).bind (kWk m)=_ from h)
  obtain ⟨_,_,e3⟩:=ai (show ret η1 _=_ from h2)
  cases e3; exact ah e h1
 | .op o b es,η,η',w,h=>by
  obtain ⟨ws,h1,h2⟩:=bp h
  exact bF es h1
 | .and a b,η,η',w,h=>by
  obtain ⟨⟨u,η1⟩,h1,h2⟩:=aa (show (evE C a η).bind (lB (evE C b))=_ from h)
  obtain ⟨d,h3,h4⟩:=bh (show onT (evE C b) (okW u) (u,η1)=_ from h2)
  cases d with
  | true=>rw [if_pos rfl] at h4; exact (ah a h1).trans (ah b h4)
  | false=>rw [if_neg a0m] at h4; cases h4; exact ah a h1
 | .or a b,η,η',w,h=>by
  obtain ⟨⟨u,η1⟩,h1,h2⟩:=aa (show (evE C a η).bind (kOr (evE C b))=_ from h)
  obtain ⟨d,h3,h4⟩:=bh (show onT (okW u) (evE C b) (u,η1)=_ from h2)
  cases d with
  | false=>rw [if_neg a0m] at h4; exact (ah a h1).trans (ah b h4)
  | true=>rw [if_pos rfl] at h4; cases h4; exact ah a h1
 | .not a,η,η',w,h=>by
  obtain ⟨⟨u,η1⟩,h1,h2⟩:=aa (show (evE C a η).bind jk=_ from h)
  obtain ⟨_,_,e3⟩:=ai (show ret η1 _=_ from h2)
  cases e3; exact ah a h1
 | .ifx c a b,η,η',w,h=>by
  obtain ⟨⟨u,η1⟩,h1,h2⟩:=aa (show (evE C c η).bind (onT (evE C a) (evE C b))=_ from h)
  obtain ⟨d,h3,h4⟩:=bh h2
  cases d with
  | true=>rw [if_pos rfl] at h4; exact (ah c h1).trans (ah a h4)
  | false=>rw [if_neg a0m] at h4; exact (ah c h1).trans (ah b h4)
 | .chain o q a b c,η,η',w,h=>by
  obtain ⟨⟨x,η1⟩,h1,h2⟩:=aa (show (evE C a η).bind (kC1 o q (evE C b) (evE C c))=_ from h)
  obtain ⟨⟨y,η2⟩,h3,h4⟩:=aa (show (evE C b η1).bind (kC2 o q (evE C c) x)=_ from h2)
  obtain ⟨⟨k,η3⟩,h5,h6⟩:=aa (show (ret η2 (oSem o false [x,y])).bind (fun k=>onB k.1.2 (fW (evE C c) (kC3 q y)) (okW (.d,.bl false)) k.2)=_ from h4)
  obtain ⟨k',_,e5⟩:=ai h5
  have e6:η3=η2:=congrArg a1q e5
  have n2:=(ah a h1).trans (ah b h3)
  have h6':onB k.2 (fW (evE C c) (kC3 q y)) (okW (.d,.bl false)) η2=.ok (w,η'):=by rw [<- e6]; exact h6
  generalize k.2=kk at h6'
  cases kk with
  | bl b =>
   cases b with
   | true =>
    obtain ⟨⟨z,η4⟩,h7,h8⟩:=aa (show (evE C c η2).bind (kC3 q y)=_ from h6')
    obtain ⟨z',_,e8⟩:=ai (show ret η4 (oSem q false [y,z])=_ from h8)
    have e9:η'=η4:=congrArg a1q e8
    rw [e9]
    exact n2.trans (ah c h7)
   | false=>cases h6'; exact n2
  | _=>cases h6'
 | .call f es,η,η',w,h=>by
  obtain ⟨⟨ws,η1⟩,h1,h2⟩:=aa (show (evA C es η).bind (cR C f (ios es))=_ from h)
  obtain ⟨⟨u,us⟩,h3,h4⟩:=aa (show (C f ws).bind (eB (ios es) η1)=_ from h2)
  cases h4
  exact bU (cI es h1) (bZ es h1)
 | .comp b k src tg none elt,η,η',w,h=>by
  obtain ⟨⟨ws,η1⟩,h1,h2⟩:=aa (show (evL C src η).bind (bP b k tg (b6 (evE C elt)))=_ from h)
  obtain ⟨⟨ts,η2⟩,h3,h4⟩:=aa (show (ret (af tg η1) (aQ k ws)).bind (fun t=>(aH tg (b6 (evE C elt)) t.1 t.2 []).bind (cV b))=_ from h2)
  obtain ⟨_,_,e3⟩:=ai h3
  have e4:η2=af tg η1:=congrArg a1q e3
  subst e4
  obtain ⟨⟨us,η3⟩,h5,h6⟩:=aa (show (aH tg (b6 (evE C elt)) ts (af tg η1) []).bind (cV b)=_ from h4)
  obtain ⟨_,_,e6⟩:=ai (show ret η3 _=_ from h6)
  have e7:η'=η3:=congrArg a1q e6
  subst e7
  refine (bF src h1).trans (Nn.trans (b:=af tg η1) (fun i e=>by rw [aj]; split<;>first | rfl | exact e) (bH (fun {η o η'} hf=>?_) (fun i hi=>by rw [aj,if_pos hi]) h5))
  obtain ⟨⟨u,η4⟩,h7,h8⟩:=aa (show (evE C elt η).bind cH=_ from hf)
  cases h8
  exact ah elt h7
 | .comp b k src tg (some c) elt,η,η',w,h=>by
  obtain ⟨⟨ws,η1⟩,h1,h2⟩:=aa (show (evL C src η).bind (bP b k tg (eA (evE C c) (evE C elt)))=_ from h)
  obtain ⟨⟨ts,η2⟩,h3,h4⟩:=aa (show (ret (af tg η1) (aQ k ws)).bind (fun t=>(aH tg (eA (evE C c) (evE C elt)) t.1 t.2 []).bind (cV b))=_ from h2)
  obtain ⟨_,_,e3⟩:=ai h3
  have e4:η2=af tg η1:=congrArg a1q e3
  subst e4
  obtain ⟨⟨us,η3⟩,h5,h6⟩:=aa (show (aH tg (eA (evE C c) (evE C elt)) ts (af tg η1) []).bind (cV b)=_ from h4)
  obtain ⟨_,_,e6⟩:=ai (show ret η3 _=_ from h6)
  have e7:η'=η3:=congrArg a1q e6
  subst e7
  refine (bF src h1).trans (Nn.trans (b:=af tg η1) (fun i e=>by rw [aj]; split<;>first | rfl | exact e) (bH (fun {η o η'} hf=>?_) (fun i hi=>by rw [aj,if_pos hi]) h5))
  obtain ⟨⟨u,η4⟩,h7,h8⟩:=aa (show (evE C c η).bind (onT (b6 (evE C elt)) (okW none))=_ from hf)
  obtain ⟨d,h9,h10⟩:=bh h8
  cases d with
  | true =>
   rw [if_pos rfl] at h10
   obtain ⟨⟨u2,η5⟩,h11,h12⟩:=aa (show (evE C elt η4).bind cH=_ from h10)
   cases h12
   exact (ah c h7).trans (ah elt h11)
  | false =>
   rw [if_neg a0m] at h10
   cases h10
   exact ah c h7
 | .pop i es,η,η',w,h=>by
  obtain ⟨_,_,h0⟩:=aa (show (bY (rd η i)).bind (kb (evL C es) η (mG i))=_ from h)
  obtain ⟨⟨ws,η1⟩,h1,h2⟩:=aa (show (evL C es η).bind (mG i)=_ from h0)
  obtain ⟨r,h3,h4⟩:=aa (show (ofO ((rd η1 i).bind fun w=>s9 w ws)).bind (fun r=>.ok (r.1,put η1 i r.2))=_ from h2)
  cases h4
  refine (bF es h1).trans (fB ?_)
  have:=bo h3
  intro e; rw [e] at this; cases this
 | .lenV i,η,η',w,h=>by obtain ⟨_,_,e⟩:=ai (show ret η ((rd η i).bind fun w=>oSem .len false [w])=_ from h); cases e; exact Nn.refl _
 | .ixV i j,η,η',w,h=>by obtain ⟨_,_,e⟩:=ai (show ret η (mz (rd η i) (rd η j))=_ from h); cases e; exact Nn.refl _
 | .compV b i t c e,η,η',w,h=>by
  obtain ⟨ts,h1,h2⟩:=aa (show (ofO (vwT (rd η i))).bind (kV1 b i t (eA (evE C c) (evE C e)) η)=_ from h)
  obtain ⟨⟨u,η1⟩,h3,h4⟩:=aa (show ((aH [t] (eA (evE C c) (evE C e)) (ts.map fun u=>[(.s,u)]) (af [t] (del η i)) []).bind (cV b)).bind (kV2 i (rd η i))=_ from h2)
  obtain ⟨⟨us,η2⟩,h5,h6⟩:=aa h3
  obtain ⟨_,_,e6⟩:=ai (show ret η2 _=_ from h6)
  cases e6
  cases h4
  have nc:Nn (af [t] (del η i)) η1:=by
   refine bH (fun {η o η'} hf=>?_) (fun j hj=>by rw [aj,if_pos hj]) h5
   obtain ⟨⟨u,η4⟩,h7,h8⟩:=aa (show (evE C c η).bind (onT (b6 (evE C e)) (okW none))=_ from hf)
   obtain ⟨d,h9,h10⟩:=bh h8
   cases d with
   | true =>
    rw [if_pos rfl] at h10
    obtain ⟨⟨u2,η5⟩,h11,h12⟩:=aa (show (evE C e η4).bind cH=_ from h10)
    cases h12
    exact (ah c h7).trans (ah e h11)
   | false =>
    rw [if_neg a0m] at h10
    cases h10
    exact ah c h7
  intro j e
  rw [aP]
  split
  ·rename_i hc
   rw [<- hc.1]; exact e
  ·refine nc j ?_
   rw [aj]
   split
   ·rfl
   ·exact dP η i j e
 | .popN i e,η,η',w,h=>by
  obtain ⟨_,_,h0⟩:=aa (show (bY (rd η i)).bind (dH (evE C e) η (jJ i))=_ from h)
  obtain ⟨⟨u,η1⟩,h1,h2⟩:=aa (show (evE C e η).bind (jJ i)=_ from h0)
  obtain ⟨r,h3,h4⟩:=aa (show (ofO ((rd η1 i).bind fun w=>nv w u)).bind (fun r=>.ok (r.1,put η1 i r.2))=_ from h2)
  cases h4
  refine (ah e h1).trans (fB ?_)
  have:=bo h3
  intro e; rw [e] at this; cases this
 | .ixQ i e,η,η',w,h=>by
  obtain ⟨_,_,h0⟩:=aa (show (bY (rd η i)).bind (dH (evE C e) η (pB i))=_ from h)
  obtain ⟨⟨u,η1⟩,h1,h2⟩:=aa (show (evE C e η).bind (pB i)=_ from h0)
  obtain ⟨_,_,e2⟩:=ai (show ret η1 (mz (rd η1 i) (some u))=_ from h2)
  cases e2
  exact ah e h1
 | .tupA es,η,η',w,h=>by
  obtain ⟨⟨ws,η1⟩,h1,h2⟩:=aa (show (evA C es η).bind gM=_ from h)
  cases h2; exact bZ es h1
 | .qx vs ls e,η,η',w,h=>by
  obtain ⟨⟨u,η1⟩,h1,h2⟩:=aa (show (evE C e (bK vs ls η)).bind (kX vs η)=_ from h)
  cases h2
  exact iT _ vs η
 | .mvP i p,η,η',w,h=>by
  obtain ⟨r,h1,h2⟩:=aa (show (ofO ((rd η i).bind (nL p))).bind (uR i η)=_ from h)
  cases h2
  refine fB fun e=>?_
  have:=bo h1
  rw [e] at this; cases this
 | .callT tab k es,η,η',w,h=>by
  obtain ⟨⟨u,η1⟩,h1,h2⟩:=aa (show (evE C k η).bind (gZ tab (kCT C (evA C es) (ios es)))=_ from h)
  obtain ⟨x,j,_,_,h3⟩:=et h2
  obtain ⟨⟨ws,η2⟩,h4,h5⟩:=aa (show (evA C es η1).bind (cR C j (ios es))=_ from h3)
  obtain ⟨⟨r,bs⟩,h6,h7⟩:=aa (show (C j ws).bind (eB (ios es) η2)=_ from h5)
  cases h7
  exact (ah k h1).trans (bU (cI es h4) (bZ es h4))
 | .inT neg ks e,η,η',w,h=>by
  obtain ⟨⟨u,η1⟩,h1,h2⟩:=aa (show (evE C e η).bind (kIn neg ks)=_ from h)
  obtain ⟨x,_,e2,_⟩:=lA h2
  cases e2; exact ah e h1
 | .ixT tab e,η,η',w,h=>by
  obtain ⟨⟨u,η1⟩,h1,h2⟩:=aa (show (evE C e η).bind (gZ tab okS)=_ from h)
  obtain ⟨x,j,_,_,h3⟩:=et h2
  cases h3; exact ah e h1
 | .getT tab e,η,η',w,h=>by
  obtain ⟨⟨u,η1⟩,h1,h2⟩:=aa (show (evE C e η).bind (mL tab)=_ from h)
  obtain ⟨x,_,e2,_⟩:=jq h2
  cases e2; exact ah e h1
theorem bF:∀ (es:List E) {η η':Env} {ws:List W},evL C es η=.ok (ws,η')->Nn η η'
 | [],η,η',ws,h=>by cases h; exact Nn.refl _
 | e::es,η,η',ws,h=>by
  obtain ⟨w,η1,us,h1,h2,_⟩:=az h
  exact (ah e h1).trans (bF es h2)
theorem bZ:∀ (es:List E) {η η':Env} {ws:List W},evA C es η=.ok (ws,η')->Nn η η'
 | [],η,η',ws,h=>by cases h; exact Nn.refl _
 | e::es,η,η',ws,h=>by
  rcases ud e with ⟨i,hi⟩ | he
  ·subst hi
   obtain ⟨us,η1,w,h1,_,_,h4⟩:=f7 h
   rw [h4]
   exact (bZ es h1).trans (dP _ _)
  ·obtain ⟨w,η1,us,h1,h2,_⟩:=cM he h
   exact (ah e h1).trans (bZ es h2)
theorem cI:∀ (es:List E) {η η':Env} {ws:List W},evA C es η=.ok (ws,η')->∀ i∈ios es,rd η i≠none
 | [],_,_,_,_,i,hi=>by simp [ios] at hi
 | e::es,η,η',ws,h,i,hi=>by
  rcases ud e with ⟨j,hj⟩ | he
  ·subst hj
   obtain ⟨us,η1,w,h1,h2,_,_⟩:=f7 h
   rcases a0Q.mp (show i∈j::ios es from hi) with z | z
   ·subst z
    exact fun z=>by rw [bZ es h1 i z] at h2; cases h2
   ·exact cI es h1 i z
  ·obtain ⟨w,η1,us,h1,h2,_⟩:=cM he h
   have hi':i∈ios es:=by
    cases e with
    | io j=>exact absurd rfl (he j)
    | _=>exact hi
   exact fun z=>cI es h2 i hi' (ah e h1 i z)
end
end
section
variable {K:a0a}{sl:Cf}{sf sg:Nat->Option Nat}{C:Call}{σ σ2:L2.St}{Z Z' Z1:Fp}{H H' H1:Hp}{Fs Fs' Fs1:Fps}{η η' η1 ηb:Env}{G G' R F:Fp}{tg is:List Nat}{pv val:Nat->Option V}
noncomputable def gT (K:a0a):Nat->TG
 | 1=>bN 0
 | 2=>tE K 2 (f6 (bN 0) (f6 (bN 1) ua))
 | _=>fun _ _ _ _=>False
theorem At.put1 {i:Nat}{w:W}{x:V}(A:At K sl σ Z H Fs η G)(r:Rep K Z H w.1 w.2 x (Fs i))(hl:∀ j,sl.sl i=some j->σ[j]?=some (some x))(hp:sl.pv i=none):At K sl σ Z H Fs (put η i w) G:=by
 refine ⟨A.gd,fun j m t e=>?_,A.own,A.dis,A.lk,A.ln⟩
 rw [aP] at e
 split at e
 ·rename_i hc
  cases e
  obtain ⟨rfl,_⟩:=hc
  exact ⟨x,r,hl,fun u hu=>by rw [hp] at hu; cases hu⟩
 ·exact A.env j m t e
theorem ez {k j0:Nat}{v:V}(h1:is[k]?=some j0)(h2:σ[j0]?=some (some v)):(a7 σ is)[k]?=some (some v):=by
 unfold a7
 rw [a0w,h1]
 show some ((σ[j0]?).join)=_
 rw [h2]
 rfl
theorem dt (I:dm sf sg tg is)(h:σ2.length=tg.length+is.length):∀ i j,sg i=some j->j < σ2.length:=fun i j hj=>by
 rcases I i j hj with ⟨k,hk,rfl⟩ | ⟨_,k,j0,rfl,hk,_⟩
 ·have:=(a0n.mp hk).1
  omega
 ·have:=(a0n.mp hk).1
  omega
theorem gi {n i:Nat}{J:It}{ts:List (List W)}{ws:List W}{x:V}{Q:L2.St->Hp->Prop}(hn:tg.length=n)(nd:tg.Nodup)(I:dm sf sg tg is)(hz:∀ a,Z1 a->Z a)(st:Stay Z1 H1 H)(yl:Yld K J Z1 H1 ts n)(A:At K ⟨sf,val⟩ σ Z H Fs η G)
  (ht:∀ i∈tg,rd η i=none) (hw:ts[i]?=some ws) (hb:aI tg ws η=some ηb) (y:J.yld i H x H')
  (k:∀ σ2 H2,At K ⟨sg,inV val tg⟩ σ2 Z H2 Fs ηb G->Step Z H no Z H2 no->(σ2.length=n+(a7 σ is).length/\σ2.drop n=a7 σ is)->Q σ2 H2):gT K n x (a0b n none++a7 σ is) H' Q:=by
 have hi:i < ts.length:=(a0n.mp hw).1
 have own0:∀ {t:Nat},t∈tg->inV val tg t=none:=fun {t} h=>if_pos h
 match n,yl with
 | 1,yl =>
  obtain ⟨e0,w,hw',r⟩:=yl H i x H' st hi y
  rw [e0]
  rw [hw] at hw'; cases hw'
  match tg,hn with
  | [t],_ =>
   cases hb
   have r':Rep K Z H w.1 w.2 x (Fs t):=(r.zmono hz).mono fun _ z=>z.elim
   refine k _ H ?_ (Step.refl _ _ _) ⟨by simp [a1I],rfl⟩
   refine (A.into (σ2:=some x::a7 σ is) I ht (fun k j0 v h1 h2=>?_) (dt I (by simp [a7,a1I]))).put1 r' (fun j hj=>?_) (own0 (by simp))
   ·rw [List.length_singleton,a1I,a0p]; exact ez h1 h2
   ·rcases I t j hj with ⟨k,hk,rfl⟩ | ⟨h,_⟩
    ·cases j with
     | zero=>rfl
     | succ _=>simp at hk
    ·exact absurd (a0L.mpr rfl) h
 | 2,yl =>
  obtain ⟨p,y1,z1,u,w,rfl,sm,hq,hw',r1,r2⟩:=yl H i x H' st hi y
  rw [hw] at hw'; cases hw'
  match tg,hn with
  | [t,t'],_ =>
   cases hb
   have hne:t≠t':=fun z=>by simp [z] at nd
   have s1:Step Z H G Z H' G:=cx sm
   have o1:Own Z H' G:=fun a ha=>by
    obtain ⟨nz,ys,e⟩:=A.own a ha
    exact ⟨nz,ys,sm _ _ e⟩
   obtain ⟨A1,_⟩:=A.op o1 s1
   have sn:Stay Z H H':=d7 sm
   have r1':Rep K Z H' u.1 u.2 y1 (Fs t):=((r1.zmono hz).keep sn (fun _ z=>z) fun _ _ z=>z.elim).mono fun _ z=>z.elim
   have r2':Rep K Z H' w.1 w.2 z1 (Fs t'):=((r2.zmono hz).keep sn (fun _ z=>z) fun _ _ z=>z.elim).mono fun _ z=>z.elim
   have s0:Step Z H no Z H' no:=cx sm
   refine ⟨p,[y1,z1],rfl,hq,rfl,y1,[z1],rfl,z1,[],rfl,rfl,k (some y1::some z1::a7 σ is) _ ?_ s0 ⟨by simp; omega,rfl⟩⟩
   refine ((A1.into (σ2:=some y1::some z1::a7 σ is) I ht (fun k j0 v h1 h2=>?_) (dt I (by simp [a7]; omega))).put1 r1' (fun j hj=>?_) (own0 (by simp))).put1 r2' (fun j hj=>?_) (own0 (by simp))
   ·rw [show [t,t'].length+k=k+1+1 by simp; omega,a0p,a0p]; exact ez h1 h2
   ·rcases I t j hj with ⟨k,hk,rfl⟩ | ⟨h,_⟩
    ·match j,hk with
     | 0,_=>rfl
     | 1,hk=>exact absurd (a0q hk).symm hne
    ·exact absurd (by simp) h
   ·rcases I t' j hj with ⟨k,hk,rfl⟩ | ⟨h,_⟩
    ·match j,hk with
     | 0,hk=>exact absurd (a0q hk) hne
     | 1,_=>rfl
    ·exact absurd (by simp) h
noncomputable def b7 (Fs:Fps)(tg:List Nat):Fps:=fun j a=>j ∉ tg/\Fs j a
theorem ba {a:Addr}(h:tot (b7 Fs tg) a):tot Fs a:=let ⟨j,_,h2⟩:=h; ⟨j,h2⟩
theorem At.dels (A:At K sl σ Z H Fs η G):At K sl σ Z H (b7 Fs tg) (af tg η) G:=by
 refine ⟨⟨fun a h=>A.gd.own a (ba h),fun i j a h1 h2=>A.gd.dis i j a h1.2 h2.2,A.gd.zal⟩,fun i m t e=>?_,A.own,fun a h q=>A.dis a h (ba q),A.lk,A.ln⟩
 rw [aj] at e
 split at e
 ·cases e
 ·rename_i hi
  obtain ⟨v,r,h⟩:=A.env i m t e
  exact ⟨v,r.mono fun a ha=>⟨hi,ha⟩,h⟩
theorem cy:∀ {tg:List Nat} {t:List W} {η η1:Env},aI tg t η=some η1->∀ i,i ∉ tg->rd η1 i=rd η i
 | [],[],η,η1,h,i,_=>by cases h; rfl
 | [],_::_,_,_,h,_,_=>by cases h
 | _::_,[],_,_,h,_,_=>by cases h
 | j::tg,w::t,η,η1,h,i,hi=>by
  rw [cy (show aI tg t (put η j w)=some η1 from h) i fun z=>hi (a0f _ z),aP,if_neg fun z=>hi (by rw [z.1]; exact a0e)]
structure CSt (K:a0a)(sf:Nat->Option Nat)(val:Nat->Option V)(σ:L2.St)(tg:List Nat)(f:Env->Res (Option W×Env))(ts:List (List W))(η0:Env)(us:List W)(η3:Env)(Z1:Fp)(H1:Hp)(F1:Fp)(i:Nat)(ys:List V)(H:Hp):Prop where
 ex:∃ (Z:Fp) (Fs:Fps) (η:Env) (acc:List W) (G:Fp),At K ⟨sf,val⟩ σ Z H Fs η G/\RepW K Z H acc ys G/\aH tg f (ts.drop i) η acc=.ok (us,η3)/\(∀ j∈tg,rd η j=none)/\(∀ j∈tg,∀ a,¬ Fs j a)/\Nn η0 η/\Step Z1 H1 F1 Z H (fun a=>tot Fs a\/G a)
 len:ys.length<=i
theorem j4 {h:Bool}{us:List W}{ys:List V}{w:W}{Q:VK}(o:Own Z H G)(za:∀ a,Z a->H a≠none)(r:RepW K Z H us ys G)(hl:ys.length<=LIM)(hn:(if h then (if us.all okD then some ((.d,.lst (aM us)):W) else none) else some (.o .s,.lst (aM us)))=some w)(k:Out K Z H G w Q):∀ p,H p=none->Q (.ref p) (upd H p (.lst ys)):=by
 intro p hp
 cases h with
 | true =>
  rw [if_pos rfl] at hn
  split at hn
  ·rename_i ha
   cases hn
   rw [a1l] at ha
   obtain ⟨G',g1,g2⟩:=RepW.to (N:=.d) (fun u hu=>by
    have:=ha u hu
    unfold okD at this
    rw [a2r] at this
    unfold M.lf
    split
    ·rfl
    ·rename_i hnl
     rcases this with z | z
     ·rw [eq_of_beq z]; rfl
     ·exact absurd z hnl) r
   exact bj (m:=.d) o za g1 hl g2 (by simp) k hp
  ·cases hn
 | false =>
  rw [if_neg a0m] at hn
  cases hn
  obtain ⟨G',g1,g2⟩:=RepW.to (N:=.s) (fun u hu=>by cases M.lf u.1 u.2<;>rfl) r
  exact bj (m:=.o .s) o za g1 hl g2 (by simp) k hp
end
end MR
namespace MR
open L2 L3 M
open PySem (Addr Str sizeLine)
section
variable {K:a0a}{sf sg:Nat->Option Nat}{C:Call}{tg is:List Nat}
theorem dg {α:Type}{l:List α}{i:Nat}{a:α}(h:l[i]?=some a):l.drop i=a::l.drop (i+1):=by
 obtain ⟨h1,h2⟩:=a0n.mp h
 rw [List.drop_eq_getElem_cons h1,h2]
theorem jE {h:Bool}{k:Ik}{f:Env->Res (Option W×Env)}{p:List W×Env}{w:W}{η':Env}(e:bP h k tg f p=.ok (w,η')):∃ ts us,aQ k p.1=some ts/\aH tg f ts (af tg p.2) []=.ok (us,η')/\(if h then (if us.all okD then some ((.d,.lst (aM us)):W) else none) else some (.o .s,.lst (aM us)))=some w:=by
 obtain ⟨⟨ts,η2⟩,h3,h4⟩:=aa (show (ret (af tg p.2) (aQ k p.1)).bind (fun t=>(aH tg f t.1 t.2 []).bind (cV h))=_ from e)
 obtain ⟨ts',ht,e3⟩:=ai h3
 have e4:ts=ts':=congrArg a2P e3
 have e5:η2=af tg p.2:=congrArg a1q e3
 subst e4 e5
 obtain ⟨⟨us,η3⟩,h5,h6⟩:=aa (show (aH tg f ts (af tg p.2) []).bind (cV h)=_ from h4)
 obtain ⟨w',hw,e6⟩:=ai (show ret η3 (if h then (if us.all okD then some ((.d,.lst (aM us)):W) else none) else some (.o .s,.lst (aM us)))=_ from h6)
 have e7:w=w':=congrArg a2P e6
 have e8:η'=η3:=congrArg a1q e6
 subst e7 e8
 exact ⟨ts,us,ht,h5,hw⟩
theorem eP {f:Env->Res (Option W×Env)}{t:List W}{ts:List (List W)}{η η3:Env}{acc us:List W}(e:aH tg f (t::ts) η acc=.ok (us,η3)):∃ ηb o ηc,aI tg t η=some ηb/\f ηb=.ok (o,ηc)/\aH tg f ts (af tg ηc) (acc++o.toList)=.ok (us,η3):=by
 obtain ⟨η1,h1,h2⟩:=aa (show (ofO (aI tg t η)).bind (fun η1=>(f η1).bind fun p=>aH tg f ts (af tg p.2) (acc++p.1.toList))=_ from e)
 obtain ⟨⟨o,η2⟩,h3,h4⟩:=aa h2
 exact ⟨η1,o,η2,bo h1,h3,h4⟩
theorem gD {n:Nat}{h:Bool}{k:Ik}{src:List E}{f:Env->Res (Option W×Env)}{te:L2.St->Hp->(Option V->Hp->Prop)->Prop}(hn:tg.length=n)(nd:tg.Nodup)(I:dm sf sg tg is)
  (hf:∀ {η o η'},f η=.ok (o,η')->Nn η η')
  (hte:∀ {val:Nat->Option V} {σ2:L2.St} {Z:Fp} {H:Hp} {Fs:Fps} {η ηc:Env} {R:Fp} {o:Option W} {Q:Option V->Hp->Prop},At K ⟨sg,val⟩ σ2 Z H Fs η R->f η=.ok (o,ηc) ->
   (∀ oy Z' H' Fs' G,At K ⟨sg,val⟩ σ2 Z' H' Fs' ηc (fun c=>R c\/G c)->(match o,oy with | some w,some y=>Rep K Z' H' w.1 w.2 y G | none,none=>True | _,_=>False)->(∀ c,R c->¬ G c)->Step Z H (tot Fs) Z' H' (fun a=>tot Fs' a\/G a)->Q oy H')->te σ2 H Q)
  {e:E} (he:∀ η,evE C e η=(evL C src η).bind (bP h k tg f)) (σ:L2.St) (H:Hp) (Q:VK) (hw:wE K sf C e σ H Q) :
  wI K sf C n k src σ H fun J H1=>∃ W:Nat->Nat->List V->Hp->Prop,(∃ m,W 0 m [] H1)/\∀ i m ys H,W i m ys H ->
   (J.stop i H/\ys.length<=sizeLine/\∀ p,H p=none->Q (.ref p) (upd H p (.lst ys))) \/
   (J.go i H/\ys.length < sizeLine/\∀ x H',J.yld i H x H'->gT K n x (a0b n none++a7 σ is) H' fun σ2 H2=>(σ2.length=n+(a7 σ is).length/\σ2.drop n=a7 σ is)/\te σ2 H2 fun oy H3=>∃ m',m' < m/\W (i+1) m' (ys++oy.toList) H3):=by
 obtain ⟨pv,Z,Fs,η,w,η',A,ev,kk⟩:=hw
 rw [he] at ev
 obtain ⟨⟨ws,η1⟩,h1,h2⟩:=aa ev
 obtain ⟨ts,us,ht,h3,h4⟩:=jE h2
 refine ⟨pv,Z,Fs,η,ws,η1,ts,A,h1,ht,fun J Z1 H1 Fs1 A1 s1 wk yl=>?_⟩
 obtain ⟨val,v1,A2,v2⟩:=(A1.dels (tg:=tg)).pin
 have s1':Step Z H (tot Fs) Z1 H1 (tot (b7 Fs1 tg)):=s1.mono (fun _ z=>z) fun _ z=>ba z
 refine ⟨fun i m ys H=>m=ts.length-i/\i<=ts.length/\CSt K sf val σ tg f ts (af tg η1) us η' Z1 H1 (tot (b7 Fs1 tg)) i ys H,⟨ts.length,by simp,a0T _,⟨⟨Z1,b7 Fs1 tg,af tg η1,[],no,A2,rfl,h3,fun j hj=>by rw [aj,if_pos hj],fun j hj a ha=>ha.1 hj,Nn.refl _,(Step.refl _ _ _).mono (fun _ z=>z) fun a ha=>ha.elim id fun z=>z.elim⟩,a0j _⟩⟩,?_⟩
 rintro i m ys H0 ⟨rfl,hi,⟨⟨Zi,Fsi,ηi,acc,Ga,Ai,ra,hc,htg,hfp,hnn,si⟩,hlen⟩⟩
 have st:Stay Z1 H1 H0:=A2.gd.own.stay si
 have hL:=wk.len
 by_cases hlt:i < ts.length
 ·right
  refine ⟨wk.go H0 i st hlt,a0X (a0k hlen hi) (iA hL),fun x H2 y=>?_⟩
  have hw:ts[i]?=some ts[i]:=by simp [hlt]
  rw [dg hw] at hc
  obtain ⟨ηb,o,ηc,hb,hfe,hc2⟩:=eP hc
  refine gi hn nd I si.zm st yl Ai htg hw hb y fun σ2 H3 A3 s3 hσ=>⟨hσ,?_⟩
  refine hte A3 hfe fun oy Z4 H4 Fs4 G4 A4 r4 d4 s4=>⟨ts.length-(i+1),by omega,rfl,hlt,⟨?_,?_⟩⟩
  ·have ra3:RepW K Zi H3 acc ys Ga:=ra.frame a6 s3 fun _ _ z=>z
   have ra4:RepW K Z4 H4 acc ys Ga:=ra3.frame A3.gd.own s4 A3.dis
   have vv:∀ j m t,rd (af tg ηc) j=some (m,t)->val j≠none:=fun j m t e=>by
    rw [aj] at e
    split at e
    ·cases e
    ·rename_i hj
     have n1:rd ηb j≠none:=fun z=>by rw [hf hfe j z] at e; cases e
     rw [cy hb j hj] at n1
     have n2:rd (af tg η1) j≠none:=fun z=>n1 (hnn j z)
     cases e2:rd (af tg η1) j with
     | none=>exact absurd e2 n2
     | some u=>exact v2 j u.1 u.2 e2
   have A5:=(A4.dels (tg:=tg)).outof (sf:=sf) (σ:=σ) (val:=val) (fun j hj=>by rw [aj,if_pos hj]) vv Ai.lk Ai.ln
   have s5:Step Z1 H1 (tot (b7 Fs1 tg)) Z4 H4 (fun a=>tot (b7 Fs4 tg) a\/(Ga a\/G4 a)):=by
    refine (si.trans (((s3.frame (fun a=>tot Fsi a\/Ga a)).mono (fun a ha=>ha.elim (fun z=>z.elim) id) fun a ha=>.inr ha).trans (s4.frame Ga))).mono (fun _ z=>z) fun a ha=>?_
    rcases ha with z | z | z
    ·exact .inl (.inl (ba z))
    ·exact .inr z
    ·exact .inl (.inr z)
   refine ⟨Z4,b7 Fs4 tg,af tg ηc,acc++o.toList,fun c=>Ga c\/G4 c,A5,?_,hc2,fun j hj=>by rw [aj,if_pos hj],fun j hj a ha=>ha.1 hj,fun j e=>?_,s5⟩
   ·cases o with
    | none =>
     cases oy with
     | none=>rw [a13,a13,a0B,a0B]; exact ra4.mono fun _ z=>.inl z
     | some _=>exact r4.elim
    | some w4 =>
     cases oy with
     | none=>exact r4.elim
     | some y4=>exact RepW.append (fun _ z=>.inl z) (fun _ z=>.inr z) d4 ra4 (RepW.one r4)
   ·have e':=hnn j e
    rw [aj]
    split
    ·rfl
    ·rename_i hj
     exact hf hfe j (by rw [cy hb j hj]; exact e')
  ·have:ys.length<=i:=hlen
   cases oy<;>simp<;>omega
 ·left
  have hi':i=ts.length:=by omega
  subst hi'
  rw [a2i] at hc
  cases hc
  refine ⟨wk.stop H0 _ st (a0j _),LIM_le (a0k hlen hL),j4 Ai.own Ai.gd.zal ra (a0k hlen hL) h4 (br (Ai.unpin v1) (s1'.trans si) kk)⟩
theorem ja {n:Nat}{h:Bool}{k:Ik}{src:List E}{elt:E}(hn:tg.length=n)(nd:tg.Nodup)(I:dm sf sg tg is)(σ:L2.St)(H:Hp)(Q:VK)(hw:wE K sf C (.comp h k src tg none elt) σ H Q):eL n (wI K sf C n k src) is (gT K n) (wE K sg C elt) σ H Q:=by
 refine gD (te:=fun σ2 H Q=>wE K sg C elt σ2 H fun y H'=>Q (some y) H') hn nd I (fun {η o η'} hf=>?_) (fun {val σ2 Z H Fs η ηc R o Q} A hf k=>?_) (fun η=>rfl) σ H Q hw
 ·obtain ⟨⟨u,η4⟩,h7,h8⟩:=aa (show (evE C elt η).bind cH=_ from hf)
  cases h8
  exact ah elt h7
 ·obtain ⟨⟨u,η4⟩,h7,h8⟩:=aa (show (evE C elt η).bind cH=_ from hf)
  cases h8
  exact gQ A h7 fun v Z' H' Fs' G B r d s _=>k (some v) Z' H' Fs' G B r d s
end
end MR
namespace MR
open L2 L3 M
open PySem (Addr Str sizeLine)
section
variable {K:a0a}{sl:Cf}{sf sg:Nat->Option Nat}{C:Call}{σ σ2:L2.St}{Z Z' Z1:Fp}{H H' H1:Hp}{Fs Fs' Fs1:Fps}{η η' η1 ηb:Env}{G G' G1 R F:Fp}{tg is:List Nat}{pv val:Nat->Option V}
noncomputable def la (Fs:Fps)(i:Nat)(G:Fp):Fps:=fun j a=>(j=i/\G a)\/(j≠i/\Fs j a)
theorem aT {i:Nat}{a:Addr}(h:tot (la Fs i G) a):tot Fs a\/G a:=by
 obtain ⟨j,h | h⟩:=h
 ·exact .inr h.2
 ·exact .inl ⟨j,h.2⟩
theorem At.put {i:Nat}{w:W}{x:V}(A:At K sl σ Z H Fs η G)(r:Rep K Z H w.1 w.2 x G1)(h1:∀ a,G1 a->G a)(h2:∀ a,R a->G a)(hd:∀ a,R a->¬ G1 a)(hl:∀ j,sl.sl i=some j->σ[j]?=some (some x))(hp:∀ u,sl.pv i=some u->x=u) :
  At K sl σ Z H (la Fs i G1) (M.put η i w) R:=by
 refine ⟨⟨fun a h=>(aT h).elim (A.gd.own a) fun q=>A.own a (h1 a q),fun j k a hj hk=>?_,A.gd.zal⟩,fun j m t e=>?_,fun a h=>A.own a (h2 a h),fun a h q=>(aT q).elim (A.dis a (h2 a h)) (hd a h),A.lk,A.ln⟩
 ·rcases hj with ⟨rfl,hj⟩ | ⟨nj,hj⟩
  ·rcases hk with ⟨rfl,_⟩ | ⟨nk,hk⟩
   ·rfl
   ·exact absurd ⟨k,hk⟩ (A.dis a (h1 a hj))
  ·rcases hk with ⟨rfl,hk⟩ | ⟨nk,hk⟩
   ·exact absurd ⟨j,hj⟩ (A.dis a (h1 a hk))
   ·exact A.gd.dis j k a hj hk
 ·rw [aP] at e
  split at e
  ·rename_i hc
   cases e
   obtain ⟨rfl,_⟩:=hc
   exact ⟨x,r.mono fun a h=>.inl ⟨rfl,h⟩,hl,hp⟩
  ·rename_i hc
   obtain ⟨v,r',h'⟩:=A.env j m t e
   by_cases hj:j=i
   ·subst hj
    exact absurd ⟨rfl,cO e⟩ hc
   ·exact ⟨v,r'.mono fun a h=>.inr ⟨hj,h⟩,h'⟩
noncomputable def wA (K:a0a)(sl:Nat->Option Nat)(C:Call)(es:List E):TA:=fun σ H Q=>∃ pv Z Fs η ws η',At K ⟨sl,pv⟩ σ Z H Fs η no/\evA C es η=.ok (ws,η') /\
 ∀ vs Z' H' Fs' G,At K ⟨sl,pv⟩ σ Z' H' Fs' η' G->RepW K Z' H' ws vs G->Step Z H (tot Fs) Z' H' (fun a=>tot Fs' a\/G a)->(∀ (k i:Nat) (u:V),es[k]?=some (.io i)->pv i=some u->vs[k]?=some u)->Q vs H'
theorem og (σ:L2.St)(H:Hp)(Q:List V->Hp->Prop)(h:wA K sf C [] σ H Q):oS σ H Q:=by
 obtain ⟨pv,Z,Fs,η,ws,η',A,ev,k⟩:=h
 cases ev
 exact k [] Z H Fs no A rfl ((Step.refl _ _ _).mono (fun _ z=>z) fun a ha=>ha.elim id fun z=>z.elim) fun k i u h _=>by simp at h
theorem vM {es:List E}{ws:List W}{Q:List V->Hp->Prop}(A:At K sl σ Z H Fs η R)(ev:evA C es η=.ok (ws,η'))
  (k:∀ vs Z' H' Fs' G,At K sl σ Z' H' Fs' η' (fun c=>R c\/G c)->RepW K Z' H' ws vs G->(∀ c,R c->¬ G c)->Step Z H (tot Fs) Z' H' (fun a=>tot Fs' a\/G a) ->
   Step Z H (fun c=>tot Fs c\/R c) Z' H' (fun c=>tot Fs' c\/(R c\/G c))->(∀ (k i:Nat) (u:V),es[k]?=some (.io i)->sl.pv i=some u->vs[k]?=some u)->Q vs H'):wA K sl.sl C es σ H Q :=
 ⟨sl.pv,Z,Fs,η,ws,η',A.bare,ev,fun v Z' H' Fs' G B r s hio=>by
  obtain ⟨h1,h2,h3⟩:=A.frame B s
  exact k v Z' H' Fs' G h1 r h3 s h2 hio⟩
theorem i8 {e:E}{es:List E}(he:∀ i,e≠.io i)(σ:L2.St)(H:Hp)(Q:List V->Hp->Prop)(h:wA K sf C (e::es) σ H Q):jI (wE K sf C e) (wA K sf C es) σ H Q:=by
 obtain ⟨pv,Z,Fs,η,ws,η',A,ev,k⟩:=h
 obtain ⟨w,η1,us,h1,h2,rfl⟩:=cM he ev
 refine gQ A h1 fun x Z1 H1 Fs1 G1 A1 r1 _ s1 _=>?_
 have A1':=A1.mono (G':=G1) fun _ z=>.inr z
 refine vM A1' h2 fun xs Z2 H2 Fs2 G2 A2 r2 d2 s2 t2 hio=>?_
 refine k (x::xs) Z2 H2 Fs2 _ A2 ⟨x,xs,G1,G2,rfl,fun _ z=>.inl z,fun _ z=>.inr z,d2,r1.frame A1.gd.own s2 A1'.dis,r2⟩ (s1.trans t2) fun k i u h hu=>?_
 cases k with
 | zero=>exact absurd (a0q h) (he i)
 | succ k=>exact hio k i u h hu
noncomputable def atV (io:List Nat)(vs:List V):List V:=io.filterMap fun i=>vs[i]?
noncomputable def spC (K:a0a)(C:Call)(f:Nat)(io:List Nat):List V->Hp->VK->Prop:=fun vs H Q=>∃ Z ws G w bs,RepW K Z H ws vs G/\Own Z H G/\(∀ a,Z a->H a≠none)/\C f ws=.ok (w,bs) /\
 ∀ v Z' H' G1 G2,Rep K Z' H' w.1 w.2 v G1->RepW K Z' H' bs (atV io vs) G2->(∀ a,G1 a->¬ G2 a)->Own Z' H' (fun a=>G1 a\/G2 a)->Step Z H G Z' H' (fun a=>G1 a\/G2 a)->Q v H'
noncomputable def cN:List E->Nat->List Nat
 | [],_=>[]
 | .io _::es,n=>n::cN es (n+1)
 | _::es,n=>cN es (n+1)
theorem nD {vs:List V}:∀ {es:List E} {n:Nat},(∀ (k i:Nat) (u:V),es[k]?=some (.io i)->pv i=some u->vs[n+k]?=some u)->(∀ i∈ios es,pv i≠none)->(ios es).filterMap pv=atV (cN es n) vs
 | [],_,_,_=>rfl
 | e::es,n,h,hv=>by
  have rest:(∀ i∈ios es,pv i≠none)->(ios es).filterMap pv=atV (cN es (n+1)) vs:=fun q=>nD (fun k i u hk hu=>by have:=h (k+1) i u hk hu; rw [show n+(k+1)=n+1+k by omega] at this; exact this) q
  cases e with
  | io i =>
   cases hu:pv i with
   | none=>exact absurd hu (hv i (by simp [ios]))
   | some u =>
    have h0:=h 0 i u rfl hu
    rw [Nat.add_zero] at h0
    show (i::ios es).filterMap pv=(n::cN es (n+1)).filterMap fun i=>vs[i]?
    rw [a0G,a0G,hu,h0]
    exact congrArg (u::·) (rest fun j hj=>hv j (by simp [ios,hj]))
  | _=>exact rest fun j hj=>hv j hj
theorem At.putAll:∀ {is:List Nat} {bs:List W} {Fs:Fps} {η:Env} {G2:Fp},At K ⟨sf,val⟩ σ Z H Fs η (fun a=>R a\/G2 a)->(∀ a,R a->¬ G2 a)->RepW K Z H bs (is.filterMap val) G2->(∀ i∈is,val i≠none)->∃ Fs',At K ⟨sf,val⟩ σ Z H Fs' (M.putAll is bs η) R/\∀ a,tot Fs' a->tot Fs a\/G2 a
 | [],bs,Fs,η,G2,A,_,_,_=>⟨Fs,A.mono fun _ z=>.inl z,fun _ z=>.inl z⟩
 | i::is,[],Fs,η,G2,A,_,_,_=>⟨Fs,A.mono fun _ z=>.inl z,fun _ z=>.inl z⟩
 | i::is,b::bs,Fs,η,G2,A,hd,r,hv=>by
  cases hu:val i with
  | none=>exact absurd hu (hv i a0e)
  | some u =>
   rw [a0G,hu] at r
   obtain ⟨x,r',A1,A2,e,a1,a2,ad,p,q⟩:=r
   cases e
   have B:=At.put (i:=i) (R:=fun a=>R a\/A2 a) (G1:=A1) A p (fun a h=>.inr (a1 a h)) (fun a h=>h.imp id (a2 a)) (fun a h q=>h.elim (fun z=>hd a z (a1 a q)) fun z=>ad a q z) (fun j hj=>A.lk i u j hu hj) (fun u' hu'=>by rw [show val i=some u' from hu'] at hu; cases hu; rfl)
   obtain ⟨Fs',B1,B2⟩:=At.putAll (is:=is) (bs:=bs) B (fun a h q=>hd a h (a2 a q)) q fun j hj=>hv j (a0f _ hj)
   exact ⟨Fs',B1,fun a h=>(B2 a h).elim (fun z=>(aT z).imp id (a1 a)) fun z=>.inr (a2 a z)⟩
theorem kW {f:Nat}{es:List E}{io:List Nat}(hio:cN es 0=io\/ios es=[])(σ:L2.St)(H:Hp)(Q:VK)(h:wE K sf C (.call f es) σ H Q):wA K sf C es σ H fun vs H1=>spC K C f io vs H1 Q:=by
 obtain ⟨pv,Z,Fs,η,w,η',A,ev,k⟩:=h
 obtain ⟨⟨ws,η1⟩,h1,h2⟩:=aa (show (evA C es η).bind (cR C f (ios es))=_ from ev)
 obtain ⟨⟨u,bs⟩,h3,h4⟩:=aa (show (C f ws).bind (eB (ios es) η1)=_ from h2)
 cases h4
 obtain ⟨val,v1,A2,v2⟩:=A.pin
 have hvn:∀ i∈ios es,val i≠none:=fun i hi=>by
  cases e:rd η i with
  | none=>exact absurd e (cI es h1 i hi)
  | some q=>exact v2 i q.1 q.2 e
 refine ⟨val,Z,Fs,η,ws,η1,A2,h1,fun vs Z1 H1 Fs1 G B r s hv=>?_⟩
 refine ⟨Z1,ws,G,u,bs,r,B.own,B.gd.zal,h3,fun v Z2 H2 G1 G2 r1 r2 d o st=>?_⟩
 obtain ⟨B2,s2⟩:=B.op o st
 have fin:∃ Fs',At K ⟨sf,val⟩ σ Z2 H2 Fs' (M.putAll (ios es) bs η1) G1/\∀ a,tot Fs' a->tot Fs1 a\/G2 a:=by
  rcases hio with e | e
  ·have e2:=nD (pv:=val) (es:=es) (n:=0) (vs:=vs) (fun k i u' hk hu=>by rw [a2c]; exact hv k i u' hk hu) hvn
   rw [e] at e2
   rw [<- e2] at r2
   exact At.putAll B2 d r2 hvn
  ·rw [e]
   exact ⟨Fs1,B2.mono fun _ z=>.inl z,fun _ z=>.inl z⟩
 obtain ⟨Fs',B3,hF⟩:=fin
 refine k v Z2 H2 Fs' G1 (B3.unpin v1) r1 ((s.trans s2).mono (fun _ z=>z) fun a ha=>?_)
 rcases ha with z | z
 ·exact (hF a z).imp id .inr
 ·exact .inr (.inl z)
end
end MR
namespace MR
open L2 L3 M
open PySem (Addr Str sizeLine)
section
variable {K:a0a}{sl:Cf}{sf sg:Nat->Option Nat}{C:Call}{σ σ2:L2.St}{Z Z' Z1:Fp}{H H' H1:Hp}{Fs Fs' Fs1:Fps}{η η' η1 ηb:Env}{G G' G1 R F F':Fp}{tg is vs ls:List Nat}{pv val:Nat->Option V}
theorem jZ (o:Option W):toS (toS o)=toS o:=by
 cases o with
 | none=>rfl
 | some w=>rfl
theorem ef:∀ (vs:List Nat) (η:Env) (i:Nat),rd (share vs η) i=if i∈vs then toS (rd η i) else rd η i
 | [],η,i=>by simp [share]
 | v::vs,η,i=>by
  show rd (share vs (wr η v (toS (rd η v)))) i=_
  rw [ef vs,aP]
  by_cases h2:i=v
  ·subst h2
   rw [if_pos (show i∈i::vs from a0e)]
   by_cases hl:i < η.length
   ·rw [if_pos (show i=i/\i < η.length from ⟨rfl,hl⟩)]
    split
    ·exact jZ _
    ·rfl
   ·have e:rd η i=none:=by
     cases e:rd η i with
     | none=>rfl
     | some w=>exact absurd (cO e) hl
    rw [if_neg (show ¬ (i=i/\i < η.length) from fun h=>hl h.2),e]
    split<;>rfl
  ·rw [if_neg (show ¬ (i=v/\v < η.length) from fun h=>h2 h.1)]
   by_cases h1:i∈vs
   ·rw [if_pos h1,if_pos (a0f _ h1)]
   ·rw [if_neg h1,if_neg (by simp [h1,h2])]
theorem eF:∀ (η:Env) (i:Nat),rd (cQ η) i=none
 | [],_=>rfl
 | _::_,0=>rfl
 | _::η,i+1=>eF η i
theorem fU:∀ (vs:List Nat) (η0 η:Env) (i:Nat) (w:W),rd (eU vs η0 η) i=some w->rd η i=some w\/(i∈vs/\toS (rd η0 i)=some w)
 | [],_,_,_,_,h=>.inl h
 | v::vs,η0,η,i,w,h=>by
  rcases fU vs η0 (wr η v (toS (rd η0 v))) i w h with e | e
  ·rw [aP] at e
   split at e
   ·rename_i hc; obtain ⟨rfl,_⟩:=hc; exact .inr ⟨a0e,e⟩
   ·exact .inl e
  ·exact .inr ⟨a0f _ e.1,e.2⟩
theorem d8:∀ (vs:List Nat) (η0 η:Env) (i:Nat) (w:W),rd (cu vs η0 η) i=some w->rd η i=some w\/lfO (rd η0 i)=some w
 | [],_,_,_,_,h=>.inl h
 | v::vs,η0,η,i,w,h=>by
  rcases d8 vs η0 (wr η v (lfO (rd η0 v))) i w h with e | e
  ·rw [aP] at e
   split at e
   ·rename_i hc; obtain ⟨rfl,_⟩:=hc; exact .inr e
   ·exact .inl e
  ·exact .inr e
theorem kv {i:Nat}{w:W}(h:rd (bK vs ls η) i=some w):∃ m t,rd η i=some (m,t)/\((i∈vs/\w=(.s,t))\/(t.leaf=true/\w=(.d,t))):=by
 rcases d8 ls η _ i w h with e | e
 ·rcases fU vs η _ i w e with e | ⟨hi,e⟩
  ·rw [eF] at e; cases e
  ·cases q:rd η i with
   | none=>rw [q] at e; cases e
   | some u=>rw [q] at e; cases e; exact ⟨u.1,u.2,rfl,.inl ⟨hi,rfl⟩⟩
 ·cases q:rd η i with
  | none=>rw [q] at e; cases e
  | some u =>
   rw [q] at e
   obtain ⟨m,t⟩:=u
   have e':(if t.leaf=true then some ((.d,t):W) else none)=some w:=e
   split at e'
   ·rename_i hl; cases e'; exact ⟨m,t,rfl,.inr ⟨hl,rfl⟩⟩
   ·cases e'
noncomputable def bf (Fs:Fps)(vs:List Nat):Fp:=fun a=>∃ i,i∈vs/\Fs i a
noncomputable def jl:Fps:=fun _ _=>False
theorem bb {a:Addr}(h:bf Fs vs a):tot Fs a:=let ⟨i,_,h⟩:=h; ⟨i,h⟩
theorem dA {a:Addr}(h:tot jl a):False:=let ⟨_,h⟩:=h; h
theorem At.quiet (A:At K sl σ Z H Fs η no):At K sl σ (fun a=>Z a\/bf Fs vs a) H jl (bK vs ls η) no:=by
 refine ⟨⟨fun a h=>(dA h).elim,fun _ _ _ h=>h.elim,fun a h=>h.elim (A.gd.zal a) fun q=>?_⟩,fun i m t e=>?_,a6,fun _ z=>z.elim,A.lk,A.ln⟩
 ·obtain ⟨_,xs,e⟩:=A.gd.own a (bb q)
  rw [e]; simp
 ·obtain ⟨m',t',e1,e2⟩:=kv e
  obtain ⟨v,r,h⟩:=A.env i m' t' e1
  rcases e2 with ⟨hi,e2⟩ | ⟨hl,e2⟩
  ·cases e2
   exact ⟨v,(r.sh.zmono fun a h=>h.imp id fun q=>⟨i,hi,q⟩).sany,h⟩
  ·cases e2
   exact ⟨v,r.leaf (fun _ _ _ q=>q) hl,h⟩
mutual
theorem Rep.dany:∀ {t:T} {v:V} {G:Fp},Rep K Z H .d t v G->Rep K Z' H .d t v G
 | .non,_,_,h=>h
 | .bl _,_,_,h=>h
 | .int _,_,_,h=>h
 | .str _,_,_,h=>h
 | .scr _,_,_,h=>h
 | .tup ts,_,_,⟨a,xs,e,q,l,r⟩=>⟨a,xs,e,q,l,RepL.dany r⟩
 | .lst ts,_,_,⟨a,xs,e,l,q,r⟩=>⟨a,xs,e,l,q,RepL.dany r⟩
 | .dct _ _,_,_,⟨a,xs,e,l,q,n,hl,r⟩=>⟨a,xs,e,l,q,n,hl,RepL.dany r⟩
 | .ins _ _ _,_,_,h=>absurd rfl h.1
 | .gone,_,_,h=>h
theorem RepL.dany:∀ {ts:List T} {xs:List V} {G:Fp},RepL K Z H .d ts xs G->RepL K Z' H .d ts xs G
 | [],_,_,h=>h
 | t::ts,xs,_,⟨x,r,G1,G2,e,h1,h2,hd,p,q⟩=>⟨x,r,G1,G2,e,h1,h2,hd,Rep.dany p,RepL.dany q⟩
end
theorem bE (A:At K sl σ Z H Fs η no)(B:Own Z' H' G)(zal:∀ a,Z' a->H' a≠none)(s:Step (fun a=>Z a\/bf Fs vs a) H F Z' H' (fun a=>F' a\/G a))(hF:∀ a,¬ F a) :
  At K sl σ (fun a=>Z' a/\¬ bf Fs vs a) H' Fs η G/\Step Z H (tot Fs) (fun a=>Z' a/\¬ bf Fs vs a) H' (fun a=>tot Fs a\/G a):=by
 have keep:∀ a o,H a=some o->H' a=some o:=fun a o e=>s.keep a o e (hF a)
 have zz:∀ a,Z a->Z' a/\¬ bf Fs vs a:=fun a h=>⟨s.zm a (.inl h),fun q=>(A.gd.own a (bb q)).1 h⟩
 have nz:∀ a,tot Fs a->¬ (Z' a/\¬ bf Fs vs a):=fun a h q=>by
  obtain ⟨nz,xs,e⟩:=A.gd.own a h
  rcases s.zn a q.1 with z | z | z
  ·exact z.elim nz q.2
  ·exact hF a z
  ·rw [e] at z; cases z
 have gd:∀ a,G a->¬ tot Fs a:=fun a h q=>by
  obtain ⟨_,xs,e⟩:=A.gd.own a q
  rcases s.fn a (.inr h) with z | z
  ·exact hF a z
  ·rw [e] at z; cases z
 refine ⟨⟨⟨fun a h=>?_,A.gd.dis,fun a h=>zal a h.1⟩,fun i m t e=>?_,fun a h=>⟨fun q=>(B a h).1 q.1,(B a h).2⟩,gd,A.lk,A.ln⟩,⟨fun a o e _=>keep a o e,zz,fun a h=>?_,fun a h=>?_,s.al,fun _ a h=>zal a h.1⟩⟩
 ·obtain ⟨_,xs,e⟩:=A.gd.own a h
  exact ⟨nz a h,xs,keep a _ e⟩
 ·obtain ⟨v,r,h⟩:=A.env i m t e
  refine ⟨v,r.keep ⟨fun a o _ e=>keep a o e,fun a xs e=>?_,fun a o u e=>keep a _ e⟩ zz fun a o _ e=>keep a o e,h⟩
  rcases e with e | ⟨u,e⟩
  ·exact .inl (keep a _ e)
  ·exact .inr ⟨u,keep a _ e⟩
 ·rcases s.zn a h.1 with z | z | z
  ·exact z.elim .inl fun q=>absurd q h.2
  ·exact (hF a z).elim
  ·exact .inr (.inr z)
 ·rcases h with h | h
  ·exact .inl h
  ·exact (s.fn a (.inr h)).elim (fun z=>(hF a z).elim) .inr
theorem At.share (A:At K sl σ Z H Fs η G):At K sl σ (fun a=>Z a\/bf Fs vs a) H (b7 Fs vs) (M.share vs η) G/\∀ {Z0 H0 F0},Step Z0 H0 F0 Z H (fun a=>tot Fs a\/G a)->Step Z0 H0 F0 (fun a=>Z a\/bf Fs vs a) H (fun a=>tot (b7 Fs vs) a\/G a):=by
 refine ⟨⟨⟨fun a h=>?_,fun i j a h1 h2=>A.gd.dis i j a h1.2 h2.2,fun a h=>h.elim (A.gd.zal a) fun q=>?_⟩,fun i m t e=>?_,fun a h=>⟨fun z=>z.elim (A.own a h).1 fun q=>A.dis a h (bb q),(A.own a h).2⟩,fun a h q=>A.dis a h (ba q),A.lk,A.ln⟩,fun {Z0 H0 F0} s=>⟨s.keep,fun a h=>.inl (s.zm a h),fun a h=>h.elim (s.zn a) fun q=>.inr (s.fn a (.inl (bb q))),fun a h=>s.fn a (h.imp ba id),s.al,fun z a h=>h.elim (s.za z a) fun q=>?_⟩⟩
 ·obtain ⟨i,hi,h'⟩:=h
  obtain ⟨nz,xs,e⟩:=A.gd.own a ⟨i,h'⟩
  exact ⟨fun z=>z.elim nz fun ⟨j,hj,q⟩=>hi (A.gd.dis i j a h' q ▸ hj),xs,e⟩
 ·obtain ⟨_,xs,e⟩:=A.gd.own a (bb q)
  rw [e]; simp
 ·rw [ef] at e
  split at e
  ·rename_i hi
   cases q:rd η i with
   | none=>rw [q] at e; cases e
   | some u =>
    rw [q] at e; cases e
    obtain ⟨v,r,h⟩:=A.env i u.1 u.2 q
    exact ⟨v,(r.sh.zmono fun a h=>h.imp id fun q=>⟨i,hi,q⟩).sany,h⟩
  ·rename_i hi
   obtain ⟨v,r,h⟩:=A.env i m t e
   exact ⟨v,(r.zmono fun a h=>.inl h).mono fun a h=>⟨hi,h⟩,h⟩
 ·obtain ⟨_,xs,e⟩:=A.gd.own a (bb q)
  rw [e]; simp
theorem sF {x:X}{e:E}{w:W}{Q:VK}(A:At K sl σ Z H Fs η no)(ev:evX C x e η=.ok (w,η'))(k:∀ v Z' H' Fs' G,At K sl σ Z' H' Fs' η' G->Rep K Z' H' w.1 w.2 v G->Step Z H (tot Fs) Z' H' (fun a=>tot Fs' a\/G a)->Q v H'):wE K sl.sl C e σ H Q:=by
 cases x with
 | q vs ls =>
  obtain ⟨⟨u,η2⟩,h1,h2⟩:=aa (show (evE C e (bK vs ls η)).bind (kX vs η)=_ from ev)
  cases h2
  generalize hm0:M.lf u.1 u.2=m0 at k
  refine ⟨sl.pv,_,jl,_,_,η2,A.quiet (vs:=vs) (ls:=ls),h1,fun v Z' H' Fs' G B r0 s=>?_⟩
  have r:=r0.lf
  rw [hm0] at r
  obtain ⟨B1,s1⟩:=bE A B.own B.gd.zal s fun a h=>dA h
  have other:Q v H'\/m0=.d:=by
   by_cases hd:m0=.d
   ·exact .inr hd
   ·refine .inl ?_
    have e':after m0 vs η=share vs η:=by
     cases hm:m0 with
     | d=>exact absurd hm hd
     | s=>rfl
     | o m=>rfl
    obtain ⟨B2,s2⟩:=B1.share (vs:=vs)
    have zz:∀ a,(Z' a/\¬ bf Fs vs a)\/bf Fs vs a->Z' a:=fun a h=>h.elim a2O fun q=>s.zm a (.inr q)
    have zz':∀ a,Z' a->(Z' a/\¬ bf Fs vs a)\/bf Fs vs a:=fun a h=>(a2L (bf Fs vs a)).elim .inr fun q=>.inl ⟨h,q⟩
    exact k v _ H' _ G (e' ▸ B2) (r.zmono zz') (s2 s1)
  rcases other with q | hd
  ·exact q
  ·have e':after m0 vs η=η:=by rw [hd]; rfl
   refine k v _ H' Fs G (e'.symm ▸ B1) ?_ s1
   subst hd
   exact r.dany
 | l vs =>
  obtain ⟨B,s0⟩:=A.share (vs:=vs)
  have s1:=s0 ((Step.refl Z H (tot Fs)).mono (F2:=fun a=>tot Fs a\/no a) (fun _ z=>z) fun a h=>h.elim id fun z=>z.elim)
  refine ⟨sl.pv,_,_,_,w,η',B,ev,fun v Z' H' Fs' G B' r s=>k v Z' H' Fs' G B' r ((s1.mono (fun _ z=>z) fun a h=>.inl h).trans s)⟩
theorem v5 {x:X}{e:E}{b:Bool}{Q:Bool->Hp->Prop}(A:At K sl σ Z H Fs η no)(ev:evT C x e η=.ok (b,η'))(k:∀ Z' H' Fs',At K sl σ Z' H' Fs' η' no->Step Z H (tot Fs) Z' H' (tot Fs')->Q b H'):wT K sl.sl C e σ H Q:=by
 cases x with
 | q vs ls =>
  obtain ⟨⟨u,η2⟩,h1,h2⟩:=aa (show (evE C e (bK vs ls η)).bind (kT η)=_ from ev)
  obtain ⟨b',h3,e3⟩:=ai (show ret η (aU u.2)=_ from h2)
  cases e3
  refine ⟨sl.pv,_,jl,_,u,η2,b,A.quiet (vs:=vs) (ls:=ls),h1,h3,fun Z' H' Fs' B s=>?_⟩
  obtain ⟨B1,s1⟩:=bE (G:=no) A a6 B.gd.zal (s.mono (F2:=fun a=>tot Fs' a\/no a) (fun _ z=>z) fun a h=>h.elim id fun z=>z.elim) fun a h=>dA h
  exact k _ H' Fs B1 (s1.mono (fun _ z=>z) fun a h=>.inl h)
 | l vs =>
  obtain ⟨⟨u,η2⟩,h1,h2⟩:=aa (show (evE C e (M.share vs η)).bind kT2=_ from ev)
  obtain ⟨b',h3,e3⟩:=ai (show ret η2 (aU u.2)=_ from h2)
  cases e3
  obtain ⟨B,s0⟩:=A.share (vs:=vs)
  have s1:=s0 ((Step.refl Z H (tot Fs)).mono (F2:=fun a=>tot Fs a\/no a) (fun _ z=>z) fun a h=>h.elim id fun z=>z.elim)
  exact ⟨sl.pv,_,_,_,u,_,b,B,h1,h3,fun Z' H' Fs' B' s=>k Z' H' Fs' B' ((s1.mono (fun _ z=>z) fun a h=>.inl h).trans s)⟩
end
end MR
namespace MR
open L2 L3 M
open PySem (Addr Str sizeLine)
section
variable {K:a0a}{Wx:L2.St->VK}{sl:Cf}{sf sg:Nat->Option Nat}{C:Call}{σ σ2:L2.St}{Z Z' Z1:Fp}{H H' H1:Hp}{Fs Fs' Fs1:Fps}{η η' η1 ηb:Env}{G G' G1 R F F':Fp}{tg is vs ls io:List Nat}{pv val:Nat->Option V}{D:bB}
noncomputable def Fin (K:a0a)(Wx:L2.St->VK)(sl:Cf)(Z:Fp)(H:Hp)(F:Fp)(D:bB):Fl->Prop
 | .nx η'=>∀ σ' Z' H' Fs',At K sl σ' Z' H' Fs' η' no->Step Z H F Z' H' (tot Fs')->D.nx σ' H'
 | .rt w η'=>∀ v σ' Z' H' Fs' G,At K sl σ' Z' H' Fs' η' G->Rep K Z' H' w.1 w.2 v G->Step Z H F Z' H' (fun a=>tot Fs' a\/G a)->D.rt v H'
 | .bk η'=>∀ σ' Z' H' Fs',At K sl σ' Z' H' Fs' η' no->Step Z H F Z' H' (tot Fs')->D.bk σ' H'
 | .ex t η'=>∀ v σ' Z' H' Fs',At K sl σ' Z' H' Fs' η' no->Rep K Z' H' .s t v no->Step Z H F Z' H' (tot Fs')->Wx σ' v H'
 | _=>False
theorem Fin.step {fl:Fl}(s:Step Z H F Z1 H1 F')(h:Fin K Wx sl Z H F D fl):Fin K Wx sl Z1 H1 F' D fl:=by
 cases fl with
 | nx η=>exact fun σ' Z' H' Fs' A t=>h σ' Z' H' Fs' A (s.trans t)
 | rt w η=>exact fun v σ' Z' H' Fs' G A r t=>h v σ' Z' H' Fs' G A r (s.trans t)
 | bk η=>exact fun σ' Z' H' Fs' A t=>h σ' Z' H' Fs' A (s.trans t)
 | ex t η=>exact fun v σ' Z' H' Fs' A r t=>h v σ' Z' H' Fs' A r (s.trans t)
 | _=>exact h.elim
structure iz (sf:Nat->Option Nat)(io:List Nat)(pv:Nat->Option V):Prop where
 inj:∀ i i' j,sf i=some j->sf i'=some j->i=i'
 io:∀ i,i ∉ io->pv i=none
noncomputable def wS (K:a0a)(Wx:L2.St->VK)(sf:Nat->Option Nat)(io:List Nat)(C:Call)(st:S):TS:=fun D σ H=>∃ pv Z Fs η,iz sf io pv/\At K ⟨sf,pv⟩ σ Z H Fs η no/\Fin K Wx ⟨sf,pv⟩ Z H (tot Fs) D (evS C st η)
noncomputable def wSs (K:a0a)(Wx:L2.St->VK)(sf:Nat->Option Nat)(io:List Nat)(C:Call)(st:List S):TS:=fun D σ H=>∃ pv Z Fs η,iz sf io pv/\At K ⟨sf,pv⟩ σ Z H Fs η no/\Fin K Wx ⟨sf,pv⟩ Z H (tot Fs) D (evSs C st η)
theorem lg (D:bB)(σ:L2.St)(H:Hp)(h:wSs K Wx sf io C [] D σ H):m9 D σ H:=by
 obtain ⟨pv,Z,Fs,η,N,A,f⟩:=h
 exact f σ Z H Fs A (Step.refl _ _ _)
theorem j5 {s:S}{r:List S}(D:bB)(σ:L2.St)(H:Hp)(h:wSs K Wx sf io C (s::r) D σ H):tV (wS K Wx sf io C s) (wSs K Wx sf io C r) D σ H:=by
 obtain ⟨pv,Z,Fs,η,N,A,f⟩:=h
 refine ⟨pv,Z,Fs,η,N,A,?_⟩
 have f':Fin K Wx ⟨sf,pv⟩ Z H (tot Fs) D (Fl.seq (evS C s η) (evSs C r)):=f
 cases e:evS C s η with
 | nx η1 =>
  rw [e] at f'
  exact fun σ' Z' H' Fs' A' t=>⟨pv,Z',Fs',η1,N,A',f'.step t⟩
 | rt w η1=>rw [e] at f'; exact f'
 | bk η1=>rw [e] at f'; exact f'
 | ex t η1=>rw [e] at f'; exact f'
 | no=>rw [e] at f'; exact f'.elim
theorem l3 {s:S}(D:bB)(σ:L2.St)(H:Hp)(h:wSs K Wx sf io C [s] D σ H):wS K Wx sf io C s D σ H:=by
 obtain ⟨pv,Z,Fs,η,N,A,f⟩:=h
 refine ⟨pv,Z,Fs,η,N,A,?_⟩
 have f':Fin K Wx ⟨sf,pv⟩ Z H (tot Fs) D (Fl.seq (evS C s η) (evSs C [])):=f
 cases e:evS C s η with
 | nx η1=>rw [e] at f'; exact f'
 | rt w η1=>rw [e] at f'; exact f'
 | bk η1=>rw [e] at f'; exact f'
 | ex t η1=>rw [e] at f'; exact f'
 | no=>rw [e] at f'; exact f'.elim
theorem bX {α:Type}{r:Res α}{g:α->Fl}(f:Fin K Wx sl Z H F D (Fl.of η r g)):∃ a,r=.ok a/\Fin K Wx sl Z H F D (g a):=by
 cases r with
 | ok a=>exact ⟨a,rfl,f⟩
 | ex t=>exact f.elim
 | no=>exact f.elim
theorem At.setR {i j:Nat}{w:W}{x:V}(N:iz sf io pv)(hi:i ∉ io)(hs:sf i=some j)(A:At K ⟨sf,pv⟩ σ Z H Fs η G)(r:Rep K Z H w.1 w.2 x G1)(q1:∀ a,G1 a->G a)(q2:∀ a,R a->G a)(q3:∀ a,R a->¬ G1 a):At K ⟨sf,pv⟩ (σ.set j (some x)) Z H (la Fs i G1) (M.put η i w) R:=by
 have hj:j < σ.length:=A.ln i j hs
 have B:At K ⟨fun k=>if k=i then none else sf k,pv⟩ (σ.set j (some x)) Z H Fs (M.del η i) G:=by
  refine ⟨A.gd,fun l m t e=>?_,A.own,A.dis,fun l u k hu hk=>?_,fun l k hk=>?_⟩
  ·rw [aP] at e
   split at e
   ·cases e
   ·rename_i hne
    obtain ⟨v,r',h1,h2⟩:=A.env l m t e
    have hl:l≠i:=fun z=>hne ⟨z,by rw [<- z]; exact cO e⟩
    refine ⟨v,r',fun k hk=>?_,h2⟩
    have hk':sf l=some k:=by have:(if l=i then none else sf l)=some k:=hk; rw [if_neg hl] at this; exact this
    have hjk:j≠k:=fun z=>hl (N.inj l i k hk' (by rw [<- z]; exact hs))
    rw [a03 hjk]
    exact h1 k hk'
  ·have hl:l≠i:=fun z=>by
    have hu':pv l=some u:=hu
    rw [z,N.io i hi] at hu'; cases hu'
   have hk':sf l=some k:=by have:(if l=i then none else sf l)=some k:=hk; rw [if_neg hl] at this; exact this
   have hjk:j≠k:=fun z=>hl (N.inj l i k hk' (by rw [<- z]; exact hs))
   rw [a03 hjk]
   exact A.lk l u k hu hk'
  ·have hk':sf l=some k:=by
    have:(if l=i then none else sf l)=some k:=hk
    split at this
    ·cases this
    ·exact this
   rw [a2s]
   exact A.ln l k hk'
 have B2:=At.put (i:=i) (w:=w) (G1:=G1) (R:=R) B r q1 q2 q3 (fun k hk=>by have hk':(if i=i then none else sf i)=some k:=hk; rw [if_pos rfl] at hk'; cases hk') (fun u hu=>by have:=N.io i hi; rw [show pv i=some u from hu] at this; cases this)
 have e1:M.put (M.del η i) i w=M.put η i w:=by
  have:∀ (η:Env) (i:Nat) (a b:Option W),wr (wr η i a) i b=wr η i b:=fun η=>by
   induction η with
   | nil=>intro i a b; rfl
   | cons o η ih=>intro i a b; cases i with
    | zero=>rfl
    | succ i=>show o::wr (wr η i a) i b=o::wr η i b; rw [ih]
  exact this η i none (some w)
 rw [e1] at B2
 refine ⟨B2.gd,fun l m t e=>?_,B2.own,B2.dis,fun l u k hu hk=>?_,fun l k hk=>by rw [a2s]; exact A.ln l k hk⟩
 ·obtain ⟨v,r',h1,h2⟩:=B2.env l m t e
  by_cases hl:l=i
  ·subst hl
   rw [aP] at e
   split at e
   ·cases e
    refine ⟨x,r.mono fun a h=>.inl ⟨rfl,h⟩,fun k hk=>?_,fun u hu=>by have:=N.io l hi; rw [show pv l=some u from hu] at this; cases this⟩
    have:k=j:=by rw [show sf l=some k from hk] at hs; cases hs; rfl
    subst this
    rw [a1d hj]
   ·rename_i hc
    exact absurd ⟨rfl,cO e⟩ hc
  ·refine ⟨v,r',fun k hk=>h1 k ?_,h2⟩
   show (if l=i then none else sf l)=some k
   rw [if_neg hl]; exact hk
 ·by_cases hl:l=i
  ·subst hl
   have:=N.io l hi
   rw [show pv l=some u from hu] at this; cases this
  ·exact B2.lk l u k hu (show (if l=i then none else sf l)=some k by rw [if_neg hl]; exact hk)
theorem At.set {i j:Nat}{w:W}{x:V}(N:iz sf io pv)(hi:i ∉ io)(hs:sf i=some j)(A:At K ⟨sf,pv⟩ σ Z H Fs η G)(r:Rep K Z H w.1 w.2 x G):At K ⟨sf,pv⟩ (σ.set j (some x)) Z H (la Fs i G) (M.put η i w) no:=At.setR N hi hs A r (fun _ h=>h) (fun _ z=>z.elim) (fun _ z=>z.elim)
theorem qk {x:X}{i j:Nat}{e:E}(hi:i ∉ io)(hs:sf i=some j)(D:bB)(σ:L2.St)(H:Hp)(h:wS K Wx sf io C (.asg x i e) D σ H):tm (wE K sf C e) (bN j) D σ H:=by
 obtain ⟨pv,Z,Fs,η,N,A,f⟩:=h
 obtain ⟨⟨w,η1⟩,h1,h2⟩:=bX (show Fin K Wx ⟨sf,pv⟩ Z H (tot Fs) D (Fl.of η (evX C x e η) (kn i)) from f)
 refine sF (sl:=⟨sf,pv⟩) A h1 fun v Z' H' Fs' G B r s=>?_
 exact h2 _ Z' H' _ (At.set N hi hs B r) (s.mono (fun _ z=>z) fun a ha=>aT ha)
theorem nR {e:E}(D:bB)(σ:L2.St)(H:Hp)(h:wS K Wx sf io C (.ret vs e) D σ H):rZ (wE K sf C e) D σ H:=by
 obtain ⟨pv,Z,Fs,η,N,A,f⟩:=h
 obtain ⟨⟨w,η1⟩,h1,h2⟩:=bX (show Fin K Wx ⟨sf,pv⟩ Z H (tot Fs) D (Fl.of η (evE C e (M.share vs η)) kRt) from f)
 exact sF (sl:=⟨sf,pv⟩) (x:=.l vs) A h1 fun v Z' H' Fs' G B r s=>h2 v σ Z' H' Fs' G B r s
theorem o5 {x:X}{c:E}{a b:List S}(D:bB)(σ:L2.St)(H:Hp)(h:wS K Wx sf io C (.ite x c a b) D σ H):ux (wT K sf C c) (wSs K Wx sf io C a) (wSs K Wx sf io C b) D σ H:=by
 obtain ⟨pv,Z,Fs,η,N,A,f⟩:=h
 obtain ⟨⟨k,η1⟩,h1,h2⟩:=bX (show Fin K Wx ⟨sf,pv⟩ Z H (tot Fs) D (Fl.of η (evT C x c η) (kIf (evSs C a) (evSs C b))) from f)
 refine v5 (sl:=⟨sf,pv⟩) A h1 fun Z' H' Fs' B s=>?_
 cases k with
 | true=>rw [if_pos rfl]; exact ⟨pv,Z',Fs',η1,N,B,Fin.step s h2⟩
 | false=>rw [if_neg a0m]; exact ⟨pv,Z',Fs',η1,N,B,Fin.step s h2⟩
end
end MR
namespace MR
open L2 L3 M
open PySem (Addr Str sizeLine)
end MR
namespace MR
open L2 L3 M
open PySem (Addr Str sizeLine)
section
variable {K:a0a}{Wx:L2.St->VK}{sl:Cf}{sf sg:Nat->Option Nat}{C:Call}{σ σ2:L2.St}{Z Z' Z1:Fp}{H H' H1:Hp}{Fs Fs' Fs1:Fps}{η η' η1 ηb:Env}{G G' G1 R F F':Fp}{tg is vs ls io:List Nat}{pv val:Nat->Option V}{D:bB}
noncomputable def gF (K:a0a):List Nat->TG
 | [j]=>bN j
 | [j,l]=>tE K 2 (f6 (bN j) (f6 (bN l) ua))
 | _=>fun _ _ _ _=>False
theorem iX {fl:Fl}{g:Env->Fl}(f:Fin K Wx sl Z H F D (Fl.turn fl g)):(∃ η',fl=.nx η'/\Fin K Wx sl Z H F D (g η'))\/(∃ η',fl=.bk η'/\Fin K Wx sl Z H F D (.nx η'))\/(∃ w η',fl=.rt w η'/\Fin K Wx sl Z H F D (.rt w η'))\/(∃ t η',fl=.ex t η'/\Fin K Wx sl Z H F D (.ex t η')):=by
 cases fl with
 | nx η=>exact .inl ⟨η,rfl,f⟩
 | bk η=>exact .inr (.inl ⟨η,rfl,f⟩)
 | rt w η=>exact .inr (.inr (.inl ⟨w,η,rfl,f⟩))
 | ex t η=>exact .inr (.inr (.inr ⟨t,η,rfl,f⟩))
 | no=>exact f.elim
theorem jC {fl:Fl}{g:Env->Fl}{N:L2.St->Hp->Prop}(f:Fin K Wx sl Z H F D (Fl.turn fl g))(hN:∀ η' σ' Z' H' Fs',fl=.nx η'->Fin K Wx sl Z H F D (g η')->At K sl σ' Z' H' Fs' η' no->Step Z H F Z' H' (tot Fs')->N σ' H'):Fin K Wx sl Z H F { D with nx:=N,ct:=N,bk:=D.nx } fl:=by
 rcases iX f with ⟨η',rfl,f⟩ | ⟨η',rfl,f⟩ | ⟨w,η',rfl,f⟩ | ⟨t,η',rfl,f⟩
 ·exact fun σ' Z' H' Fs' A s=>hN η' σ' Z' H' Fs' rfl f A s
 ·exact f
 ·exact f
 ·exact f
theorem j6 {n i:Nat}{J:It}{ts:List (List W)}{ws:List W}{js:List Nat}{x:V}{Q:L2.St->Hp->Prop}(hn:tg.length=n)(nd:tg.Nodup)(N:iz sf io pv)(hio:∀ t∈tg,t ∉ io)(hjs:tg.map sf=js.map some)(hz:∀ a,Z1 a->Z a)(st:Stay Z1 H1 H)(yl:Yld K J Z1 H1 ts n)(A:At K ⟨sf,pv⟩ σ Z H Fs η no)
  (hw:ts[i]?=some ws) (hb:aI tg ws η=some ηb) (y:J.yld i H x H') (k:∀ σ2 H2 Fs2,At K ⟨sf,pv⟩ σ2 Z H2 Fs2 ηb no->Step Z H (tot Fs) Z H2 (tot Fs2)->Q σ2 H2):gF K js x σ H' Q:=by
 have hi:i < ts.length:=(a0n.mp hw).1
 match n,yl with
 | 1,yl =>
  obtain ⟨e0,w,hw',r⟩:=yl H i x H' st hi y
  rw [e0]
  rw [hw] at hw'; cases hw'
  match tg,hn,js,hjs with
  | [t],_,[j],hjs =>
   cases hb
   have hs:sf t=some j:=by simpa using hjs
   exact k _ H _ (At.set N (hio t (by simp)) hs A (r.zmono hz)) ((Step.refl _ _ _).mono (fun _ z=>z) fun a h=>(aT h).elim id fun z=>z.elim)
  | [t],_,[],hjs=>simp at hjs
  | [t],_,_::_::_,hjs=>simp at hjs
 | 2,yl =>
  obtain ⟨p,y1,z1,u,w,rfl,sm,hq,hw',r1,r2⟩:=yl H i x H' st hi y
  rw [hw] at hw'; cases hw'
  match tg,hn,js,hjs with
  | [t,t'],_,[j,j'],hjs =>
   cases hb
   have hs:sf t=some j:=by simp at hjs; exact hjs.1
   have hs':sf t'=some j':=by simp at hjs; exact hjs.2
   have s0:Step Z H no Z H' no:=cx sm
   obtain ⟨A1,s1⟩:=A.op a6 s0
   have sn:Stay Z H H':=d7 sm
   have r1':Rep K Z H' u.1 u.2 y1 no:=(r1.zmono hz).keep sn (fun _ z=>z) fun _ _ z=>z.elim
   have r2':Rep K Z H' w.1 w.2 z1 no:=(r2.zmono hz).keep sn (fun _ z=>z) fun _ _ z=>z.elim
   have A2:=At.set N (hio t (by simp)) hs A1 r1'
   have A3:=At.set N (hio t' (by simp)) hs' A2 r2'
   refine ⟨p,[y1,z1],rfl,hq,rfl,y1,[z1],rfl,z1,[],rfl,rfl,k _ _ _ A3 (s1.mono (fun a h=>h.elim id fun z=>z.elim) fun a h=>?_)⟩
   rcases aT h with h | h
   ·exact .inl ((aT h).elim id fun z=>z.elim)
   ·exact h.elim
  | [t,t'],_,[],hjs=>simp at hjs
  | [t,t'],_,[_],hjs=>simp at hjs
  | [t,t'],_,_::_::_::_,hjs=>simp at hjs
theorem qm {n:Nat}{k:Ik}{src:List E}{js:List Nat}{body:List S}(hn:tg.length=n)(nd:tg.Nodup)(hio:∀ t∈tg,t ∉ io)(hjs:tg.map sf=js.map some)(D:bB)(σ:L2.St)(H:Hp)(h:wS K Wx sf io C (.forS vs ls k src tg body) D σ H) :
  uz (wI K sf C n k src) (gF K js) (wSs K Wx sf io C body) D σ H:=by
 obtain ⟨pv,Z,Fs,η,N,A,f⟩:=h
 obtain ⟨⟨ws,η2⟩,h1,h2⟩:=bX (show Fin K Wx ⟨sf,pv⟩ Z H (tot Fs) D (Fl.of η (evL C src (bK vs ls η)) (ko vs k tg (evSs C body) η)) from f)
 obtain ⟨⟨ts,η3⟩,h3,h4⟩:=bX (show Fin K Wx ⟨sf,pv⟩ Z H (tot Fs) D (Fl.of η (ret (M.share vs η) (aQ k ws)) (fM tg (evSs C body))) from h2)
 obtain ⟨ts',ht,e3⟩:=ai h3
 have e4:ts=ts':=congrArg a2P e3
 have e5:η3=M.share vs η:=congrArg a1q e3
 subst e4 e5
 have h4':Fin K Wx ⟨sf,pv⟩ Z H (tot Fs) D (eH tg (evSs C body) ts (M.share vs η)):=h4
 refine ⟨pv,_,jl,_,ws,η2,ts,A.quiet (vs:=vs) (ls:=ls),h1,ht,fun J Z1 H1 Fs1 B s wk yl=>?_⟩
 obtain ⟨B1,s1⟩:=bE (G:=no) A a6 B.gd.zal (s.mono (F2:=fun a=>tot Fs1 a\/no a) (fun _ z=>z) fun a h=>h.elim id fun z=>z.elim) fun a h=>dA h
 obtain ⟨B2,s2⟩:=B1.share (vs:=vs)
 have s3:=(s2 s1).mono (F2:=tot (b7 Fs vs)) (fun _ z=>z) fun _ z=>.inl z
 have zz:∀ a,Z1 a->((Z1 a/\¬ bf Fs vs a)\/bf Fs vs a):=fun a h=>(a2L (bf Fs vs a)).elim .inr fun q=>.inl ⟨h,q⟩
 refine ⟨fun i m σ' H'=>m=ts.length-i/\i<=ts.length/\∃ Zi Fsi ηi,At K ⟨sf,pv⟩ σ' Zi H' Fsi ηi no/\Step (fun a=>(Z1 a/\¬ bf Fs vs a)\/bf Fs vs a) H1 (tot (b7 Fs vs)) Zi H' (tot Fsi)/\Fin K Wx ⟨sf,pv⟩ Zi H' (tot Fsi) D (eH tg (evSs C body) (ts.drop i) ηi),⟨ts.length,by simp,a0T _,_,_,_,B2,Step.refl _ _ _,h4'.step s3⟩,?_⟩
 rintro i m σi H0 ⟨rfl,hi,Zi,Fsi,ηi,Ai,si,fi⟩
 have st:Stay Z1 H1 H0:=by
  have:=B2.gd.own.stay si
  exact ⟨fun a o h=>this.1 a o (zz a h),this.2⟩
 by_cases hlt:i < ts.length
 ·right
  refine ⟨wk.go H0 i st hlt,_,fun σ' H' hw=>⟨ts.length-(i+1),by omega,hw⟩,fun x H' y=>?_⟩
  have hw:ts[i]?=some ts[i]:=by simp [hlt]
  rw [dg hw] at fi
  obtain ⟨ηb,hb,fb⟩:=bX (show Fin K Wx ⟨sf,pv⟩ Zi H0 (tot Fsi) D (Fl.of ηi (ofO (aI tg ts[i] ηi)) fun η1=>Fl.turn (evSs C body η1) (eH tg (evSs C body) (ts.drop (i+1)))) from fi)
  refine j6 hn nd N hio hjs (fun a h=>si.zm a (zz a h)) st yl Ai hw (bo hb) y fun σ2 H2 Fs2 A2 t2=>?_
  refine ⟨pv,Zi,Fs2,ηb,N,A2,jC (fb.step t2) fun η' σ' Z' H' Fs' _ f' A' s'=>⟨rfl,hlt,Z',Fs',η',A',(si.trans t2).trans s',f'.step s'⟩⟩
 ·left
  have hi':i=ts.length:=by omega
  subst hi'
  rw [a2i] at fi
  exact ⟨wk.stop H0 _ st (a0j _),fi σi Zi H0 Fsi Ai (Step.refl _ _ _)⟩
end
end MR

namespace MR
open PySem PySem.Spec PyProof.Rows L2 L3
section
variable {X:Cx}{sf sg:Nat->Option Nat}{C:M.Call}{pos p2:Pos}{ea eb ec:Expr}{a b c:M.E}{h:Bool}{n:Nat}
theorem aE {e:Expr}{t t':TE}(h:PE X e t)(hw:∀ σ H Q,t' σ H Q->t σ H Q):PE X e t':=fun pins s σ H Q I q=>h pins s σ H Q I (hw σ H Q q)
theorem jD {e:Expr}{t t':TT}(h:PT X e t)(hw:∀ σ H Q,t' σ H Q->t σ H Q):PT X e t':=fun pins s σ H Q I q=>h pins s σ H Q I (hw σ H Q q)
theorem uA {e:Expr}{t t':TT}(h:PW X e t)(hw:∀ σ H Q,t' σ H Q->t σ H Q):PW X e t':=fun whole pins s σ H Q I q=>h whole pins s σ H Q I (hw σ H Q q)
theorem fZ {es:List Expr}{t t':TA}(h:PA X es t)(hw:∀ σ H Q,t' σ H Q->t σ H Q):PA X es t':=fun pos pins s σ H Q I q=>h pos pins s σ H Q I (hw σ H Q q)
theorem fX {s:Stmt}{t t':TS}(h:PS X s t)(hw:∀ D σ H,t' D σ H->t D σ H):PS X s t':=fun pins s σ H D I q=>h pins s σ H D I (hw D σ H q)
theorem fy {s:List Stmt}{t t':TS}(h:PSs X s t)(hw:∀ D σ H,t' D σ H->t D σ H):PSs X s t':=fun pins s σ H D I q=>h pins s σ H D I (hw D σ H q)
theorem m7 {tg e:Expr}{t t':TI}(h:PI X tg e t)(hw:∀ σ H R,t' σ H R->t σ H R):PI X tg e t':=fun pins s σ H R I q=>h pins s σ H R I (hw σ H R q)
theorem sE {tg e:Expr}{t t':TI}(h:PI X tg e t)(h':PI X tg e t'):PI X tg e (fun σ H R=>t σ H R\/t' σ H R):=fun pins s σ H R I q=>q.elim (h pins s σ H R I) (h' pins s σ H R I)
noncomputable abbrev SE (X:Cx)(sf:Nat->Option Nat)(C:M.Call)(me:Expr)(e:M.E):Prop:=PE X me (wE X.K sf C e)
noncomputable abbrev SB (X:Cx)(sf:Nat->Option Nat)(C:M.Call)(me:Expr)(e:M.E):Prop:=PT X me (wT X.K sf C e)
noncomputable abbrev SL (X:Cx)(sf:Nat->Option Nat)(C:M.Call)(me:List Expr)(es:List M.E):Prop:=PA X me (wL X.K sf C es)
noncomputable abbrev SA (X:Cx)(sf:Nat->Option Nat)(C:M.Call)(me:List Expr)(es:List M.E):Prop:=PA X me (wA X.K sf C es)
noncomputable abbrev SS (X:Cx)(sf:Nat->Option Nat)(io:List Nat)(C:M.Call)(ms:Stmt)(s:M.S):Prop:=PS X ms (wS X.K (xw X) sf io C s)
noncomputable abbrev SSs (X:Cx)(sf:Nat->Option Nat)(io:List Nat)(C:M.Call)(ms:List Stmt)(s:List M.S):Prop:=PSs X ms (wSs X.K (xw X) sf io C s)
theorem sV (j:Nat){i:Nat}{x:Str}(hs:sf i=some j:=by rfl)(hN:X.N[j]?=some x:=by rfl)(hv:Vis X.env.scope x:=by first | exact a1r rfl | exact a1j (a1r rfl) | exact a1j (a1j rfl))(hd:(x==("__debug__":Str))=false:=by decide)
  (hcd:(x==("__classdict__":Str))=false:=by decide):SE X sf C (.Name x pos) (.var i):=aE (aq hN hv hd hcd) (n6 hs)
theorem sM (j:Nat){i:Nat}{x:Str}(hs:sf i=some j:=by rfl)(hN:X.N[j]?=some x:=by rfl)(hv:Vis X.env.scope x:=by first | exact a1r rfl | exact a1j (a1r rfl) | exact a1j (a1j rfl))(hd:(x==("__debug__":Str))=false:=by decide)
  (hcd:(x==("__classdict__":Str))=false:=by decide):SE X sf C (.Name x pos) (.mv i):=aE (aq hN hv hd hcd) (pk (fun _=>rfl) hs)
theorem sI {i:Int}{k:Nat}:SE X sf C (.Constant (.int i) k pos) (.cst (.int i)):=aE qQ (fz fun {_ _}=>rfl)
theorem sO {i:Bool}{k:Nat}:SE X sf C (.Constant (.bool i) k pos) (.cst (.bl i)):=aE su (fz fun {_ _}=>rfl)
theorem aG (s:String)(hl:s.length<=1000):M.sOk (Str.ofString s)=true:=by
 unfold M.sOk
 rw [Str.ofString_eq_toList,a0d]
 refine ⟨?_,decide_eq_true ?_⟩
 ·rw [a1c]
  intro x hx
  rw [List.mem_toArray,a2b] at hx
  obtain ⟨c,_,rfl⟩:=hx
  refine decide_eq_true ?_
  have:=c.valid
  have h2:c.toNat < 0x110000:=by
   have h3:=c.valid
   unfold UInt32.isValidChar Nat.isValidChar at h3
   show c.val.toNat < _
   omega
  exact h2
 ·rw [a0i,a0g,a1P]
  exact a0k hl (by decide)
theorem sS {s:String}{k:Nat}(hl:s.length<=1000:=by decide):SE X sf C (.Constant (.str (Str.ofString s)) k pos) (.cst (.str (Str.ofString s))):=aE rz (fz fun {_ _}=>⟨rfl,aG s hl⟩)
theorem sl0:SL X sf C [] []:=fZ aY p6
theorem slc {es:List Expr}{bs:List M.E}(ha:SE X sf C ea a)(hb:SL X sf C es bs)(hs:starEach (ea::es) X.env=(false,eval ea X.env)::starEach es X.env:=by rfl):SL X sf C (ea::es) (a::bs):=fZ (ax ha hb hs) mr
theorem sLs {es:List Expr}{bs:List M.E}(hh:SL X sf C es bs)(hn:bs.length<=M.LIM:=by decide):SE X sf C (.List es pos) (.lst h bs):=aE (oV hh) (n8 hn)
theorem vB (ha:SE X sf C ea a)(hb:SE X sf C eb b):SE X sf C (.BinOp ea .Add eb pos) (.op .add h [a,b]) :=
 aE (eD (op_add.or (op_add_str.or (op_cat.or kL))) ha hb) (a5 (lO (nC X.K) fun {Z H G Q a b xs ys ts} h1 h2 h3 h4 ow r k=>by
  obtain ⟨G',g1,g2⟩:=r
  refine ⟨a,b,xs,ys,rfl,rfl,h1,h2,h3,LIM_le h4,fun v H' same hv=>eJ (m:=.s) ow g1 ?_ g2 k same hv⟩
  rw [a0t]; exact h4))
theorem vU (ha:SE X sf C ea a)(hb:SE X sf C eb b):SE X sf C (.BinOp ea .Sub eb pos) (.op .sub h [a,b]):=aE (eD pj ha hb) (a5 ll)
theorem vK (ha:SE X sf C ea a)(hb:SE X sf C eb b):SE X sf C (.BinOp ea .Mult eb pos) (.op .mul h [a,b]):=aE (eD (op_mul.or oM) ha hb) (a5 kP)
theorem q8 (ha:SE X sf C ea a)(hb:SE X sf C eb b):SE X sf C (.BinOp ea .Mod eb pos) (.op .mod h [a,b]):=aE (eD pF ha hb) (a5 l6)
theorem sD (ha:SE X sf C ea a)(hb:SE X sf C eb b):SE X sf C (.BinOp ea .Pow eb pos) (.op .pow h [a,b]):=aE (eD nM ha hb) (a5 kY)
theorem sIx (ha:SE X sf C ea a)(hb:SE X sf C eb b)(hs:dN eb:=by intro _ _; rfl):SE X sf C (.Subscript ea eb pos) (.op .ix h [a,b]):=aE (rM (ix_any.or nS) ha hb hs) (a5 nX)
mutual
noncomputable def th:M.T->Th
 | .non=>.non | .bl b=>.bl b | .int i=>.int i | .str x=>.str x | .tup ts=>.tup (ths ts) | .lst ts=>.lst (ths ts) | .dct _ _=>.non | .ins _ _ _=>.non | .scr _=>.non | .gone=>.non
noncomputable def ths:List M.T->List Th
 | []=>[]
 | t::ts=>th t::ths ts
end
mutual
theorem dv {K:a0a}{Z:Fp}{H:Hp}:∀ {t:M.T} {m:M.Md} {v:V} {G:Fp} {n:Nat},M.dp t<=n->n<=64->Rep K Z H m t v G->Has K H (th t) v/\(toD (th t)).canLay0=true/\(toD (th t)).depth<=n
 | .non,_,_,_,_,_,_,r=>⟨r,rfl,a0T _⟩
 | .bl _,_,_,_,_,_,_,r=>⟨r,rfl,a0T _⟩
 | .int _,_,_,_,_,_,_,r=>⟨r,rfl,a0T _⟩
 | .str x,_,_,_,_,_,_,r=>⟨r.1,by have h:=r.2; unfold M.sOk at h; rw [a0d] at h; exact h.1,a0T _⟩
 | .tup ts,m,v,G,n,hd,hn,⟨a,xs,e,q,l,r⟩=>by
  have hd':M.dps ts+1<=n:=hd
  match n,hd' with
  | n+1,hd' =>
   obtain ⟨h1,h2,h3⟩:=ck (n:=n) (by omega) (by omega) r
   exact ⟨⟨a,xs,e,q,h1⟩,h2,a2j h3⟩
 | .lst ts,m,v,G,n,hd,hn,⟨a,xs,e,l,q,r⟩=>by
  have hd':M.dps ts+1<=n:=hd
  match n,hd' with
  | n+1,hd' =>
   obtain ⟨h1,h2,h3⟩:=ck (n:=n) (by omega) (by omega) r
   exact ⟨⟨a,xs,e,by cases m<;>exact q.2,h1⟩,h2,a2j h3⟩
 | .dct _ _,_,_,_,_,hd,hn,_=>by have:1000<=64:=a0k hd hn; omega
 | .ins _ _ _,_,_,_,_,hd,hn,_=>by have:1000<=64:=a0k hd hn; omega
 | .gone,_,_,_,_,hd,hn,_=>by have:1000<=64:=a0k hd hn; omega
 | .scr _,_,_,_,_,hd,hn,_=>by have:1000<=64:=a0k hd hn; omega
theorem ck {K:a0a}{Z:Fp}{H:Hp}:∀ {ts:List M.T} {m:M.Md} {xs:List V} {G:Fp} {n:Nat},M.dps ts<=n->n<=64->RepL K Z H m ts xs G->HasL K H (ths ts) xs/\PyData.canLayAll0 (bL (ths ts))=true/\PyData.depthAll (bL (ths ts))<=n
 | [],_,_,_,_,_,_,r=>⟨r,rfl,a0T _⟩
 | t::ts,m,xs,G,n,hd,hn,⟨x,r,G1,G2,e,_,_,_,p,q⟩=>by
  have hd':max (M.dp t) (M.dps ts)<=n:=hd
  obtain ⟨h1,h2,h3⟩:=dv (n:=n) (by omega) hn p
  obtain ⟨k1,k2,k3⟩:=ck (n:=n) (by omega) hn q
  refine ⟨⟨x,r,e,h1,k1⟩,?_,?_⟩
  ·show ((toD (th t)).canLay0&&PyData.canLayAll0 (bL (ths ts)))=true
   rw [h2,k2]; rfl
  ·show max (toD (th t)).depth (PyData.depthAll (bL (ths ts)))<=n
   omega
end
mutual
theorem ff:∀ (t u:M.T),M.dp t<=64->M.dp u<=64->PyData.eqv (toD (th t)) (toD (th u))=M.eqT t u
 | .dct _ _,_,h,_=>by have:1000<=64:=h; omega
 | .ins _ _ _,_,h,_=>by have:1000<=64:=h; omega
 | .gone,_,h,_=>by have:1000<=64:=h; omega
 | .scr _,_,h,_=>by have:1000<=64:=h; omega
 | .non,u,_,h=>by cases u<;>first | rfl | (have:1000<=64:=h; omega)
 | .bl a,u,_,h=>by cases u<;>first | rfl | (cases a<;>rfl) | (have:1000<=64:=h; omega)
 | .int i,u,_,h=>by
  cases u with
  | bl b=>cases b<;>rfl
  | _=>first | rfl | (have:1000<=64:=h; omega)
 | .str x,u,_,h=>by cases u<;>first | rfl | (have:1000<=64:=h; omega)
 | .tup ts,u,h1,h=>by
  cases u with
  | tup us=>exact dI ts us (by have:M.dps ts+1<=64:=h1; omega) (by have:M.dps us+1<=64:=h; omega)
  | _=>first | rfl | (have:1000<=64:=h; omega)
 | .lst ts,u,h1,h=>by
  cases u with
  | lst us=>exact dI ts us (by have:M.dps ts+1<=64:=h1; omega) (by have:M.dps us+1<=64:=h; omega)
  | _=>first | rfl | (have:1000<=64:=h; omega)
theorem dI:∀ (ts us:List M.T),M.dps ts<=64->M.dps us<=64->PyData.eqvAll (bL (ths ts)) (bL (ths us))=M.eqTs ts us
 | [],[],_,_=>rfl
 | [],_::_,_,_=>rfl
 | _::_,[],_,_=>rfl
 | t::ts,u::us,h1,h2=>by
  have h1':max (M.dp t) (M.dps ts)<=64:=h1
  have h2':max (M.dp u) (M.dps us)<=64:=h2
  show (PyData.eqv (toD (th t)) (toD (th u))&&PyData.eqvAll (bL (ths ts)) (bL (ths us)))=(M.eqT t u&&M.eqTs ts us)
  rw [ff t u (by omega) (by omega),dI ts us (by omega) (by omega)]
end
theorem dD {K:a0a}{Z:Fp}{H:Hp}{t:M.T}{m:M.Md}{v:V}{G:Fp}(hd:M.dp t<=64)(r:Rep K Z H m t v G):Has K H (th t) v/\dX (th t):=by
 obtain ⟨h1,h2,h3⟩:=dv hd (a0j _) r
 refine ⟨h1,?_⟩
 show ((toD (th t)).canLay0&&decide ((toD (th t)).depth<=64))=true
 rw [h2,decide_eq_true h3]; rfl
theorem pq {K:a0a}:Loc K 2 .eq h fun xs H Q=>∀ x y,xs=[x,y]->∃ t t',Has K H t x/\Has K H t' y/\dX t/\dX t'/\Q (.bl (PyData.eqv (toD t) (toD t'))) H:=by
 intro ws w xs Z H G Q hn e r ow za k x y hx
 subst hx
 obtain ⟨⟨m,a⟩,⟨n,b⟩,rfl⟩:=er r.length.symm
 obtain ⟨G1,G2,w1,w2,d,r1,r2⟩:=b4 r
 have e':(if decide (M.dp a<=64)&&decide (M.dp b<=64) then some ((.d,.bl (M.eqT a b)):M.W) else none)=some w:=e
 split at e'
 ·rename_i hc
  rw [a0d,decide_eq_true_eq,decide_eq_true_eq] at hc
  cases e'
  obtain ⟨h1,o1⟩:=dD hc.1 r1
  obtain ⟨h2,o2⟩:=dD hc.2 r2
  refine ⟨th a,th b,h1,h2,o1,o2,?_⟩
  rw [ff a b hc.1 hc.2]
  exact cG k
 ·cases e'
theorem qL {K:a0a}:Loc K 2 .ne h fun xs H Q=>∀ x y,xs=[x,y]->∃ t t',Has K H t x/\Has K H t' y/\dX t/\dX t'/\Q (.bl (!PyData.eqv (toD t) (toD t'))) H:=by
 intro ws w xs Z H G Q hn e r ow za k x y hx
 subst hx
 obtain ⟨⟨m,a⟩,⟨n,b⟩,rfl⟩:=er r.length.symm
 obtain ⟨G1,G2,w1,w2,d,r1,r2⟩:=b4 r
 have e':(if decide (M.dp a<=64)&&decide (M.dp b<=64) then some ((.d,.bl (!M.eqT a b)):M.W) else none)=some w:=e
 split at e'
 ·rename_i hc
  rw [a0d,decide_eq_true_eq,decide_eq_true_eq] at hc
  cases e'
  obtain ⟨h1,o1⟩:=dD hc.1 r1
  obtain ⟨h2,o2⟩:=dD hc.2 r2
  refine ⟨th a,th b,h1,h2,o1,o2,?_⟩
  rw [ff a b hc.1 hc.2]
  exact cG k
 ·cases e'
theorem sEq (hr:Room n X.A)(ha:SE X sf C ea a)(hb:SE X sf C eb b):SE X sf C (.Compare ea [.Eq] [eb] pos) (.op .eq h [a,b]):=aE (lH (lR hr.units) ha hb (fq _)) (a5 pq)
theorem gc {K:a0a}{Z:Fp}{H:Hp}{G:Fp}{m:M.Md}{ts:List M.T}{xs:List V}(lo hi:Option Int)(r:RepL K Z H m ts xs G):RepL K Z H m (M.cut ts lo hi) (bJ xs lo hi) G:=by
 have e:=r.length
 have hs:∀ n d o,HT.sIx n d o=M.sIx n d o:=fun n d o=>by cases o<;>rfl
 have hc:bJ xs lo hi=(xs.drop (M.sIx ts.length 0 lo)).take (M.sIx ts.length ts.length hi-M.sIx ts.length 0 lo):=by
  unfold bJ
  rw [hs,hs,e]
 rw [hc]
 exact (r.drop _).take _
theorem ki (ns:List Int)(lo hi:Option Int):bJ (ns.map V.int) lo hi=(M.cut ns lo hi).map V.int:=by
 have hs:∀ n d o,HT.sIx n d o=M.sIx n d o:=fun n d o=>by cases o<;>rfl
 unfold bJ M.cut
 rw [hs,hs,a0g,List.map_take,List.map_drop]
theorem oz {α:Type}(xs:List α)(lo hi:Option Int):(M.cut xs lo hi).length<=xs.length:=by
 unfold M.cut
 rw [a0U,a1A]; omega
theorem oa {K:a0a}{Z:Fp}{H:Hp}{G G1:Fp}{Q:VK}{m:M.Md}{a:M.T}{x:V}{w:M.W}{lo hi:Option Int}(hg:∀ b,G1 b->G b)(ow:Own Z H G)(za:∀ a,Z a->H a≠none)(r:Rep K Z H m a x G1)
  (e:(match a with | .lst ts=>M.newL h m.kid (M.cut ts lo hi) | .tup ts=>some ((.s,.tup (M.cut ts lo hi)):M.W) | .scr ns=>some (.d,.lst ((M.cut ns lo hi).map M.T.int)) | _=>none)=some w) (k:Out K Z H G w Q):ri K x lo hi H Q\/qN K x lo hi H Q:=by
 cases a with
 | lst ts =>
  obtain ⟨p,xs,rfl,hs,hl,q⟩:=bg r
  refine .inl ⟨p,xs,rfl,.inl (.inl hs),fun l hl'=>?_⟩
  exact cB ow za (a0k (aV xs lo hi) hl) ⟨G1,hg,(gc lo hi q).zmono fun _ z=>.inl z⟩ e k hl'
 | tup ts =>
  obtain ⟨p,xs,rfl,hs,hl,q⟩:=bC r
  cases e
  refine .inr ⟨p,xs,rfl,hs,fun v H' same hv=>?_⟩
  exact eJ (m:=.s) (G':=no) ow (fun _ z=>z.elim) (a0k (aV xs lo hi) hl) ((RepL.sh (gc lo hi q)).zmono fun b hb=>hb.imp id fun z=>⟨hg b z,fun q=>q⟩) k same hv
 | scr ns =>
  obtain ⟨p,rfl,hL,hs⟩:=r
  cases e
  refine .inl ⟨p,_,rfl,hs.sq,fun l hl'=>?_⟩
  rw [ki]
  exact bj (m:=.d) (G':=no) ow za (fun _ z=>z.elim) (by rw [a0g]; exact a0k (oz ns lo hi) hL) (jm _) (by simp) k hl'
 | _=>cases e
theorem uM {p3:Pos}(ha:SE X sf C ea a)(hb:SE X sf C eb b):SE X sf C (.Subscript ea (.Slice none (some eb) none p3) pos) (.op .sl2 h [a,b]) :=
 aE (jH (sl_list.or l9) ha mj (mJ hb)) (fun σ H Q hw=>a5 (r:=fun x y H Q=>∃ i,y=.int i/\(ri X.K x none (some i) H Q\/qN X.K x none (some i) H Q)) (by
  intro ws w xs Z H G Q hn e r ow za k x y hx
  subst hx
  obtain ⟨⟨m,a⟩,⟨n,b⟩,rfl⟩:=er r.length.symm
  obtain ⟨G1,G2,w1,w2,d,r1,r2⟩:=b4 r
  cases b with
  | int i=>exact ⟨i,r2,oa (h:=h) (lo:=none) (hi:=some i) w1 ow za r1 (by cases a<;>exact e) k⟩
  | _=>cases a<;>cases e) σ H Q hw)
theorem ke {K:a0a}:Loc K 1 .len h fun xs H Q=>∃ x n,xs=[x]/\uY K x H n/\Q (.int n) H:=by
 intro ws w xs Z H G Q hn e r ow za k
 obtain ⟨x,n,hx,hm,q⟩:=mW (h:=h) ws w xs Z H G Q hn e r ow za k
 exact ⟨x,n,hx,by cases x<;>exact hm,q⟩
section
variable {p:Pos}{x1:Str}
theorem vP (hm:X.mg "len"=none)(hg:Gl X "len":=by rfl)(ha:SE X sf C ea a)(hs:starEach [ea] X.env=(false,eval ea X.env)::starEach [] X.env:=by rfl)(hpl:(backTo pos (starEach [] X.env)).any (·.1)=false:=by rfl):SE X sf C (.Call (.Name "len" p) [ea] [] pos) (.op .len h [a]) :=
 aE (cF ib hg hm PySem.boot_len (slc ha sl0 hs) (by decide) (by decide) hs hpl) (iQ ke rfl)
end
theorem k8 {K:a0a}{x:V}{H:Hp}{k:Bool}(h:TrV K x H k):rj K x H k:=by
 cases x with
 | ref p=>exact h.imp id .inl
 | byt _=>exact h.elim
 | _=>exact h
theorem tB (ha:SE X sf C ea a)(he:∀ whole,isTrue ea X.env whole=(do let v <- whole; standAt ea.pos; holding [v] (truthy v)):=by intro _; rfl):SB X sf C ea a :=
 jD (jf ha he) fun σ H Q h=>by
  obtain ⟨pv,Z,Fs,η,w,η',b,A,ev,ht,k⟩:=h
  exact ⟨pv,Z,Fs,η,w,η',A,ev,fun v Z' H' Fs' G B r s=>⟨b,k8 (gN ht r),k Z' H' Fs' B.bare (s.mono (fun _ z=>z) fun _ z=>.inl z)⟩⟩
theorem m6 (ha:SB X sf C ea a):SB X sf C (.UnaryOp .Not ea pos) (.not a):=jD (qf ha) pW
theorem uL {σ:L2.St}{H:Hp}{Q:Bool->Hp->Prop}(hb:∀ η w η',M.evE C a η=.ok (w,η')->∃ b,w.2=.bl b)(h:wT X.K sf C a σ H Q):nE (wE X.K sf C a) σ H Q:=by
 obtain ⟨pv,Z,Fs,η,w,η',b,A,ev,ht,k⟩:=h
 refine ⟨pv,Z,Fs,η,w,η',A,ev,fun v Z' H' Fs' G B r s=>⟨b,?_,k Z' H' Fs' B.bare (s.mono (fun _ z=>z) fun _ z=>.inl z)⟩⟩
 obtain ⟨b',hb'⟩:=hb _ _ _ ev
 rw [hb'] at ht r
 cases ht
 exact r
theorem rY {o:M.Op}(ho:∀ u v w,M.oSem o h [u,v]=some w->∃ b,w.2=.bl b):∀ η w η',M.evE C (.op o h [a,b]) η=.ok (w,η')->∃ b,w.2=.bl b:=fun η w η' e=>by
 obtain ⟨ws,h1,h2⟩:=bp e
 obtain ⟨u,η1,us,_,e2,rfl⟩:=az h1
 obtain ⟨v,η2,us,_,e4,rfl⟩:=az e2
 cases e4
 exact ho u v w h2
theorem fV {op:CmpOp}{r:R2}{o:M.Op}(ho:OpR X (compareOp op) r)(ha:SE X sf C ea a)(hb:SE X sf C eb b)(hm:behindInMarks op eb=false)(hl:∀ σ H Q,wE X.K sf C (.op o h [a,b]) σ H Q->tOp r (wE X.K sf C a) (wE X.K sf C b) σ H Q)
  (hbl:∀ u v w,M.oSem o h [u,v]=some w->∃ b,w.2=.bl b):SB X sf C (.Compare ea [op] [eb] pos) (.op o h [a,b]) :=
 jD (kx ho ha hb hm) fun σ H Q hw=>hl σ H _ (uL (rY hbl) hw)
theorem sU {u v w:M.W}(e:M.oSem .ne h [u,v]=some w):∃ b,w.2=.bl b:=by
 obtain ⟨m,a⟩:=u; obtain ⟨n,b⟩:=v
 have e':(if decide (M.dp a<=64)&&decide (M.dp b<=64) then some ((.d,.bl (!M.eqT a b)):M.W) else none)=some w:=e
 split at e'
 ·cases e'; exact ⟨_,rfl⟩
 ·cases e'
theorem vT (ha:SE X sf C ea a)(hb:SE X sf C eb b):SB X sf C (.Compare ea [.Gt] [eb] pos) (.op .gt h [a,b]):=fV t7 ha hb (fq _) (a5 qa) fun u v w e=>by obtain ⟨_,_,_,_,_,_,rfl⟩:=i7 e; exact ⟨_,rfl⟩
theorem mi (hr:Room n X.A)(ha:SE X sf C ea a)(hb:SE X sf C eb b):SB X sf C (.Compare ea [.NotEq] [eb] pos) (.op .ne h [a,b]):=fV (lJ hr.units) ha hb (fq _) (a5 qL) fun u v w e=>sU e
noncomputable abbrev SW (X:Cx)(sf:Nat->Option Nat)(C:M.Call)(me:Expr)(e:M.E):Prop:=PW X me (wT X.K sf C e)
theorem wO1 (ha:SB X sf C ea a):SW X sf C (.BoolOp .Or [ea] pos) a:=qg ha
theorem wOr {rest:List Expr}(ha:SB X sf C ea a)(hb:SW X sf C (.BoolOp .Or (eb::rest) pos) b):SW X sf C (.BoolOp .Or (ea::eb::rest) pos) (.or a b):=uA (rQ ha hb) r9
theorem tW (h:SW X sf C ea a):SB X sf C ea a:=h.pt
theorem sIf (hc:SB X sf C ec c)(ha:SE X sf C ea a)(hb:SE X sf C eb b):SE X sf C (.IfExp ec ea eb pos) (.ifx c a b):=aE (jO hc ha hb) nY
theorem uV {tg:Expr}(ha:SE X sf C ea a):PI X tg ea (wI X.K sf C 1 .seq [a]):=m7 (sE (lF ha) (oq ha)) qv
theorem sA {tg:Expr}{p:Pos}(hm:X.mg "range"=none)(hg:Gl X "range":=by rfl)(ha:SE X sf C ea a)(hs:starEach [ea] X.env=[(false,eval ea X.env)]:=by rfl):PI X tg (.Call (.Name "range" p) [ea] [] pos) (wI X.K sf C 1 .rng [a]):=m7 (gL hg hm (slc ha sl0 hs) hs) lr
noncomputable def lkN:List Nat->Nat->Nat->Option Nat
 | [],_,_=>none
 | t::ts,n,i=>if i=t then some n else lkN ts (n+1) i
theorem gb:∀ {l:List Nat} {n i j:Nat},lkN l n i=some j->∃ k,l[k]?=some i/\j=n+k/\i ∉ l.take k
 | [],_,_,_,h=>by cases h
 | t::ts,n,i,j,h=>by
  have h':(if i=t then some n else lkN ts (n+1) i)=some j:=h
  split at h'
  ·rename_i e; cases h'; exact ⟨0,by rw [e]; rfl,rfl,by simp⟩
  ·rename_i e
   obtain ⟨k,h1,h2,h3⟩:=gb h'
   exact ⟨k+1,h1,by omega,by rw [List.take_succ_cons,a0Q]; exact fun z=>z.elim e h3⟩
noncomputable def inF (tg ls:List Nat):Nat->Option Nat:=lkN (tg++ls) 0
theorem iZ {tg ls is:List Nat}(h:ls.map sf=is.map some):dm sf (inF tg ls) tg is:=fun i j hj=>by
 obtain ⟨k,h1,h2,h3⟩:=gb (show lkN (tg++ls) 0 i=some j from hj)
 rw [a2c] at h2
 subst h2
 by_cases hk:j < tg.length
 ·rw [a0J hk] at h1
  exact .inl ⟨j,h1,rfl⟩
 ·have hk':tg.length<=j:=a2h hk
  rw [a0F hk'] at h1
  refine .inr ⟨fun hi=>h3 ?_,?_⟩
  ·rw [List.take_append,a1e hk']
   exact a0N _ hi
  ·have e1:(ls.map sf)[j-tg.length]?=some (sf i):=by rw [a0w,h1]; rfl
   rw [h,a0w] at e1
   cases e2:is[j-tg.length]? with
   | none=>rw [e2] at e1; cases e1
   | some j0 =>
    rw [e2] at e1
    exact ⟨j-tg.length,j0,by omega,e2,(a0q e1).symm⟩
theorem v7 {x:Str}{px:Pos}{ys:List Str}{scope:Scope}{cl:List (Str×Addr)}(S:aJ [x] ys scope)(Ca:Addr)(s:Shared)(H:Hp)(fp:List Addr):PG (aw X ([x]++ys) scope cl Ca s H fp) (.Name x px) (gT X.K 1) :=
 fT (X:=aw X ([x]++ys) scope cl Ca s H fp) (i:=0) (x:=x) (pos:=px) S.nd rfl (.inl (lookup_relabel_local (S.loc x (by simp)))) (.inr (lookup_relabel_local (S.loc x (by simp))))
end
end MR

namespace MR
open PySem PySem.Spec PyProof.Rows L2 L3
section
variable {X:Cx}{sf sg:Nat->Option Nat}{C:M.Call}{pos p2:Pos}{ea eb ec:Expr}{a b c:M.E}{h:Bool}{n:Nat}{io:List Nat}
section
variable {elt iter cnd:Expr}{x y:Str}{px py pt:Pos}{kt:Nat}{scope:Scope}{cl:List (Str×Addr)}{ys:List Str}{tg ls is:List Nat}{k:M.Ik}{src:List M.E}{e cd:M.E}
theorem sC1 (ls:List Nat)(is:List Nat)(cl:List (Str×Addr))(ys:List Str){t:Nat}(hi:PI X (.Name x px) iter (wI X.K sf C 1 k src))(he:∀ Ca s H fp,SE (aw X ([x]++ys) scope cl Ca s H fp) (inF [t] ls) C elt e)
  (S:aJ [x] ys scope) (hcl:Clo X cl) (fr:Frees X scope cl ys is) (hc:X.calm=true:=by rfl) (hl:ls.map sf=is.map some:=by rfl)
  (hclos:closureFor scope X.env=pure cl:=by with_unfolding_all rfl) (hfr:(scope.names.all fun p=>p.2 != .free || (cl.lookup p.1).isSome)=true:=by rfl)
  (hs:∀ v,foldedSetIterable iter X.env v=pure v:=by intro _; rfl):SE X sf C (.ListComp elt [⟨.Name x px,iter,[],0⟩] scope pos) (.comp h k src [t] none e) :=
 aE (gJ (pre:=[x]) hc hi (v7 S) (fun Ca s H fp=>he Ca s H fp) hclos S hcl hfr fr hs) (ja rfl (by simp) (iZ hl))
end
noncomputable def spS (K:a0a)(C:M.Call)(f:Nat)(io:List Nat):Sp:=fun vs H Q _=>spC K C f io vs H Q
theorem sa0:SA X sf C [] []:=fZ aY og
theorem sac {es:List Expr}{bs:List M.E}(ha:SE X sf C ea a)(hb:SA X sf C es bs)(he:∀ i,a≠.io i:=by intro _ z; cases z)(hs:starEach (ea::es) X.env=(false,eval ea X.env)::starEach es X.env:=by rfl):SA X sf C (ea::es) (a::bs):=fZ (ax ha hb hs) (i8 he)
noncomputable def bD (P:Program)(w:World)(K:a0a)(mg:Str->Option Value)(base:Heap)(n:Nat)(C:M.Call)(x:Str)(f:Nat)(io:List Nat):Prop :=
 ∃ fa fd ps,aS P w K mg base CX0 n fa fd ps (spS K C f io)/\mg x=some (.ref fa)/\a0W K (.ref fa)=true/\Binds K fd ps []
theorem t9 {x:Str}{p:Pos}{f:Nat}{es:List Expr}{bs:List M.E}(c:bD X.prog X.w X.K X.mg X.base n C x f io)(hr:Room n X.A)(ha:SA X sf C (ea::es) bs)(hio:cN bs 0=io\/M.ios bs=[]:=by first | exact .inl rfl | exact .inr rfl)(hg:Gl X x:=by rfl)(hdb:(x==("__debug__":Str))=false:=by decide)
  (he:starEach (ea::es) X.env=(false,eval ea X.env)::starEach es X.env:=by rfl) (hpl:(backTo pos (starEach es X.env)).any (·.1)=false:=by rfl):SE X sf C (.Call (.Name x p) (ea::es) [] pos) (.call f bs):=by
 obtain ⟨fa,fd,ps,F,hm,hk,hb⟩:=c
 refine aE (mP (E:=E0) F hr hg hm hk hb .nil nJ ha hdb he hpl) fun σ H Q hw=>?_
 have h2:=kW hio σ H Q hw
 obtain ⟨pv,Z,Fs,η,ws,η',A,ev,k⟩:=h2
 exact ⟨pv,Z,Fs,η,ws,η',A,ev,fun vs Z' H' Fs' G B r s hv=>by show spS X.K C f io (vs++[]) H' Q E0; rw [a0B]; exact k vs Z' H' Fs' G B r s hv⟩
theorem ss0:SSs X sf io C [] []:=fy kS lg
theorem ss1 {s:Stmt}{t:M.S}(hs:SS X sf io C s t):SSs X sf io C [s] [t]:=fy (bc hs) l3
theorem ssc {s:Stmt}{t:M.S}{r:List Stmt}{u:List M.S}(hs:SS X sf io C s t)(hr:SSs X sf io C r u):SSs X sf io C (s::r) (t::u):=fy (aR hs hr) j5
theorem j7 (j:Nat){i:Nat}{x:Str}{xx:M.X}{pos':Pos}(hN:X.N.Nodup)(ha:SE X sf C ea a)(hi:i ∉ io:=by decide)(hs:sf i=some j:=by rfl)(hj:X.N[j]?=some x:=by rfl)(hx:L2.Loc X.env.scope x:=by first | exact a1r rfl | exact a1j rfl)
  (hsw:swapsWith ea (some (.Name x pos')) pos.line X.env=pure false:=by rfl) (hf:X.fn x=true\/X.env.scope.names.lookup x=some .local:=by first | exact .inl rfl | exact .inr rfl):SS X sf io C (.Assign [.Name x pos'] ea pos) (.asg xx i a):=fX (pP (i:=j) hN hj hx ha hsw hf) (qk hi hs)
theorem hW {vs:List Nat}(ha:SE X sf C ea a):SS X sf io C (.Return (some ea) pos) (.ret vs a):=fX (qs ha) nR
theorem zIf {xx:M.X}{r u:List Stmt}{s t:List M.S}(hc:SB X sf C ec c)(ha:SSs X sf io C r s)(hb:SSs X sf io C u t):SS X sf io C (.If ec r u pos) (.ite xx c s t):=fX (sG hc ha hb) o5
theorem tG (j:Nat){t:Nat}{x:Str}{px:Pos}{iter:Expr}{r:List Stmt}{s:List M.S}{vs ls:List Nat}{k:M.Ik}{src:List M.E}(hN:X.N.Nodup)(hi:PI X (.Name x px) iter (wI X.K sf C 1 k src))(ha:SSs X sf io C r s)(hio:∀ u∈[t],u ∉ io:=by decide)(hjs:[t].map sf=[j].map some:=by rfl)(hj:X.N[j]?=some x:=by rfl)(hx:L2.Loc X.env.scope x:=by first | exact a1r rfl | exact a1j rfl)
  (hc:X.calm=true:=by rfl) (hp:PassesOwn (model X.prog X.w) X.A X.env X.xe:=by exact PassesOwn.never) (hf:X.fn x=true\/X.env.scope.names.lookup x=some .local:=by first | exact .inl rfl | exact .inr rfl) (hs:∀ x,foldedSetIterable iter X.env x=pure x:=by intro _; rfl):SS X sf io C (.For (.Name x px) iter r [] pos) (.forS vs ls k src [t] s) :=
 fX (oX hp hc hi (fT (i:=j) hN hj hx hf) ha hs) (qm rfl (by simp) hio hjs)
end
end MR

namespace MR
open PySem PySem.Spec PyProof.Rows L2 L3
section
variable {K:a0a}{Z:Fp}{H:Hp}
theorem dE:∀ {ws:List M.W} {n i:Nat} {w:M.W},M.rd (ws.map some++a0b n none) i=some w->ws[i]?=some w
 | [],0,i,w,h=>by simp [M.rd] at h
 | [],n+1,0,w,h=>by simp [a0C,M.rd] at h
 | [],n+1,i+1,w,h=>by
  have:M.rd (([]:List M.W).map some++a0b n none) i=some w:=by simpa [a0C,M.rd] using h
  have:=dE this
  simp at this
 | u::ws,n,0,w,h=>by simpa [M.rd] using h
 | u::ws,n,i+1,w,h=>by
  have:M.rd (ws.map some++a0b n none) i=some w:=by simpa [M.rd] using h
  simpa using dE this
theorem ic:∀ {ws:List M.W} {vs:List V} {G:Fp},RepW K Z H ws vs G->∃ Fs:Fps,(∀ i a,Fs i a->G a)/\(∀ i j a,Fs i a->Fs j a->i=j)/\∀ i w,ws[i]?=some w->∃ v,vs[i]?=some v/\Rep K Z H w.1 w.2 v (Fs i)
 | [],vs,G,_=>⟨fun _=>no,fun _ _ h=>h.elim,fun _ _ _ h=>h.elim,fun i w h=>by simp at h⟩
 | w::ws,vs,G,⟨x,r,G1,G2,e,h1,h2,hd,p,q⟩=>by
  obtain ⟨Fs,f1,f2,f3⟩:=ic q
  subst e
  refine ⟨fun i=>match i with | 0=>G1 | i+1=>Fs i,fun i a h=>?_,fun i j a hi hj=>?_,fun i u h=>?_⟩
  ·cases i with
   | zero=>exact h1 a h
   | succ i=>exact h2 a (f1 i a h)
  ·cases i with
   | zero =>
    cases j with
    | zero=>rfl
    | succ j=>exact absurd (f1 j a hj) (hd a hi)
   | succ i =>
    cases j with
    | zero=>exact absurd (f1 i a hi) (hd a hj)
    | succ j=>exact congrArg (·+1) (f2 i j a hi hj)
  ·cases i with
   | zero=>simp only [a1b,a1x] at h; subst h; exact ⟨x,rfl,p⟩
   | succ i=>simpa using f3 i u (by simpa using h)
noncomputable def slN (n:Nat):Nat->Option Nat:=fun i=>if i < n then some i else none
theorem bV {sl:Cf}{σ:L2.St}{Fs:Fps}{η:M.Env}{G:Fp}{vs:List V}(A:At K sl σ Z H Fs η G):∀ {io:List Nat} {bs:List M.W},io.Nodup->(∀ i∈io,sl.pv i=vs[i]?/\i < vs.length)->M.backs io η=some bs->RepW K Z H bs (atV io vs) (fun a=>∃ i∈io,Fs i a)
 | [],bs,_,_,h=>by
  simp only [M.backs,a1x] at h; subst h; rfl
 | i::io,bs,nd,hv,h=>by
  simp only [M.backs] at h
  cases e:M.rd η i with
  | none=>rw [e] at h; cases h
  | some w =>
   rw [e] at h
   simp only [a1B] at h
   cases e2:M.backs io η with
   | none=>rw [e2] at h; cases h
   | some ws =>
    rw [e2] at h
    simp only [a1B,a1x] at h
    subst h
    obtain ⟨v,r,_,hp⟩:=A.env i w.1 w.2 e
    have hi:=hv i a0e
    obtain ⟨u,hu⟩:∃ u,vs[i]?=some u:=⟨vs[i]'hi.2,List.getElem?_eq_getElem hi.2⟩
    have:=hp u (hi.1.trans hu)
    subst this
    refine ⟨v,atV io vs,Fs i,fun a=>∃ j∈io,Fs j a,?_,fun a h=>⟨i,a0e,h⟩,fun a ⟨j,hj,h⟩=>⟨j,a0f _ hj,h⟩,fun a h ⟨j,hj,h'⟩=>?_,r,bV A (a0Z.mp nd).2 (fun j hj=>hv j (a0f _ hj)) e2⟩
    ·rw [atV,a0G,hu]; rfl
    ·exact (a0Z.mp nd).1 (A.gd.dis i j a h h' ▸ hj)
end
section
variable {P:Program}{w:World}{K:a0a}{mg:Str->Option Value}{base:Heap}
theorem iB {Z:Fp}{H:Hp}{ws:List M.W}{vs:List V}{G:Fp}{N:List Str}{n:Nat}{io:List Nat}(r:RepW K Z H ws vs G)(o:Own Z H G)(z:∀ a,Z a->H a≠none)(hl:vs.length<=N.length) :
  ∃ Fs,(∀ a,tot Fs a->G a)/\At K ⟨slN N.length,fun i=>if i∈io then vs[i]? else none⟩ (L2.start N vs) Z H Fs (ws.map some++a0b n none) no:=by
 obtain ⟨Fs,f1,f2,f3⟩:=ic r
 have st:∀ i v,vs[i]?=some v->(L2.start N vs)[i]?=some (some v):=fun i v h=>by
  have hi:=(a0n.mp h).1
  rw [L2.start,a0J (by simpa using hi),a0w,h]; rfl
 refine ⟨Fs,fun a ⟨i,h⟩=>f1 i a h,⟨⟨fun a ⟨i,h⟩=>o a (f1 i a h),f2,z⟩,fun i m t e=>?_,fun a h=>h.elim,fun a h=>h.elim,fun i u j hu hj=>?_,fun i j hj=>?_⟩⟩
 ·obtain ⟨v,hv,rp⟩:=f3 i (m,t) (dE e)
  refine ⟨v,rp,fun j hj=>?_,fun u hu=>?_⟩
  ·simp only [slN] at hj
   split at hj
   ·cases hj; exact st i v hv
   ·cases hj
  ·simp only at hu
   split at hu
   ·rw [hv] at hu; cases hu; rfl
   ·cases hu
 ·simp only at hu
  simp only [slN] at hj
  split at hj
  ·cases hj
   split at hu
   ·exact st i u hu
   ·cases hu
  ·cases hj
 ·simp only [slN] at hj
  split at hj
  ·cases hj
   rename_i h
   rw [L2.start,a0t,a0g,a0A]; omega
  ·cases hj
theorem Fun.okM {x qual:Str}{st:Stmt}{f:Addr}{fd:FuncData}{N ps:List Str}{k:Nat}{C:M.Call}{d:M.Fn}(F:L2.Fun K x qual st f fd)(S:aD N ps (defScope st))(hps:d.ps=ps.length)(hle:ps.length<=N.length)(nd:d.io.Nodup)(hio:∀ i∈d.io,i < ps.length)
  (hbody:∀ (cdv:Value) (A:Around) (outer:List Env) (s:Shared) (H:Hp) (E:XK),Room k (A.deeper (envOfC qual (defScope st) s.heap.objs.size f cdv)) ->
   SSs (dF CX0 P w K mg base N qual (defScope st) f cdv A outer s H E).nox (slN N.length) d.io C (defBody st) d.body) {g:Nat} {C':M.Call} (hC:∀ ws,C' g ws=M.runF C d ws):aS P w K mg base CX0 (k+1) f fd ps (spS K C' g d.io):=by
 have len:∀ vs H Q E,spS K C' g d.io vs H Q E->vs.length=ps.length:=fun vs H Q E ⟨Z,ws,G,w,bs,r,_,_,hr,_⟩=>by
  rw [hC] at hr
  unfold M.runF at hr
  split at hr
  ·rename_i h; rw [r.length,h,hps]
  ·cases hr
 refine F.ok S len fun cdv A outer s H vs Q E hr h=>⟨_,hbody cdv A outer s H E hr,?_⟩
 have hlen:=len vs H Q E h
 obtain ⟨Z,ws,G,w,bs,r,o,z,hc,q⟩:=h
 rw [hC] at hc
 have hwl:ws.length=d.ps:=by rw [<- r.length,hlen,hps]
 rw [M.x_run _ _ _ hwl] at hc
 obtain ⟨Fs,ft,A0⟩:=iB (n:=d.ns) (io:=d.io) r o z (N:=N) (by omega)
 refine ⟨_,Z,Fs,_,⟨fun i i' j h h'=>?_,fun i h=>if_neg h⟩,A0,?_⟩
 ·simp only [slN] at h h'
  split at h
  ·split at h'
   ·cases h; cases h'; rfl
   ·cases h'
  ·cases h
 have hv:∀ i∈d.io,(if i∈d.io then vs[i]? else none)=vs[i]?/\i < vs.length:=fun i hi=>⟨if_pos hi,hlen ▸ hio i hi⟩
 cases e:M.evSs C d.body (ws.map some++a0b d.ns none) with
 | nx η =>
  rw [e] at hc
  intro σ' Z' H' Fs' A' t
  simp only [M.Fl.out] at hc
  cases e2:M.backs d.io η with
  | none=>rw [e2] at hc; cases hc
  | some cs =>
   rw [e2] at hc
   cases hc
   refine q .non Z' H' no _ rfl (bV A' nd hv e2) (fun _ h=>h.elim) (fun a h=>h.elim (fun z=>z.elim) fun ⟨i,_,z⟩=>A'.gd.own a ⟨i,z⟩) (t.mono ft fun a h=>h.elim (fun z=>z.elim) fun ⟨i,_,z⟩=>⟨i,z⟩)
 | rt u η =>
  rw [e] at hc
  intro v σ' Z' H' Fs' G' A' rp t
  simp only [M.Fl.out] at hc
  cases e2:M.backs d.io η with
  | none=>rw [e2] at hc; cases hc
  | some cs =>
   rw [e2] at hc
   cases hc
   exact q v Z' H' G' _ rp (bV A' nd hv e2) (fun a h ⟨i,_,z⟩=>A'.dis a h ⟨i,z⟩) (fun a h=>h.elim (A'.own a) fun ⟨i,_,z⟩=>A'.gd.own a ⟨i,z⟩) (t.mono ft fun a h=>h.elim .inr fun ⟨i,_,z⟩=>.inl ⟨i,z⟩)
 | bk η=>rw [e] at hc; cases hc
 | ex t η=>rw [e] at hc; cases hc
 | no=>rw [e] at hc; cases hc
end
end MR

namespace MR
open PySem PySem.Spec PyProof.Rows L2 L3
end MR

namespace MR
open PySem PySem.Spec PyProof.Rows L2 L3
structure Txt (mg:Str->Option Value):Prop where
 isin:mg "isinstance"=none
 int:mg "int"=none
 tup:mg "tuple"=none
 list:mg "list"=none
 bool:mg "bool"=none
 sum:mg "sum"=none
 len:mg "len"=none
 all:mg "all"=none
 zip:mg "zip"=none
 range:mg "range"=none
 enum:mg "enumerate"=none
 any:mg "any"=none
 max:mg "max"=none
 min:mg "min"=none
 sorted:mg "sorted"=none
 str:mg "str"=none
 repr:mg "repr"=none
 abs:mg "abs"=none
 dict:mg "dict"=none
 set:mg "set"=none
 rev:mg "reversed"=none
theorem frc {X:Cx}{scope:Scope}{cl:List (Str×Addr)}{y:Str}{ys:List Str}{i:Nat}{is:List Nat}{c:Addr}(r:Frees X scope cl ys is)(h1:X.N[i]?=some y:=by rfl)(h2:Vis X.env.scope y:=by first | exact a1r rfl | exact a1j (a1r rfl) | exact a1j (a1j rfl))(h3:X.env.kindOf y=some .cell\/X.env.kindOf y=some .free:=by first | exact a1r rfl | exact a1j rfl)
  (h4:X.env.cells.lookup y=some c:=by rfl) (h5:cl.lookup y=some c:=by rfl) (h6:(relabel scope X.env).names.lookup y=some .cell\/(relabel scope X.env).names.lookup y=some .free:=by first | exact a1r rfl | exact a1j rfl):Frees X scope cl (y::ys) (i::is):=.cons h1 h2 h3 h4 h5 h6 r
theorem vr {X:Cx}{y:Str}{c:Addr}{cl:List (Str×Addr)}(r:Clo X cl)(h:X.env.cells.lookup y=some c:=by rfl):Clo X ((y,c)::cl):=.cons h r
end MR

namespace MR
open PySem PySem.Spec PyProof.Rows L2 L3
section
variable {P:Program}{w:World}{K:a0a}{mg:Str->Option Value}{base:Heap}
theorem d0 {C:M.Call}{g:Nat}{io:List Nat}{vs:List V}{H:Hp}{Q:VK}{E:XK}(hC:∀ ws,C g ws=.no)(h:spS K C g io vs H Q E):False:=by
 obtain ⟨Z,ws,G,w,bs,_,_,_,e,_⟩:=h
 rw [hC] at e
 cases e
theorem fn0 {f:Addr}{fd:FuncData}{ps:List Str}{k g:Nat}{io:List Nat}{C:M.Call}(hC:∀ ws,C g ws=.no):aS P w K mg base CX0 k f fd ps (spS K C g io) :=
 ⟨fun _ _ _ _ h=>(d0 hC h).elim,fun _ _ _ _ _ _ _ _ _ _ _ _ _ h=>(d0 hC h).elim⟩
theorem fu {Z:Fp}{H:Hp}{a:Addr}{ns:List Int}(hO:iu H)(hl:ns.length<=63)(h:SqL K H a (ns.map V.int)):Rep K Z H .d (.scr ns) (.ref a) no:=by
 refine ⟨a,rfl,a0k hl (by decide),?_⟩
 rcases h with (z | ⟨o,z⟩) | z
 ·rcases hO a with y | ⟨o,xs,y⟩<;>rw [y] at z<;>cases z
 ·exact .inl ⟨o,z⟩
 ·exact .inr (.inr z)
theorem n3 {H:Hp}{a:Addr}{ns:List Int}{C:M.Call}{ix:Nat}(hp:∃ m bs,C ix [(.d,.scr ns)]=.ok ((m,.bl true),bs))(hl:ns.length<=63)(hO:iu H)(h:SqL K H a (ns.map V.int)):spS K C ix [] [.ref a] H (fun v _=>v=.bl true) fun _ _ _=>False:=by
 obtain ⟨m,bs,e⟩:=hp
 exact ⟨no,[(.d,.scr ns)],no,(m,.bl true),bs,RepW.one (fu hO hl h),a6,fun _ z=>z.elim,e,fun v Z' H' G1 G2 r _ _ _ _=>r⟩
end
end MR

namespace MR
open PySem PySem.Spec PyProof.Rows L2 L3
structure SBs (as:List Addr)(H H':Hp):Prop where
 keep:∀ b u,b ∉ as->H b=some u->H' b=some u
 al:∀ b,H b≠none->H' b≠none
instance {as:List Addr} {H H':Hp}:CoeFun (SBs as H H') (fun _=>∀ b u,b ∉ as->H b=some u->H' b=some u):=⟨fun s=>s.keep⟩
end MR

namespace MR
open PySem PySem.Spec PyProof.Rows L2 L3
section
variable {X:Cx}{sf sg:Nat->Option Nat}{io:List Nat}{C:M.Call}{pos p2:Pos}{ea eb ec:Expr}{a b c:M.E}{h:Bool}{n:Nat}
theorem gC {K:a0a}:Loc K 1 .tuple h fun xs H Q=>∃ p ys,xs=[.ref p]/\((SqL K H p ys/\∀ l,H l=none->Q (.ref l) (upd H l (.tup ys)))\/(SqT K H p ys/\Q (.ref p) H)):=by
 intro ws w xs Z H G Q hn e r ow za k
 obtain ⟨⟨m,a⟩,rfl⟩:∃ a,ws=[a]:=by match ws,hn with | [a],_=>exact ⟨a,rfl⟩
 obtain ⟨x,rfl,r1⟩:=bu rfl r
 cases a with
 | lst ts =>
  obtain ⟨p,ys,rfl,hs,hl,q⟩:=bg r1
  cases e
  exact ⟨p,ys,rfl,.inl ⟨SqL.of hs,fun l hl'=>lK (m:=m.kid.up) (G':=G) ow (fun _ z=>z) hl (by rw [eW]; exact q.zmono fun _ z=>.inl z) k hl'⟩⟩
 | tup ts =>
  obtain ⟨p,ys,rfl,hs,hl,q⟩:=bC r1
  cases e
  exact ⟨p,ys,rfl,.inr ⟨hs,cD ow k r1⟩⟩
 | _=>cases e
theorem qb {p:Pos}(hm:X.mg "tuple"=none)(hg:Gl X "tuple":=by rfl)(ha:SE X sf C ea a)(hs:starEach [ea] X.env=(false,eval ea X.env)::starEach [] X.env:=by rfl)(hpl:(backTo pos (starEach [] X.env)).any (·.1)=false:=by rfl):SE X sf C (.Call (.Name "tuple" p) [ea] [] pos) (.op .tuple h [a]) :=
 aE (gz cS hg hm a2C (slc ha sl0 hs) (by decide) (by decide) hs hpl) (iQ gC rfl)
end
end MR

namespace MR
open PySem PySem.Spec PyProof.Rows L2 L3
end MR

namespace MR
open PySem PySem.Spec PyProof.Rows L2 L3
end MR

namespace MR
open PySem PySem.Spec PyProof.Rows L2 L3
section
variable {X:Cx}{sf sg:Nat->Option Nat}{C:M.Call}{pos p2 p3:Pos}{ea eb ec:Expr}{a b c:M.E}{h:Bool}{n:Nat}{io:List Nat}
noncomputable def nt (K:a0a)(H:Hp):List Nat->V->V->Prop
 | [],v,u=>u=v
 | j::p,v,u=>∃ a xs x,v=.ref a/\(SqL K H a xs\/SqT K H a xs)/\xs[j]?=some x/\nt K H p x u
noncomputable def wP (K:a0a)(sf:Nat->Option Nat)(i:Nat)(p:List Nat):TE:=fun σ H Q=>∃ j v u,sf i=some j/\σ[j]?=some (some v)/\nt K H p v u/\Q u H
noncomputable abbrev SP (X:Cx)(sf:Nat->Option Nat)(me:Expr)(i:Nat)(p:List Nat):Prop:=PE X me (wP X.K sf i p)
noncomputable def tq (Fs:Fps)(i:Nat)(G:Fp):Fps:=fun l a=>(l=i/\G a)\/(l≠i/\Fs l a)
end
end MR

namespace MR
open PySem PySem.Spec PyProof.Rows L2 L3
theorem fsc {N P:List Str}{sc:Scope}(h1:sc.kind=.function:=by rfl)(h2:sc.isCoroutine=false:=by rfl)(h3:sc.isGenerator=false:=by rfl)(h4:N.Nodup:=by decide +kernel)(h5:N.take P.length=P:=by rfl)(h6:∀ x∈P,sc.names.lookup x=some .local\/sc.names.lookup x=some .cell:=by decide +kernel)(h7:∀ y∈sc.names,y.2≠.free:=by decide +kernel):aD N P sc:=⟨h1,h2,h3,h4,h5,h6,h7⟩
theorem csc {pre ys:List Str}{scope:Scope}(h1:scope.kind=.function:=by rfl)(h2:∀ y∈scope.names,y.2≠.cell:=by decide +kernel)(h3:∀ y∈scope.names,y.2=.local->scope.names.lookup y.1=some .local:=by decide +kernel)(h4:∀ x∈pre,scope.names.lookup x=some .local:=by decide +kernel)(h5:(pre++ys).Nodup:=by decide +kernel):aJ pre ys scope:=⟨h1,h2,h3,h4,h5⟩
section
variable {P:Program}{w:World}{K:a0a}{mg:Str->Option Value}{base:Heap}{x:Str}{st:Stmt}{ps N:List Str}{n g:Nat}{io:List Nat}{C C':M.Call}{d:Value}{t:M.T}
structure Df (K:a0a)(mg:Str->Option Value)(x:Str)(st:Stmt)(ps:List Str):Prop where
 ex:∃ f fd,Fun K x x st f fd/\Binds K fd ps []/\mg x=some (.ref f)
theorem Df.ok (e:Df K mg x st ps)(h:∀ f fd,Fun K x x st f fd->aS P w K mg base CX0 n f fd ps (spS K C g io)):bD P w K mg base n C x g io:=by
 obtain ⟨f,fd,F,b,m⟩:=e.ex
 exact ⟨f,fd,ps,h f fd F,m,F.kp,b⟩
theorem Df.z (e:Df K mg x st ps)(hC:∀ ws,C g ws=.no:=by intro _; rfl):bD P w K mg base n C x g io:=e.ok fun _ _ _=>fn0 hC
theorem Df.s (fn:M.Fn)(e:Df K mg x st ps)(S:aD N ps (defScope st))
  (hb:∀ {f:Addr} {cdv:Value} {A:Around} {outer:List Env} {s:Shared} {H:Hp} {E:XK},Room n (A.deeper (envOfC x (defScope st) s.heap.objs.size f cdv))->SSs (dF CX0 P w K mg base N x (defScope st) f cdv A outer s H E).nox (slN N.length) fn.io C (defBody st) fn.body)
  (hC:∀ ws,C' g ws=M.runF C fn ws:=by intro _; rfl) (hps:fn.ps=ps.length:=by rfl) (hle:ps.length<=N.length:=by decide) (nd:fn.io.Nodup:=by decide) (hio:∀ i∈fn.io,i < ps.length:=by decide):bD P w K mg base (n+1) C' x g fn.io :=
 e.ok fun _ _ F=>Fun.okM F S hps hle nd hio (fun _ _ _ _ _ _ h=>hb h) hC
noncomputable def Raw (K:a0a)(x:Str)(st:Stmt)(dV:Value):Prop:=∃ f oc od sl kV dc pm an cd ct,a00 K mainGlobals x=some (some (.ref f))/\K.lookup f=some ⟨oc,od,.func (a0r x x (defArgs st) (defBody st) (defScope st) dV kV dc pm an cd ct),sl⟩/\a1s K cd x=true/\a0W K (.ref f)=true
theorem tU {h:Heap}(X:K.In h)(G:h.Ns mainGlobals mg)(r:Raw K x st .none)(hb:∀ (kV doc pm:Value) (an:Option Addr) (cdv ct:Value) (us:List Value),us.length=ps.length->bindArgs (a0r x x (defArgs st) (defBody st) (defScope st) .none kV doc pm an cdv ct) ⟨us,[]⟩=pure (ps.zip us)):Df K mg x st ps:=by
 obtain ⟨f,oc,od,sl,kV,dc,pm,an,cd,ct,h1,h2,h3,h4⟩:=r
 have F:=jg (st:=st) h2 h3 h4
 exact ⟨f,_,F,F.binds hb,a0v X G h1⟩
noncomputable def nZ (K:a0a):List Str->Prop
 | []=>True
 | x::r=>a00 K mainGlobals x=some none/\nZ K r
theorem pQ {h:Heap}(X:K.In h)(G:h.Ns mainGlobals mg)(r:nZ K ["isinstance","int","tuple","list","bool","sum","len","all","zip","range","enumerate","any","max","min","sorted","str","repr","abs","dict","set","reversed"]):Txt mg:=by
 obtain ⟨z1,z2,z3,z4,z5,z6,z7,z8,z9,z10,z11,z12,z13,z14,z15,z16,z17,z18,z19,z20,z21,_⟩:=r
 have m:=fun {x:Str} (z:a00 K mainGlobals x=some none)=>PySem.W.mg_none_of X G z
 exact ⟨m z1,m z2,m z3,m z4,m z5,m z6,m z7,m z8,m z9,m z10,m z11,m z12,m z13,m z14,m z15,m z16,m z17,m z18,m z19,m z20,m z21⟩
end
end MR

namespace MR
open PySem PySem.Spec PyProof.Rows L2 L3
section
variable {X:Cx}{sf sg:Nat->Option Nat}{C:M.Call}{pos p p2 p3:Pos}{ea eb ec:Expr}{a b c:M.E}{h:Bool}{n:Nat}{io:List Nat}{K:a0a}
theorem k7:Loc K 1 .abs h fun xs H Q=>∃ i,xs=[.int i]/\Q (.int (if i < 0 then -i else i)) H:=by
 intro ws w xs Z H G Q hn e r ow za k
 match ws,hn with
 | [(m,a)],_ =>
  obtain ⟨x,rfl,r1⟩:=bu rfl r
  cases a with
  | int i =>
   cases e
   refine ⟨i,by rw [show x=_ from r1],?_⟩
   rw [show (if i < 0 then -i else i)=(i.natAbs:Int) by split<;>omega]
   exact aK k
  | _=>cases e
theorem ub (hm:X.mg "abs"=none)(hg:Gl X "abs":=by rfl)(ha:SE X sf C ea a)(hs:starEach [ea] X.env=(false,eval ea X.env)::starEach [] X.env:=by rfl)(hpl:(backTo pos (starEach [] X.env)).any (·.1)=false:=by rfl):SE X sf C (.Call (.Name "abs" p) [ea] [] pos) (.op .abs h [a]) :=
 aE (cF iN hg hm a2M (slc ha sl0 hs) (by decide) (by decide) hs hpl) (iQ k7 rfl)
end
end MR
namespace MR
open PySem PySem.Spec PyProof.Rows L2 L3
end MR
namespace MR
open PySem PySem.Spec PyProof.Rows L2 L3
end MR
namespace MR
open PySem PySem.Spec PyProof.Rows L2 L3
end MR
namespace MR
open PySem PySem.Spec PyProof.Rows L2 L3
end MR

namespace MR
open PySem PySem.W L2 M
end MR

namespace MR
open PySem PySem.Spec PyProof.Rows L2 L3 M
end MR

namespace L3
open PySem PySem.Spec PyProof.Rows L2
end L3
namespace MR
open PySem PySem.Spec PyProof.Rows L2 L3
end MR

namespace L3
open PySem PySem.Spec PyProof.Rows L2
end L3
namespace MR
open PySem PySem.Spec PyProof.Rows L2 L3
end MR

namespace L3
open PySem PySem.Spec PySem.NumText PyProof.Rows L2
theorem qA {i:Int}(h:i.natAbs < 10000000000000000000):i.natAbs.log2 < 1920:=by
 by_cases h0:i.natAbs=0
 ·rw [h0]; decide
 ·exact a0h ((Nat.log2_lt h0).mpr (show i.natAbs < 2 ^ 64 from a0h h (by decide))) (by decide)
theorem jU {n:Int}(h:n.natAbs < 10000000000000000000):(Str.ofString (toString n)).length<=20:=by
 have h2:=int_text_length_le10 (a:=n) (k:=19) (by decide) h
 have:(Str.ofString (toString n)).length=(toString n).length:=by
  show (Str.ofString (toString n)).cps.size=_
  rw [<- a0H,signs_ofString,a0g,a1P]
 omega
theorem gB {z:a1Z}{ss:List a1Z}(h:(ss.map fun s=>s.cps.size+z.cps.size).sum<=M.LIM):JoinOk z ss=true:=by
 have e:∀ (l:List a1Z) (a:Nat),l.foldl (fun a s=>a+s.length+z.length) a=a+(l.map fun s=>s.cps.size+z.cps.size).sum:=by
  intro l
  induction l with
  | nil=>intro a; rfl
  | cons s l ih =>
   intro a
   rw [a2n,ih,a0u,a1n]
   show a+s.cps.size+z.cps.size+_=_
   omega
 unfold JoinOk
 rw [show ss.toArray.foldl (·+·.length+z.length) 0=ss.foldl (fun a s=>a+s.length+z.length) 0 from List.foldl_toArray ..,e,a2c]
 unfold Builtin.Str.tooLong
 have:¬ (ss.map fun s=>s.cps.size+z.cps.size).sum > sizeLine:=by
  have:=MR.LIM_le h
  omega
 rw [decide_eq_false this]; rfl
end L3
namespace MR
open PySem PySem.Spec PyProof.Rows L2 L3
section
variable {X:Cx}{sf sg:Nat->Option Nat}{C:M.Call}{pos p p2 p3:Pos}{ea eb ec:Expr}{a b c:M.E}{h:Bool}{n:Nat}{io:List Nat}{K:a0a}
theorem hZ {Z:Fp}{H:Hp}{G:Fp}{m:M.Md}:∀ {ts:List M.T} {ss:List Str} {xs:List V},M.strsOf ts=some ss->RepL K Z H m ts xs G->xs=ss.map V.str:=by
 intro ts
 induction ts generalizing G with
 | nil=>intro ns xs e r; cases e; exact r
 | cons t ts ih =>
  intro ns xs e r
  obtain ⟨x,r',G1,G2,rfl,_,_,_,p,q⟩:=r
  cases t with
  | str i =>
   cases e1:M.strsOf ts with
   | none=>simp [M.strsOf,e1] at e
   | some ms =>
    have:ns=i::ms:=by simpa [M.strsOf,e1] using e.symm
    subst this
    rw [a0u,<- ih e1 q,show x=.str i from p.1]
  | _=>cases e
theorem ti {o:M.Op}{e1 e2:M.E}{T:String}{r:V->List V->Hp->VK->Prop}(ty:∀ {m:M.Md} {t:M.T} {w2 w:M.W} {x:V} {Z:Fp} {H:Hp} {G:Fp},M.oSem o h [(m,t),w2]=some w->Rep K Z H m t x G->tyV K T x H)
  (l:Loc K 2 o h fun xs H Q=>∀ x y,xs=[x,y]->r x [y] H Q) (σ:L2.St) (H:Hp) (Q:VK) (hw:wE K sf C (.op o h [e1,e2]) σ H Q):tBM K T r (wE K sf C e1) (wL K sf C [e2]) σ H Q:=by
 obtain ⟨pv,Z,Fs,η,w,η',A,ev,k⟩:=hw
 obtain ⟨ws,h1,h2⟩:=bp ev
 obtain ⟨⟨m,t⟩,η1,us,g1,g2,rfl⟩:=az h1
 obtain ⟨wb,η2,us,g3,g4,rfl⟩:=az g2
 cases g4
 refine gQ A g1 fun x Z1 H1 Fs1 G1 A1 r1 _ s1 _=>?_
 have A1':=A1.mono (G':=G1) fun _ z=>.inr z
 refine ⟨ty h2 r1,?_⟩
 refine sJ A1' g2 fun vs Z2 H2 Fs2 G2 A2 r2 d2 s2 t2=>?_
 obtain ⟨y,rfl,ry⟩:=bu rfl r2
 exact l [(m,t),wb] w [x,y] Z2 H2 _ Q rfl h2 ⟨x,[y],G1,G2,rfl,fun _ z=>.inl z,fun _ z=>.inr z,d2,r1.frame A1.gd.own s2 A1'.dis,r2⟩ A2.own A2.gd.zal (br A2 (s1.trans t2) k) x y rfl
theorem iL:Loc K 2 .join h fun xs H Q=>∀ x y,xs=[x,y]->ny K x [y] H Q:=by
 intro ws w xs Z H G Q hn e r ow za k x y hx
 match ws,hn with
 | [(m,a),(m2,b)],_ =>
  subst hx
  obtain ⟨x',r',G1,G2,e0,g1,g2,gd,p1,p2⟩:=r
  cases e0
  obtain ⟨y',e1,p3⟩:=bu rfl p2
  cases e1
  cases a with
  | str z =>
   cases b with
   | lst ts =>
    have e2:((M.strsOf ts).bind fun ss=>if (M.sOk (Str.join z ss)&&decide ((ss.map fun s=>s.cps.size+z.cps.size).sum<=M.LIM))=true then some ((.d,.str (Str.join z ss)):M.W) else none)=some w:=e
    cases e3:M.strsOf ts with
    | none=>rw [e3] at e2; cases e2
    | some ss =>
     rw [e3] at e2
     have e4:(if (M.sOk (Str.join z ss)&&decide ((ss.map fun s=>s.cps.size+z.cps.size).sum<=M.LIM))=true then some ((.d,.str (Str.join z ss)):M.W) else none)=some w:=e2
     split at e4
     ·rename_i hb
      cases e4
      rw [a0d] at hb
      obtain ⟨q,xs,hq,hs,hl,pr⟩:=bg p3
      rw [hZ e3 pr] at hs
      exact ⟨z,q,ss,p1.1,by rw [hq],.inl (.inl hs),gB (of_decide_eq_true hb.2),dJ k hb.1⟩
     ·cases e4
   | _=>cases e
  | _=>cases e
section
variable {apos cpos:Pos}
theorem uk (ha:SE X sf C ea a)(hb:SE X sf C eb b)(hs:starEach [eb] X.env=(false,eval eb X.env)::starEach [] X.env:=by rfl)
  (hbase:attributeBase ea "join" X.env (eval ea X.env)=eval ea X.env:=by rfl) (hline:(apos.endLine==cpos.line)=true:=by rfl) (hplain:(backTo cpos (starEach [] X.env)).any (·.1)=false:=by rfl)
  (hfew:((backTo cpos (starEach [eb] X.env)).all (fun x=>!x.1)&&(backToKw cpos (keywordEach [] X.env)).all (fun x=>x.1.isSome)&&decide ([eb].length+([]:List Keyword).length+(if ([]:List Keyword).isEmpty then 0 else 1) < 30))=true:=by rfl):SE X sf C (.Call (.Attribute ea "join" apos) [eb] [] cpos) (.op .join h [a,b]) :=
 aE (tj PySem.F.plainAttrs_str PySem.F.slot_str_join PySem.F.type_str_join mH ha (slc hb sl0 hs) hbase hfew hline hs hplain) (ti (fun {m t w2 w x Z H G} e r=>by
  cases t with
  | str z=>rw [show x=_ from r.1]; exact rfl
  | _=>cases e) iL)
end
end
end MR

namespace L3
open PySem PySem.Spec PyProof.Rows L2
end L3
namespace MR
open PySem PySem.Spec PyProof.Rows L2 L3
theorem slx {X:Cx}{sf:Nat->Option Nat}{C:M.Call}{ea:Expr}{a:M.E}{es:List Expr}{bs:List M.E}(ha:SE X sf C ea a)(hb:SL X sf C es bs)(hs:starEach (ea::es) X.env=(false,eval ea X.env)::starEach es X.env):SL X sf C (ea::es) (a::bs):=slc ha hb hs
theorem sLx {X:Cx}{sf:Nat->Option Nat}{C:M.Call}{pos:Pos}{h:Bool}{es:List Expr}{bs:List M.E}(hn:bs.length<=M.LIM)(hh:SL X sf C es bs):SE X sf C (.List es pos) (.lst h bs):=sLs hh hn
theorem dQ {X:Cx}{sf:Nat->Option Nat}{C:M.Call}{pos:Pos}{h:Bool}{ea eb:Expr}{a b:M.E}(ha:SE X sf C ea a)(hb:SE X sf C eb b)(hs:dN eb):SE X sf C (.Subscript ea eb pos) (.op .ix h [a,b]):=sIx ha hb hs
theorem vY {X:Cx}{sf:Nat->Option Nat}{C:M.Call}{ea:Expr}{a:M.E}{es:List Expr}{bs:List M.E}(ha:SE X sf C ea a)(hb:SA X sf C es bs)(he:∀ i,a≠.io i)(hs:starEach (ea::es) X.env=(false,eval ea X.env)::starEach es X.env):SA X sf C (ea::es) (a::bs):=sac ha hb he hs
end MR

namespace TP
open PySem PySem.W
noncomputable def en (P:Params)(k:Str)(t:Nat)(v:Value):DictEntry:=⟨PyData.keyHash P k,.str k t,v⟩
noncomputable def tu (xs:List Value):Obj:=⟨.type "tuple",none,.seq xs.toArray 0,#[]⟩
noncomputable def fe (xs:List Value):Obj:=⟨.none,none,.fields xs.toArray,#[]⟩
noncomputable def di (es:List DictEntry)(n:Nat):Obj:=⟨.type "dict",none,.dict es.toArray n,#[]⟩
noncomputable abbrev fl:Str:="/claim/cut.py"
noncomputable def iv (i:Int):Value:=.int i 0
noncomputable def cdo (n q:Str)(t t2:Nat)(ln ac:Nat)(f:Nat)(a:Nat)(b:Bool)(x y z:Value):Obj :=
 ⟨.type "code",none,.fields #[.str n t,.str q (t+1),.str fl (t+2),iv ln,iv ac,iv 0,iv 0,iv f,.ref a,.bool b,iv 181,.ref (a+1),.none,x,y,z,iv t2,iv ln,.str fl (t2+1)],#[]⟩
noncomputable def ofn (c:Value)(st:Stmt)(q:Str)(g:Nat)(d m:Value)(cd:Value):Obj:=match st with
 | .FunctionDef n ar b _ _ _ sc _ _ _=>⟨c,none,.func { name:=n,qualname:=q,params:=ar,body:=.stmts b,scope:=sc,globals:=g,closure:=[],defaults:=d,kwdefaults:=.none,pyModule:=m,code:=cd },#[]⟩
 | _=>default
noncomputable def tks:List Str->Nat->List Value
 | [],_=>[]
 | x::r,t=>.str x t::tks r (t+1)
structure R where
 os:List Obj
 ns:List DictEntry
 tb:List Value
 n:Nat
 tk:Nat
 md:Value
inductive Rc where
 | d | m | c
 | x (k:Str) (kt:Nat) (v:Value) (os:Params->List Obj) (tb:List Value) (n tk:Nat)
noncomputable def cv:Expr->Value
 | .Constant (.bool b) _ _=>.bool b
 | _=>.none
noncomputable def dO (P:Params)(n tk:Nat)(md:Value)(st:Stmt):R:=match st with
 | .FunctionDef nm ar b _ _ _ sc _ _ pos =>
  let pr:List Obj×Value×Nat:=match ar.defaults with
   | []=>([],.none,n)
   | ds=>([tu (ds.map cv)],.ref n,n+1)
  let a:=pr.2.2
  match localNames ar sc (.stmts b) with
  | none=>⟨pr.1++[tu [],fe [],ofn .none st nm 0 .none .none .none,cdo nm nm tk (tk+3) pos.line ar.args.length 3 a true .none .none (.ref (a+2)),ofn (.type "function") st nm 3 pr.2.1 md (.ref (a+3))],
    [en P nm (tk+5) (.ref (a+4))],[iv pos.line,iv pos.col,.ref (a+3)],a+5,tk+6,md⟩
  | some l =>
   let k:=l.1.length
   let j:=l.2.length
   ⟨pr.1++[tu [],fe [],tu (tks l.1 (tk+3)),tu (tks l.2 (tk+3+k)),ofn .none st nm 0 .none .none .none,cdo nm nm tk (tk+3+k+j) pos.line ar.args.length 3 a true (.ref (a+2)) (.ref (a+3)) (.ref (a+4)),ofn (.type "function") st nm 3 pr.2.1 md (.ref (a+5))],
    [en P nm (tk+5+k+j) (.ref (a+6))],[iv pos.line,iv pos.col,.ref (a+5)],a+7,tk+6+k+j,md⟩
 | _=>⟨[],[],[],n,tk,md⟩
noncomputable def one (P:Params)(n tk:Nat)(md:Value)(st:Stmt):Rc->R
 | .d=>dO P n tk md st
 | .m=>match st with
  | .Assign _ (.Constant (.str s) _ _) _=>⟨[],[],[],n,tk+2,.str s tk⟩
  | _=>⟨[],[],[],n,tk,md⟩
 | .c=>match st with
  | .Assign (.Name x _::_) (.Constant (.str s) _ _) _=>⟨[],[en P x (tk+1) (.str s tk)],[],n,tk+2,md⟩
  | .Assign (.Name x _::_) (.Constant (.int i) _ _) _=>⟨[],[en P x (tk+1) (.int i tk)],[],n,tk+2,md⟩
  | _=>⟨[],[],[],n,tk,md⟩
 | .x k kt v os tb n' tk'=>⟨os P,[en P k kt v],tb,n',tk',md⟩
noncomputable def go (P:Params):List (Stmt×Rc)->Nat->Nat->Value->List R
 | [],_,_,_=>[]
 | (st,r)::l,n,tk,md=>let x:=one P n tk md st r
  x::go P l x.n x.tk x.md
noncomputable def td (x:R):List R->R
 | []=>x
 | y::l=>td y l
noncomputable def ds:Data->List DictEntry
 | .dict es _=>es.toList
 | _=>[]
noncomputable def ep:Data->Nat
 | .dict _ n=>n
 | _=>0
noncomputable def r0:R:=⟨[],[],[],15,187,.str "__main__" 164⟩
noncomputable def rs (P:Params)(l:List (Stmt×Rc)):List R:=go P l 15 187 (.str "__main__" 164)
noncomputable def o3 (P:Params)(l:List R):Obj:=di (en P "__name__" 165 (td r0 l).md::((ds (boot_o_3 P).data).tail++l.flatMap R.ns)) (ep (boot_o_3 P).data+(l.flatMap R.ns).length)
noncomputable def os (P:Params)(l:List R):List Obj :=
 boot_o_0 P::boot_o_1 P::boot_o_2 P::o3 P l::boot_o_4 P::boot_o_5 P::boot_o_6 P::boot_o_7 P::boot_o_8 P::boot_o_9 P::boot_o_10 P ::
 tu []::fe (l.flatMap R.tb)::cdo "<module>" "<module>" 182 185 1 0 0 11 false .none .none .none ::
 ⟨.type "frame",none,.plain,#[some (.ref 13),some (.ref 3),some (.ref 3),none,some (.str "__main__" 164),none,some (.ref 0)]⟩::l.flatMap R.os
noncomputable def odd {α:Type}:List α->List α×List α
 | []=>([],[])
 | x::l=>(x::(odd l).2,(odd l).1)
noncomputable def bt:Nat->List Obj->BT
 | 0,_=>.nil
 | _+1,[]=>.nil
 | k+1,x::l=>.node x (bt k (odd l).1) (bt k (odd l).2)
noncomputable abbrev p0:Pos:=⟨0,0,0,0⟩
noncomputable abbrev B0:List Frame:=[topFrame p0]
noncomputable abbrev an:Option Value:=some (.ref 6)
noncomputable def ev (p:Program):Env:={ scope:=p.main.scope,locals:=mainNs,globals:=mainNs,cells:=[],code:=.ref 13,frame:=some 14 }
noncomputable def cE (p:Program):Code:=.body (behindTheImports p) (ev p)
noncomputable def sT (p:Program)(rc:List Rc)(P:Params)(m n tk:Nat)(o:OsState):SharedT:=⟨bt 12 (os P (rs P ((p.main.body.zip rc).take m))),n,{},#[],{},tk,o⟩
noncomputable def hp (p:Program)(rc:List Rc)(m n:Nat)(P:Params):Heap:=absHeap (bt 12 (os P (rs P ((p.main.body.zip rc).take m)))) n {}
noncomputable def Cut (p:Program)(rc:List Rc)(i n t:Nat)(ps:Pos)(k N n' t':Nat)(ps':Pos)(w:World):Prop:=∀ o,segRunT treeTable p w 11 an 1 N (sT p rc w.params i n t o) (piecesOf ((p.main.body.drop i).take k) (ev p) (cE p) ps B0)=some (.next,sT p rc w.params (i+k) n' t' o,cE p,ps')
noncomputable def Ch (p:Program)(rc:List Rc)(m n1 t1:Nat)(i n t:Nat)(ps:Pos)(M:Nat):Prop:=∀ w o,topRun treeTable p w 11 an M (sT p rc w.params i n t o).abs (restOf (p.main.body.drop i) (ev p) (cE p) ps B0)=some (sT p rc w.params m n1 t1 o).abs
theorem dU {p:Program}{rc:List Rc}{m n1 t1 i n t k N n' t' M:Nat}{ps ps':Pos}(c:∀ w,Cut p rc i n t ps k N n' t' ps' w)(h:Ch p rc m n1 t1 (i+k) n' t' ps' M):Ch p rc m n1 t1 i n t ps (N+M):=fun w o=>by
 have x:=piece_app (segRun_of (c w o)) (h w o)
 rw [<- List.drop_drop,List.take_append_drop] at x
 exact x
theorem rq {p:Program}{rc:List Rc}{m n1 t1:Nat}{ps:Pos}(hd:p.main.body.drop m=[]):Ch p rc m n1 t1 m n1 t1 ps 2:=fun w o=>by
 rw [hd]
 exact piece_nil rfl
theorem lG (w:World):((boot_heap w.params).isNs mainGlobals&&(a2D []:Array GenState).size==0,(boot_heap w.params).objs.size,(boot_heap w.params).nsMap mainGlobals "__annotations__")=(true,11,an):=by kernel_rfl
theorem mU {p q:Program}{loose:List Str}{Xt:Shared->Bool}{α:Type}{Yf:Shared->α}{Ya:World->α}{N M m n1 t1:Nat}{rc:List Rc}
  (e:opening p=plainProg p.main.scope.names) (hN:Nat.ble 600 N=true) (f:∀ s,fenceModules? p s=some s) (hb:behindTheImports p=p.main.body)
  (size:∀ w:World,((boot_heap w.params).isNs mainGlobals&&(a2D []:Array GenState).size==0,(boot_heap w.params).objs.size,(boot_heap w.params).nsMap mainGlobals "__annotations__")=(true,11,an))
  (pre:∀ (w:World) (o:OsState),topGo treeTable p w 11 an 12 ⟨boot_heap w.params,a2D [],boot_drawn,boot_toks,o⟩ (topStub p)=some ((sT p rc w.params 0 15 187 o).abs,⟨denote treeTable (cE p),cE p,p0,B0⟩))
  (blk:∀ (w:World) (o:OsState),segRun treeTable p w 11 an 1 1 (sT p rc w.params 0 15 187 o).abs (blockOf (behindTheImports p) (ev p) (cE p) p0 B0)=some (.next,(sT p rc w.params 0 15 187 o).abs,cE p,p0))
  (ch:Ch p rc m n1 t1 0 15 187 p0 M) (le:Nat.ble (12+(1+M)) N=true)
  (looks:∀ w:World,(fun o=>((staticsOk (importedModules p.main.body) (boot_heap w.params) (hp p rc m n1 w.params)&&namesBound p (hp p rc m n1 w.params)&&gensDone ⟨hp p rc m n1 w.params,#[],{},t1,o⟩&&laidKept (boot_heap w.params) (hp p rc m n1 w.params)),
    openSeen q loose (importedModules p.main.body) Xt true ⟨hp p rc m n1 w.params,#[],{},t1,o⟩,Yf ⟨hp p rc m n1 w.params,#[],{},t1,o⟩))=fun _=>(true,openGood q loose,Ya w)):LeftO p q loose Xt Yf Ya N :=
 LeftO.of_pieces (H₀:=boot_heap) (H₁:=hp p rc m n1) (gs₁:=#[]) (d₁:={}) (k₁:=t1) (boot_open e hN f) size
  (fun w o=>go_top (pre w o) (piece_block (blk w o) (by have x:=ch w o; rw [a2v,<- hb] at x; exact x))) le looks
noncomputable def cb (st:Stmt)(j:Nat):Stmt:=match st with
 | .ClassDef _ _ _ b _ _ _ _ _ _ _=>b.getD j st
 | _=>st
noncomputable def drec (st:Stmt):PySem.DefRec:=match st with
 | .FunctionDef n a b _ _ _ sc _ _ pos=>⟨n,a,b,sc,pos⟩
 | _=>⟨default,default,[],default,default⟩
theorem b9 {α:Type}:∀ (l:List α) (i:Nat),(odd l).1[i]?=l[2 * i]?/\(odd l).2[i]?=l[2 * i+1]?
 | [],i=>by simp [odd]
 | x::l,i=>by
  refine ⟨?_,?_⟩
  ·cases i with
   | zero=>simp [odd]
   | succ j=>rw [show 2 * (j+1)=2 * j+1+1 by omega]; simp only [odd,a0p]; exact (b9 l j).2
  ·simp only [odd,a0p]; exact (b9 l i).1
theorem fS {α:Type}:∀ (l:List α),(odd l).1.length=(l.length+1) / 2/\(odd l).2.length=l.length / 2
 | []=>by simp [odd]
 | x::l=>by
  have h:=fS l
  simp only [odd,a0o,h.1,h.2]
  exact ⟨by omega,trivial⟩
theorem fh:∀ (k:Nat) (l:List Obj) (a:Nat),l.length < 2 ^ k->(bt k l).get a=l[a]?
 | 0,l,a,h=>by
  have:l=[]:=List.length_eq_zero_iff.mp (by simpa using h)
  subst this; simp [bt,BT.get]
 | k+1,[],a,h=>by simp [bt,BT.get]
 | k+1,x::l,a,h=>by
  have e:2 ^ (k+1)=2 * 2 ^ k:=by rw [Nat.pow_succ]; omega
  have hl:=fS l
  simp only [a0o] at h
  unfold bt
  rw [BT.get_node]
  by_cases h0:a=0
  ·simp [h0]
  ·rw [if_neg h0]
   by_cases h1:a % 2=1
   ·rw [if_pos h1,fh k _ _ (by omega),(b9 l (a / 2)).1]
    obtain ⟨b,rfl⟩:∃ b,a=b+1:=⟨a-1,by omega⟩
    rw [a0p]; congr 1; omega
   ·rw [if_neg h1,fh k _ _ (by omega),(b9 l (a / 2-1)).2]
    obtain ⟨b,rfl⟩:∃ b,a=b+1:=⟨a-1,by omega⟩
    rw [a0p]; congr 1; omega
noncomputable def lL (p:Program)(rc:List Rc)(m:Nat)(P:Params):List Obj:=os P (rs P ((p.main.body.zip rc).take m))
noncomputable def kK (p:Program)(rc:List Rc)(m:Nat)(as:List Addr)(P:Params):Frag:=as.map fun a=>(a,(lL p rc m P).getD a default)
noncomputable def okO:Option Obj->Bool
 | some ⟨_,_,.freed,_⟩=>false
 | some _=>true
 | none=>false
theorem fG {p:Program}{rc:List Rc}{m:Nat}{P:Params}{a:Addr}{o:Obj}:∀ {as:List Addr},(kK p rc m as P).lookup a=some o->a∈as/\o=(lL p rc m P).getD a default
 | [],h=>by simp [kK] at h
 | b::as,h=>by
  unfold kK at h
  rw [a0u,a1k] at h
  by_cases e:a=b
  ·subst e
   rw [beq_self_eq_true] at h
   exact ⟨a0e ..,(a0q h).symm⟩
  ·rw [beq_false_of_ne e] at h
   have x:=fG (as:=as) h
   exact ⟨a0f _ x.1,x.2⟩
noncomputable def hkk (p:Program)(rc:List Rc)(m n:Nat):Hook where
 α:=Array Obj
 obs s:=s.heap.objs
 val w:=(hp p rc m n w.params).objs
 says w h:=∀ a o,(hp p rc m n w.params).get? a=some o->h.get? a=some o
 of w s e a o x:=by unfold Heap.get? at *; rw [e]; exact x
 keeps w h h' X k a o x:=k _ _ (X a o x)
theorem vV {p:Program}{rc:List Rc}{m n:Nat}{as:List Addr}{w:World}{h:Heap}(hl:Nat.blt (lL p rc m w.params).length 4096=true)(hc:(as.all fun a=>Nat.blt a n&&okO (lL p rc m w.params)[a]?)=true)
  (Y:(hkk p rc m n).says w h):(kK p rc m as w.params).In h:=fun a o e=>by
 obtain ⟨e1,e2⟩:=fG e
 obtain ⟨c1,c2⟩:=a1m.mp (a1l.mp hc a e1)
 refine Y a o ?_
 have c3:a < n:=a1L c1
 have c4:(lL p rc m w.params).length < 2 ^ 12:=a1L hl
 have g:=fh 12 (lL p rc m w.params) a c4
 unfold hp Heap.get?
 rw [absHeap_at,if_pos c3]
 show (match some (((bt 12 (lL p rc m w.params)).get a).getD default) with | some ⟨_,_,.freed,_⟩=>none | o=>o)=some o
 rw [g]
 rw [List.getD_eq_getElem?_getD] at e2
 rw [<- e2]
 cases q:(lL p rc m w.params)[a]? with
 | none=>rw [q] at c2; cases c2
 | some x =>
  rw [q] at c2 e2
  have e3:o=x:=e2
  subst e3
  obtain ⟨_,_,d,_⟩:=o
  cases d<;>first | rfl | cases c2
noncomputable def pmO:Option Obj->Value
 | some ⟨_,_,.func f,_⟩=>f.pyModule
 | _=>.none
noncomputable def rfO:Option (Option Value)->Nat
 | some (some (.ref a))=>a
 | _=>0
theorem raw_mk {K:Frag}{x:Str}{st:Stmt}{dV:Value}(h1:nsIn K mainGlobals x=some (some (.ref (rfO (nsIn K mainGlobals x)))))
  (h2:K.lookup (rfO (nsIn K mainGlobals x))=some ⟨.type "function",none,.func (fnOf x x (L2.defArgs st) (L2.defBody st) (L2.defScope st) dV .none .none (pmO (K.lookup (rfO (nsIn K mainGlobals x)))) none (.ref (rfO (nsIn K mainGlobals x)-1)) .none),#[]⟩)
  (h3:codeIn K (.ref (rfO (nsIn K mainGlobals x)-1)) x=true) (h4:keepIn K (.ref (rfO (nsIn K mainGlobals x)))=true):MR.Raw K x st dV:=⟨_,_,_,_,_,_,_,_,_,_,h1,h2,h3,h4⟩
end TP

namespace MR
open PySem PySem.Spec PyProof.Rows L2 L3
theorem walkX {sx:Str}{C:M.Call}{ix k:Nat}{l:a1K}{q:Program}{loose:List Str}{XP:(Str->Option Value)->Heap->Prop}{YP:World->Heap->Prop}{d:DefRec}{K:Params->a0a}(hp:∀ ns:List Int,ns.length<=63->∃ m bs,C ix [(.d,.scr ns)]=.ok ((m,.bl true),bs))(hn:l.most=some 63)(hdf:d.params.defaults=[])(hr:Room k callerA)
  (hY:∀ (w:World) (h:Heap),YP w h->(K w.params).In h)
  (F:∀ (w:World) (mg:Str->Option Value) (fa:Addr) (h:Heap),(K w.params).In h->h.Ns mainGlobals mg->mg d.name=some (.ref fa) ->
   ∃ fd:FuncData,(∀ (s:Shared) (u:Value),BindsTo s fd ⟨[u],[]⟩ [(sx,u)])/\∀ base:Heap,(K w.params).In base->base.Ns mainGlobals mg->aS l.prog w (K w.params) mg base CX0 k fa fd [sx] (spS (K w.params) C ix [])) :
  a2y q loose XP YP l.row.toRowW d [] (fun f vs=>a2x f vs) :=
 L2.walk_of (n:=63) (k:=k) (x:=sx) (CX:=fun _=>CX0) (sp:=fun w=>spS (K w.params) C ix []) hn (by decide) hdf hr hY F (fun _ _ a ns hl hO hS=>n3 (hp ns hl) hl hO hS) fun _ _ _ _ _ z=>z
theorem mw {sx:Str}{w:World}{K:a0a}{mg:Str->Option Value}{st:Stmt}{h:Heap}{fa:Addr}{pr:Program}{k:Nat}{sp:Sp}(X:K.In h)(G:h.Ns mainGlobals mg)(hfa:mg "law"=some (.ref fa))(r:Raw K "law" st .none)(hb:∀ (kV dc pm:Value) (an:Option Addr) (cd ct:Value) (s:Shared) (v:Value),BindsTo s (a0r "law" "law" (defArgs st) (defBody st) (defScope st) .none kV dc pm an cd ct) ⟨[v],[]⟩ [(sx,v)])
  (ok:∀ f fd,Fun K "law" "law" st f fd->∀ base,aS pr w K mg base CX0 k f fd [sx] sp):∃ fd:FuncData,(∀ (s:Shared) (v:Value),BindsTo s fd ⟨[v],[]⟩ [(sx,v)])/\∀ base:Heap,K.In base->base.Ns mainGlobals mg->aS pr w K mg base CX0 k fa fd [sx] sp:=by
 obtain ⟨f,oc,od,sl,kV,dc,pm,an,cd,ct,h1,h2,h3,h4⟩:=r
 have e:=hfa.symm.trans (a0v X G h1)
 cases e
 exact ⟨_,hb kV dc pm an cd ct,fun base _ _=>ok _ _ (jg (st:=st) h2 h3 h4) base⟩
end MR

namespace L3
open PySem PySem.Spec PyProof.Rows L2
end L3
namespace MR
open PySem PySem.Spec PyProof.Rows L2 L3
end MR

namespace L3
open PySem PySem.Spec PyProof.Rows L2
end L3
namespace MR
open PySem PySem.Spec PyProof.Rows L2 L3
end MR

namespace L3
open PySem PySem.Spec PyProof.Rows L2
end L3
namespace MR
open PySem PySem.Spec PyProof.Rows L2 L3
end MR

namespace L3
open PySem PySem.Spec PyProof.Rows L2
end L3
namespace MR
open PySem PySem.Spec PyProof.Rows L2 L3
end MR

namespace MR
open L2 L3 M
open PySem (Addr Str sizeLine)
section
variable {K:a0a}{Wx:L2.St->VK}{sl:Cf}{sf sg:Nat->Option Nat}{C:Call}{σ σ2:L2.St}{Z Z' Z1:Fp}{H H' H1:Hp}{Fs Fs' Fs1:Fps}{η η' η1 ηb:Env}{G G' G1 R F F':Fp}{tg is vs ls io:List Nat}{pv val:Nat->Option V}{D:bB}
noncomputable def kT:Int ⊕ Str->T
 | .inl n=>.int n
 | .inr x=>.str x
end
end MR
namespace MR
open PySem PySem.Spec PyProof.Rows L2 L3
end MR

namespace L3
open PySem PySem.Spec PyProof.Rows L2
end L3

namespace L3
open PySem PySem.Spec PyProof.Rows L2
end L3
namespace MR
open PySem PySem.Spec PyProof.Rows L2 L3
end MR

namespace L3
open PySem PySem.Spec PySem.NumText PyProof.Rows L2
end L3
namespace MR
open PySem PySem.Spec PyProof.Rows L2 L3
mutual
theorem eM:∀ t:M.T,toD (th t)=M.datT t
 | .non=>rfl
 | .bl _=>rfl
 | .int _=>rfl
 | .str _=>rfl
 | .tup ts=>congrArg PyData.tuple (dM ts)
 | .lst ts=>congrArg PyData.list (dM ts)
 | .dct _ _=>rfl
 | .ins _ _ _=>rfl
 | .scr _=>rfl
 | .gone=>rfl
theorem dM:∀ ts:List M.T,bL (ths ts)=M.datTs ts
 | []=>rfl
 | t::ts=>by
  show toD (th t)::bL (ths ts)=M.datT t::M.datTs ts
  rw [eM t,dM ts]
end
noncomputable def bI (ss:List Str):Nat:=(ss.map fun s=>s.cps.size+2).sum
theorem bG (p q:Str):(p++q).cps.size=p.cps.size+q.cps.size:=a2a ..
theorem iY:∀ (ss:List Str) (k:Nat) (acc:Str),M.sOk acc=true->(∀ s∈ss,M.sOk s=true)->acc.cps.size+bI ss<=M.LIM->M.sOk (textFrom k acc ss)=true/\(textFrom k acc ss).cps.size<=acc.cps.size+bI ss
 | [],_,acc,h,_,hl=>⟨h,by show acc.cps.size<=_; omega⟩
 | s::ss,k,acc,h,hs,hl=>by
  have hp:bI (s::ss)=s.cps.size+2+bI ss:=by unfold bI; rw [a0u,a1n]
  have h1:=hs s a0e
  have key:∀ z:Str,M.sOk z=true->z.cps.size<=2->M.sOk (textFrom (k+1) (acc++z++s) ss)=true/\(textFrom (k+1) (acc++z++s) ss).cps.size<=acc.cps.size+bI (s::ss):=fun z hz hz2=>by
   have e1:(acc++z).cps.size=acc.cps.size+z.cps.size:=bG _ _
   have e2:(acc++z++s).cps.size=acc.cps.size+z.cps.size+s.cps.size:=by rw [bG,e1]
   obtain ⟨a,b⟩:=iY ss (k+1) (acc++z++s) (aW (aW h hz (by omega)) h1 (by omega)) (fun x hx=>hs x (a0f _ hx)) (by omega)
   exact ⟨a,by omega⟩
  show M.sOk (textFrom (k+1) (acc++(if k > 0 then ", " else "":String)++s) ss)=true/\(textFrom (k+1) (acc++(if k > 0 then ", " else "":String)++s) ss).cps.size<=_
  split
  ·exact key (Str.ofString ", ") (aG _ (by decide)) (by decide)
  ·exact key (Str.ofString "") (aG _ (by decide)) (by decide)
theorem cf:∀ (ss:List Str),(∀ s∈ss,M.sOk s=true)->bI ss<=M.LIM->M.sOk (Str.join ", " ss)=true/\(Str.join ", " ss).cps.size<=bI ss
 | [],_,_=>⟨aG "" (by decide),a0T _⟩
 | [s],hs,hl=>⟨hs s a0e,by show s.cps.size<=(s.cps.size+2)+0; omega⟩
 | s::u::ss,hs,hl=>by
  have hp:bI (s::u::ss)=s.cps.size+2+bI (u::ss):=by unfold bI; rw [a0u,a1n]
  obtain ⟨a,b⟩:=cf (u::ss) (fun x hx=>hs x (a0f _ hx)) (by omega)
  have e0:Str.join ", " (s::u::ss)=s++Str.ofString ", "++Str.join ", " (u::ss):=rfl
  have z2:(Str.ofString ", ").cps.size=2:=by decide
  have e1:(s++Str.ofString ", ").cps.size=s.cps.size+2:=by rw [bG,z2]
  rw [e0]
  refine ⟨aW (aW (hs s a0e) (aG _ (by decide)) (by omega)) a (by omega),?_⟩
  rw [bG,e1]; omega
mutual
theorem d9:∀ t:M.T,M.rOk t=true->M.szR t<=M.LIM->(M.datT t).showable=true/\M.sOk (M.datT t).shown=true/\(M.datT t).shown.cps.size<=M.szR t
 | .non,_,_=>⟨rfl,aG _ (by decide),by decide⟩
 | .bl b,_,_=>⟨rfl,by cases b<;>exact aG _ (by decide),by cases b<;>decide⟩
 | .int i,h,_=>by
  have hb:i.natAbs < 10000000000000000000:=of_decide_eq_true h
  have hl:=jU hb
  have h2:=int_text_length_le10 (a:=i) (k:=19) (by decide) hb
  exact ⟨decide_eq_true (qA hb),aG _ (by omega),a0k hl (show 20<=100 by decide)⟩
 | .str x,h,_=>by
  have h:(decide ((a1t x).length<=100)&&M.sOk (a1t x))=true:=h
  rw [a0d] at h
  exact ⟨rfl,h.2,of_decide_eq_true h.1⟩
 | .tup ts,h,hl=>by
  have hl':M.szRs ts+4<=M.LIM:=hl
  obtain ⟨a,b,c⟩:=bS ts h (by omega)
  obtain ⟨d,e⟩:=cf _ b (by omega)
  refine ⟨a,?_⟩
  show M.sOk (("(":Str)++Str.join ", " (PyData.shownAll (M.datTs ts))++(if (PyData.shownAll (M.datTs ts)).length==1 then ",)" else ")":String))=true/\(("(":Str)++Str.join ", " (PyData.shownAll (M.datTs ts))++(if (PyData.shownAll (M.datTs ts)).length==1 then ",)" else ")":String)).cps.size<=M.szRs ts+4
  have z1:(Str.ofString "(").cps.size=1:=by decide
  have e1:(Str.ofString "("++Str.join ", " (PyData.shownAll (M.datTs ts))).cps.size=1+(Str.join ", " (PyData.shownAll (M.datTs ts))).cps.size:=by rw [bG,z1]
  have key:∀ z:Str,M.sOk z=true->z.cps.size<=2->M.sOk (Str.ofString "("++Str.join ", " (PyData.shownAll (M.datTs ts))++z)=true/\(Str.ofString "("++Str.join ", " (PyData.shownAll (M.datTs ts))++z).cps.size<=M.szRs ts+4:=fun z hz hz2 =>
   ⟨aW (aW (aG _ (by decide)) d (by omega)) hz (by omega),by rw [bG,e1]; omega⟩
  split
  ·exact key (Str.ofString ",)") (aG _ (by decide)) (by decide)
  ·exact key (Str.ofString ")") (aG _ (by decide)) (by decide)
 | .lst ts,h,hl=>by
  have hl':M.szRs ts+4<=M.LIM:=hl
  obtain ⟨a,b,c⟩:=bS ts h (by omega)
  have z1:(Str.ofString "[").cps.size=1:=by decide
  have z2:(Str.ofString "]").cps.size=1:=by decide
  obtain ⟨d,e⟩:=iY _ 0 (Str.ofString "[") (aG _ (by decide)) b (by omega)
  refine ⟨a,?_⟩
  show M.sOk (textFrom 0 (Str.ofString "[") (PyData.shownAll (M.datTs ts))++Str.ofString "]")=true/\(textFrom 0 (Str.ofString "[") (PyData.shownAll (M.datTs ts))++Str.ofString "]").cps.size<=M.szRs ts+4
  exact ⟨aW d (aG _ (by decide)) (by omega),by rw [bG]; omega⟩
 | .dct _ _,h,_=>by cases h
 | .ins _ _ _,h,_=>by cases h
 | .scr _,h,_=>by cases h
 | .gone,h,_=>by cases h
theorem bS:∀ ts:List M.T,M.rOks ts=true->M.szRs ts<=M.LIM->PyData.showableAll (M.datTs ts)=true/\(∀ s∈PyData.shownAll (M.datTs ts),M.sOk s=true)/\bI (PyData.shownAll (M.datTs ts))<=M.szRs ts
 | [],_,_=>⟨rfl,(fun _ h=>nomatch h),a0j _⟩
 | t::ts,h,hl=>by
  have hl':M.szR t+2+M.szRs ts<=M.LIM:=hl
  have h':(M.rOk t&&M.rOks ts)=true:=h
  rw [a0d] at h'
  obtain ⟨a,b,c⟩:=d9 t h'.1 (by omega)
  obtain ⟨d,e,f⟩:=bS ts h'.2 (by omega)
  refine ⟨?_,fun s hs=>?_,?_⟩
  ·show ((M.datT t).showable&&PyData.showableAll (M.datTs ts))=true
   rw [a,d]; rfl
  ·have hs:s∈(M.datT t).shown::PyData.shownAll (M.datTs ts):=hs
   rcases a0Q.mp hs with rfl | hs
   ·exact b
   ·exact e s hs
  ·show bI ((M.datT t).shown::PyData.shownAll (M.datTs ts))<=M.szR t+2+M.szRs ts
   unfold bI at f ⊢
   rw [a0u,a1n]; omega
end
end MR

namespace MR
open PySem PySem.Spec PyProof.Rows L2 L3
end MR

namespace L3
open PySem PySem.Spec PyProof.Rows L2
end L3
namespace MR
open L2 L3 M
open PySem (Addr Str sizeLine)
end MR
namespace MR
open PySem PySem.Spec PyProof.Rows L2 L3
end MR

namespace L3
open PySem PySem.Spec PyProof.Rows L2
end L3
namespace MR
open PySem PySem.Spec PyProof.Rows L2 L3
end MR

namespace MR
open L2 L3 M
open PySem (Addr Str sizeLine)
end MR
namespace MR
open PySem PySem.Spec PyProof.Rows L2 L3
end MR

namespace L2
open PySem PySem.Spec PyProof.Rows
end L2
namespace L3
open PySem PySem.Spec PyProof.Rows L2
end L3
namespace MR
open L2 L3 M
open PySem (Addr Str sizeLine)
end MR
namespace MR
open PySem PySem.Spec PyProof.Rows L2 L3
end MR

namespace L3
open PySem PySem.Spec PyProof.Rows L2
end L3
namespace MR
open L2 L3 M
open PySem (Addr Str sizeLine)
end MR
namespace MR
open PySem PySem.Spec PyProof.Rows L2 L3
end MR

namespace MR
open L2 L3 M
open PySem (Addr Str sizeLine)
end MR
namespace MR
open PySem PySem.Spec PyProof.Rows L2 L3
end MR

namespace L3
open PySem PySem.Spec PyProof.Rows L2
end L3
namespace MR
open L2 L3 M
open PySem (Addr Str sizeLine)
end MR
namespace MR
open PySem PySem.Spec PyProof.Rows L2 L3
end MR

namespace MR
open L2 L3 M
open PySem (Addr Str sizeLine)
end MR
namespace MR
open PySem PySem.Spec PyProof.Rows L2 L3
end MR

namespace L3
open PySem PySem.Spec PyProof.Rows L2
section
variable {X:Cx}{lit:Str}{k:Nat}{p1 p2 pos:Pos}{e:Expr}{te:TE}
theorem fQ (hl:lit.length<=1000)(hg:X.A.guards=some [])(hu:X.A.units+200 < cLine)(he:PE X e te):PE X (.JoinedStr [.Constant (.str lit) k p1,.FormattedValue e 114 none p2] pos) fun σ H Q=>te σ H fun v H1=>∃ ts,Has X.K H1 (.tup ts) v/\(toD (.tup ts)).showable=true/\(toD (.tup ts)).hasDict=false/\(toD (.tup ts)).depth<=64/\(toD (.tup ts)).shown.length<=1000000/\∀ y,Q (.str y) H1:=by
 intro pins s σ H Q I h
 refine JoinedStr_many (joinParts_cons (Calls.Constant_str ⟨?_,joinParts_cons ?_⟩))
 ·show (Str.empty++lit).length<=sizeLine
  rw [strLen_append,sizeLine_eq]
  show 0+lit.length<=_
  omega
 ·refine wpAny_bind (thn (he pins _ σ H _ (I.tok _) h) fun u s1 ⟨v,H1,I1,r,ts,ht,hs,hd,hp,hz,q⟩=>?_)
  obtain ⟨as,ra⟩:=Has.reads I1 ht r
  obtain ⟨a,vs,rfl,_,_⟩:=ht
  obtain rfl:u=Value.ref a:=r
  refine wpAny_bind (wpAny_standAt (wpAny_bind (wpAny_holding ?_)))
  have hz':(toD (.tup ts)).shown.length<=sizeLine:=by rw [sizeLine_eq]; omega
  refine pyReprObj_of_reads ra hs (PyData.noDict_hsm hd) hg (by omega) (fun _ _ e=>e) (fun h' u tk hk=>?_) hz'
  refine formatField_str (fun t' tk'=>⟨?_,joinParts_nil ⟨.str _,H1,((I1.kept hk).tok _).tok _,⟨_,rfl⟩,q _⟩ ?_⟩) hz'
  all_goals
   rw [strLen_append,strLen_append,sizeLine_eq]
   have:Str.empty.length=0:=rfl
   omega
end
end L3
namespace MR
open PySem PySem.Spec PyProof.Rows L2 L3
noncomputable def FkV (K:a0a):Nat->Hp->V->Prop
 | 0,_,y=>∃ n:Int,y=.int n/\n.natAbs.log2 < 1920
 | 1,H,y=>∃ ts,Has K H (.tup ts) y/\(toD (.tup ts)).showable=true/\(toD (.tup ts)).hasDict=false/\(toD (.tup ts)).depth<=64/\(toD (.tup ts)).shown.length<=1000000
 | 2,_,y=>∃ z,y=.str z
 | _,_,_=>False
noncomputable def spI (K:a0a)(C:Addr)(fld:Str)(fk:Nat):Sp:=fun vs H Q _=>∃ a y,vs=[.ref a,y]/\FkV K fk H y/\H a=some (XO a C none true)/\∀ dx,H dx=none->dx≠a->Q .non (upd (upd H dx (.xd [(fld,y)])) a (XO a C (some dx) true))
theorem tK {K:a0a}{Z:Fp}{H:Hp}{m:M.Md}{t:M.T}{v:V}{G:Fp}{fk:Nat}(r:Rep K Z H m t v G)(h:M.fldOk fk m t=true):FkV K fk H v/\Rep K Z H .s t v no:=by
 match fk,m,t,h,r with
 | 0,_,.int n,h,r=>exact ⟨⟨n,r,of_decide_eq_true h⟩,r⟩
 | 2,_,.str z,h,r=>exact ⟨⟨z,r.1⟩,r.leaf (fun _ _ _ q=>q) rfl⟩
 | 1,.s,.tup ts,h,r =>
  have hb:(decide (M.dp (.tup ts)<=64)&&M.rOk (.tup ts)&&decide (M.szR (.tup ts)<=1000000))=true:=h
  rw [a0d,a0d,decide_eq_true_eq] at hb
  obtain ⟨⟨h1,h2⟩,h3⟩:=hb
  have h4:M.szR (.tup ts)<=1000000:=of_decide_eq_true h3
  have h3:M.szR (.tup ts)<=M.LIM:=a0k h4 (by show 1000000<=16777215; decide)
  obtain ⟨o1,o2,o3⟩:=dv (n:=64) h1 (a0j _) r
  obtain ⟨s1,s2,s3⟩:=d9 (.tup ts) h2 h3
  refine ⟨⟨ths ts,o1,?_,PyData.hasDict_of_canLay _ o2,o3,?_⟩,Rep.sany r⟩
  ·show (toD (th (.tup ts))).showable=true
   rw [eM]; exact s1
  ·show (toD (th (.tup ts))).shown.length<=_
   rw [eM]; exact a0k s3 h4
section
variable {X:Cx}{sf:Nat->Option Nat}{C:M.Call}{pos p p2:Pos}{ea:Expr}{a:M.E}{x fld:Str}{c k fk:Nat}{io:List Nat}{xx:M.X}{Cc f:Addr}{up:List Value}{fd:FuncData}{ps:List Str}
theorem FkV.keep {K:a0a}{fk:Nat}{H:Hp}{a':Addr}{o:HO}{y:V}(h0:H a'=none)(h:FkV K fk H y):FkV K fk (upd H a' o) y:=by
 match fk,h with
 | 0,h=>exact h
 | 2,h=>exact h
 | 1,⟨t,q,r⟩=>exact ⟨t,q.mono fun b u e=>by rw [ae (fun z=>by rw [z,h0] at e; cases e)]; exact e,r⟩
theorem lV {Z' G:Fp}{H':Hp}{a' dx:Addr}{t:M.T}{v:V}(nm:XNm X.K c Cc)(h0:H' a'=none)(hd0:H' dx=none)(hne:dx≠a')(ow:Own Z' H' G)(r:Rep X.K Z' H' .s t v no){H3:Hp}(q1:H3 a'=some (XO a' Cc (some dx) false))(q2:H3 dx=some (.xd [(fld,v)]))(q3:∀ b,b≠a'->b≠dx->H3 b=H' b) :
  Step Z' H' G (fun b=>Z' b\/b=a'\/b=dx) H3 no/\Rep X.K (fun b=>Z' b\/b=a'\/b=dx) H3 .s (.ins c [fld] [t]) (.ref a') no:=by
 have ne:∀ b,H' b≠none->b≠a'/\b≠dx:=fun b z=>⟨fun e=>z (by rw [e]; exact h0),fun e=>z (by rw [e]; exact hd0)⟩
 have st:Step Z' H' G (fun b=>Z' b\/b=a'\/b=dx) H3 no:={
  keep:=fun b o e _=>by obtain ⟨n1,n2⟩:=ne b (by rw [e]; simp); rw [q3 b n1 n2]; exact e
  zm:=fun b z=>.inl z
  zn:=fun b z=>z.elim .inl fun z=>.inr (.inr (z.elim (fun e=>by rw [e]; exact h0) fun e=>by rw [e]; exact hd0))
  fn:=fun _ z=>z.elim
  al:=fun b z=>by obtain ⟨n1,n2⟩:=ne b z; rw [q3 b n1 n2]; exact z
  za:=fun hz b z=>by
   rcases z with z | rfl | rfl
   ·obtain ⟨n1,n2⟩:=ne b (hz b z); rw [q3 b n1 n2]; exact hz b z
   ·rw [q1]; simp
   ·rw [q2]; simp }
 exact ⟨st,(fun z=>by cases z),a',dx,Cc,[v],rfl,.inr (.inl rfl),.inr (.inr rfl),q1,q2,rfl,nm,RepL.one (r.frame ow st fun _ z=>z.elim)⟩
end
end MR

namespace L3
open PySem PySem.Spec PyProof.Rows L2
theorem hU {X:Cx}{cv:Value}{rv:V}(rc:∀ u,RelV rv u->u=cv):dh X (.builtin "isinstance") (fun xs H Q=>∃ x b,xs=[x,rv]/\((∃ a C dx n fs,x=.ref a/\H a=some (XO a C (some dx) n)/\H dx=some (.xd fs)/\XF X.K C/\a0E X.K (.ref C) cv=some b)\/(x=.non/\a0E X.K (.type "NoneType") cv=some b))/\Q (.bl b) H):=by
 intro pins s σ H xs us Q I r h
 obtain ⟨x,b,rfl,h,q⟩:=h
 obtain ⟨u,w',rfl,ru,rw'⟩:=t8 r
 obtain rfl:w'=cv:=rc _ rw'
 rcases h with ⟨a,C,dx,n,fs,rfl,e,d,c,k⟩ | ⟨rfl,k⟩
 ·obtain rfl:u=Value.ref a:=ru
  exact qc I e d c k fun tk=>⟨.bl b,H,I.tok tk,rfl,q⟩
 ·exact gO I ru .non k fun tk=>⟨.bl b,H,I.tok tk,rfl,q⟩
end L3
namespace MR
open PySem PySem.Spec PyProof.Rows L2 L3
section
variable {X:Cx}{sf:Nat->Option Nat}{C:M.Call}{pos p p2 p3:Pos}{ea:Expr}{a:M.E}{h:Bool}{k fld:Str}{cs:List Nat}{cv:Value}{rv:V}
theorem fJ {K:a0a}{Z:Fp}{H:Hp}{m:M.Md}{c:Nat}{fs:List Str}{vs:List M.T}{v:V}{G:Fp}(r:Rep K Z H m (.ins c fs vs) v G):∃ a dx xs,v=.ref a/\H a=some (XO a c (some dx) false)/\H dx=some (.xd (fs.zip xs))/\fs.length=vs.length/\XF K c/\RepL K Z H .s vs xs (fun _=>False):=by
 obtain ⟨_,a,dx,C,xs,e,_,_,h1,h2,l,⟨rfl,f⟩,r⟩:=r
 exact ⟨a,dx,xs,e,h1,h2,l,f,r⟩
theorem mf (ha:SE X sf C ea a)(hn:∀ c:Nat,XF X.K c->a0l X.K (.ref c) fld=some none)(hb:attributeBase ea fld X.env (eval ea X.env)=eval ea X.env:=by rfl):SE X sf C (.Attribute ea fld pos) (.op (.att fld) h [a]) :=
 aE (lI ha hb) fun σ H Q hw=>by
  obtain ⟨pv,Z,Fs,η,w,η',A,ev,k⟩:=hw
  obtain ⟨ws,h1,h2⟩:=bp ev
  obtain ⟨⟨m,u⟩,η1,us,e1,e2,rfl⟩:=az h1
  cases e2
  cases u with
  | ins c fs vs =>
   match fs,vs,h2 with
   | [g],[t],h2 =>
    have h3:(if (g==fld)=true then some ((M.lfM t,t):M.W) else none)=some w:=h2
    split at h3
    ·rename_i hg
     cases h3
     refine ⟨pv,Z,Fs,η,_,η',A,e1,fun x Z' H' Fs' G B r s=>?_⟩
     obtain ⟨a',dx,xs,e,q1,q2,l,f,rl⟩:=fJ r
     obtain ⟨y,r',G1,G2,ex,_,_,_,ry,rn⟩:=rl
     cases ex
     obtain rfl:r'=[]:=rn
     refine ⟨a',c,dx,false,[(g,y)],y,e,q1,q2,f,hn c f,?_,?_⟩
     ·rw [<- beq_iff_eq.mp hg]; simp [a1z]
     ·refine k y Z' H' Fs' no B.bare ?_ (s.mono (fun _ z=>z) fun b z=>z.elim .inl fun y=>y.elim)
      show Rep X.K Z' H' (if t.leaf=true then .d else .s) t y no
      split
      ·rename_i hl
       exact ry.leaf (fun _ _ _ q=>q) hl
      ·exact Rep.sany ry
    ·cases h3
  | _=>cases h2
theorem nA {rk:PE X (.Name k p2) (fun σ H Q=>Q rv H)}(rc:∀ u,RelV rv u->u=cv)(hk:∀ c:Nat,XF X.K c->a0E X.K (.ref c) cv=some (cs.contains c))(hk0:a0E X.K (.type "NoneType") cv=some false)(hm:X.mg "isinstance"=none)(ha:SE X sf C ea a)(hg:Gl X "isinstance":=by rfl)
  (hs:starEach [ea,.Name k p2] X.env=(false,eval ea X.env)::starEach [.Name k p2] X.env:=by rfl) (hs2:starEach [.Name k p2] X.env=(false,eval (.Name k p2) X.env)::starEach [] X.env:=by rfl) (hpl:(backTo pos (starEach [.Name k p2] X.env)).any (·.1)=false:=by rfl) :
  SE X sf C (.Call (.Name "isinstance" p3) [ea,.Name k p2] [] pos) (.op (.isX cs) h [a]) :=
 aE (cF (hU rc) hg hm a2l (ax ha (ax rk aY hs2) hs) (by decide) (by decide) hs hpl) fun σ H Q hw=>by
  obtain ⟨pv,Z,Fs,η,w,η',A,ev,k⟩:=hw
  obtain ⟨ws,h1,h2⟩:=bp ev
  obtain ⟨⟨m,u⟩,η1,us,e1,e2,rfl⟩:=az h1
  cases e2
  cases u with
  | ins c fs vs =>
   have h3:some ((.d,.bl (cs.contains c)):M.W)=some w:=h2
   cases h3
   refine ⟨pv,Z,Fs,η,_,η',A,e1,fun x Z' H' Fs' G B r s=>?_⟩
   obtain ⟨a',dx,xs,e,q1,q2,l,f,rl⟩:=fJ r
   exact ⟨x,_,rfl,.inl ⟨a',c,dx,false,_,e,q1,q2,f,hk c f⟩,cG (br B s k)⟩
  | non =>
   have h3:some ((.d,.bl false):M.W)=some w:=h2
   cases h3
   refine ⟨pv,Z,Fs,η,_,η',A,e1,fun x Z' H' Fs' G B r s=>?_⟩
   obtain rfl:x=.non:=r
   exact ⟨.non,_,rfl,.inr ⟨rfl,hk0⟩,cG (br B s k)⟩
  | _=>cases h2
end
end MR

namespace MR
open PySem PySem.Spec PyProof.Rows L2 L3
structure XCl (P:Program)(w:World)(K:a0a)(mg:Str->Option Value)(base:Heap)(x:Str)(c B:Nat)(fld:Str)(fk:Nat):Prop where
 ex:∃ f up fd ps,XC K c f up/\cT up=true/\up.contains (.ref B)=true/\Binds K fd ps []/\∀ k,aS P w K mg base CX0 (k+1) f fd ps (spI K c fld fk)
 xf:XF K c
 nm:mg x=some (.ref c)
structure XIs (K:a0a)(mg:Str->Option Value)(x:Str)(cv:Value)(cs:List Nat):Prop where
 nm:mg x=some cv\/(mg x=none/\bootBuiltins x=some cv)
 one:∀ c:Nat,XF K c->a0E K (.ref c) cv=some (cs.contains c)
 non:a0E K (.type "NoneType") cv=some false
section
variable {X:Cx}{sf:Nat->Option Nat}{C:M.Call}{pos pos' p p2 p3:Pos}{ea:Expr}{a:M.E}{x k fld cn:Str}{c B n i C' fk:Nat}{io cs:List Nat}{xx:M.X}{h:Bool}{body suite:List Stmt}{b₀:Stmt}{ms hs:List M.S}
theorem cJ (r:XIs X.K X.mg k (.ref C') cs)(hm:X.mg "isinstance"=none)(ha:SE X sf C ea a)(hg:Gl X "isinstance":=by rfl)(hg2:Gl X k:=by rfl)(hd:(k==("__debug__":Str))=false:=by decide)
  (hs:starEach [ea,.Name k p2] X.env=(false,eval ea X.env)::starEach [.Name k p2] X.env:=by rfl) (hs2:starEach [.Name k p2] X.env=(false,eval (.Name k p2) X.env)::starEach [] X.env:=by rfl) (hpl:(backTo pos (starEach [.Name k p2] X.env)).any (·.1)=false:=by rfl) (hb:bootBuiltins k=none:=by kernel_rfl) :
  SE X sf C (.Call (.Name "isinstance" p3) [ea,.Name k p2] [] pos) (.op (.isX cs) h [a]):=by
 have nm:X.mg k=some (.ref C'):=by
  rcases r.nm with z | ⟨_,z⟩
  ·exact z
  ·rw [hb] at z; cases z
 exact nA (rv:=.ref C') (cv:=.ref C') (rk:=pO hg2 nm hd) (fun u z=>z) r.one r.non hm ha hg hs hs2 hpl
theorem sN {T:String}(r:XIs X.K X.mg k (.type T) cs)(hm:X.mg "isinstance"=none)(ha:SE X sf C ea a)(hm2:X.mg k=none)(hb:bootBuiltins k=some (.type T):=by first | exact PyProof.Rows.Boot.«ValueError» | kernel_rfl)(hn:k≠"__name__":=by decide)(hg:Gl X "isinstance":=by rfl)(hg2:Gl X k:=by rfl)(hd:(k==("__debug__":Str))=false:=by decide)
  (hs:starEach [ea,.Name k p2] X.env=(false,eval ea X.env)::starEach [.Name k p2] X.env:=by rfl) (hs2:starEach [.Name k p2] X.env=(false,eval (.Name k p2) X.env)::starEach [] X.env:=by rfl) (hpl:(backTo pos (starEach [.Name k p2] X.env)).any (·.1)=false:=by rfl) :
  SE X sf C (.Call (.Name "isinstance" p3) [ea,.Name k p2] [] pos) (.op (.isX cs) h [a]) :=
 nA (rv:=.ty T) (cv:=.type T) (rk:=ug hg2 hm2 hb hn hd) (fun u z=>z) r.one r.non hm ha hg hs hs2 hpl
end
end MR

namespace MR
open PySem PySem.Spec PyProof.Rows L2 L3
noncomputable def nF (K:a0a)(C:Addr)(up:List Value)(cd:ClassData)(sl:Array (Option Value)):Bool :=
 (match sl.toList with | [_,_,_,_,some (.builtin m),_]=>m=="ValueError.__new__" | _=>false)&&(cd.mro==.ref C::up&&(!cd.hasDel&&PySem.W.nsOkIn K cd.ns))
noncomputable def iy (K:a0a)(C:Addr)(up:List Value):Bool:=match K.lookup C with
 | some ⟨.type "type",_,.cls cd,sl⟩=>nF K C up cd sl
 | _=>false
theorem dy {K:a0a}{h:Heap}{N:Addr}{mg:Str->Option Value}{x:Str}{r:Option Value}(X:K.In h)(G:h.Ns N mg)(e:a00 K N x=some r):mg x=r:=by
 cases r with
 | none=>exact PySem.W.ns_none_of X G e
 | some v =>
  obtain ⟨o,es,ep,ho,hd,_,hf⟩:=G
  rw [<- hf x]
  unfold a00 at e
  split at e
  ·rename_i q
   cases (X _ _ q).symm.trans ho
   cases hd
   cases z:es.toList.find? (fun y=>y.key.isStr x) with
   | none=>rw [z] at e; dsimp only at e; split at e<;>cases e
   | some en =>
    rw [z] at e
    cases e
    show (es.find? (fun y=>y.key.isStr x)).map (·.val)=_
    rw [<- a1X,z]
    rfl
  ·cases e
theorem oQ {K:a0a}{C:Addr}{up:List Value}(e:iy K C up=true):∃ N,∀ h,K.In h->j2 h C N up (h.nsMap N)/\∀ x r,a00 K N x=some r->h.nsMap N x=r:=by
 unfold iy at e
 split at e
 ·rename_i dd cd sl ho
  unfold nF at e
  rw [a0d] at e
  obtain ⟨e1,e2⟩:=e
  split at e1
  ·rename_i k0 k1 k2 k3 m k5 hs
   simp only [a0d,beq_iff_eq,Bool.not_eq_true'] at e1 e2
   obtain ⟨hm,hdel,hns⟩:=e2
   obtain ⟨nm,bs,mro,ns,qn,hd,sn,sub,ab,col,del⟩:=cd
   dsimp only at hm hdel hns
   subst hm hdel e1
   have hsl:sl=#[k0,k1,k2,k3,some (.builtin "ValueError.__new__"),k5]:=by
    obtain ⟨l⟩:=sl
    simp only at hs
    rw [hs]
   subst hsl
   exact ⟨ns,fun h X=>⟨⟨⟨nm,qn,bs,hd,sn,sub,ab,col,dd,k0,k1,k2,k3,k5,X _ _ ho⟩,.of_isNs (a14 X hns)⟩,fun x r q=>dy X (.of_isNs (a14 X hns)) q⟩⟩
  ·cases e1
 ·cases e
noncomputable def fnB (K:a0a)(f:Addr):Bool:=match K.lookup f with
 | some ⟨.type "function",_,_,_⟩=>true
 | _=>false
noncomputable def eS (K:a0a)(C:Addr):Addr:=match K.lookup C with
 | some ⟨_,_,.cls cd,_⟩=>cd.ns
 | _=>0
noncomputable def xcB (K:a0a)(C f:Addr)(up:List Value):Bool :=
 iy K C up&&(a00 K (eS K C) "__init__"==some (some (.ref f))&&(PySem.W.tailIn K VE up&&(fnB K f&&(a0W K (.ref C)&&(a0l K (.ref C) "__setattr__"==some (some (.builtin "object.__setattr__"))&&((a02 K C).any (fun cd=>cT cd.mro)&&a0I K C))))))
theorem je {K:a0a}{C:Addr}{up:List Value}(e:iy K C up=true):∀ h,K.In h->j2 h C (eS K C) up (h.nsMap (eS K C))/\∀ x r,a00 K (eS K C) x=some r->h.nsMap (eS K C) x=r:=by
 obtain ⟨N,q⟩:=oQ e
 have:∀ h,K.In h->N=eS K C:=fun h X=>by
  obtain ⟨⟨nm,qn,bs,hd,sn,sub,ab,col,dd,k0,k1,k2,k3,k5,ho⟩,_⟩:=(q h X).1
  unfold iy at e
  unfold eS
  split at e
  ·rename_i hl
   rw [hl]
   cases (X _ _ hl).symm.trans ho
   rfl
  ·cases e
 intro h X
 rw [<- this h X]
 exact q h X
theorem de {K:a0a}{C f:Addr}{up:List Value}(e:xcB K C f up=true):XC K C f up:=by
 unfold xcB at e
 simp only [a0d,beq_iff_eq] at e
 obtain ⟨e1,e2,e3,e4,e5,e6,e7,e8⟩:=e
 refine ⟨fun h X=>⟨_,_,(je e1 h X).1,PySem.W.tail_of_in X e3,(je e1 h X).2 _ _ e2⟩,fun h X=>?_,e5,e6,e7,e8⟩
 unfold fnB at e4
 split at e4
 ·rename_i hl
  exact ⟨_,X _ _ hl,rfl⟩
 ·cases e4
noncomputable def xfB (K:a0a)(C:Addr):Bool :=
 a0l K (.ref C) "__getattribute__"==some (some (.builtin "BaseException.__getattribute__"))&&(a0l K (.ref C) "__getattr__"==some none&&(a2z K (.ref C) (.type "BaseException")==some true&&(a0I K C&&(a0l K (.ref C) "__class__"==some (some (.builtin "object.__class__"))&&(a0S K (.builtin "object.__class__") "__get__"==some (some (.builtin "getset_descriptor.__get__"))&&(a07 K (.builtin "object.__class__")==some true&&a08 K C (.type "object")==some true))))))
theorem cY {K:a0a}{C f:Addr}{up:List Value}(c:XC K C f up)(hu:cT up=true)(e:xfB K C=true):XF K C:=by
 unfold xfB at e
 simp only [a0d,beq_iff_eq] at e
 obtain ⟨e1,e2,e3,e4,e5,e6,e7,e8⟩:=e
 exact ⟨⟨f,up,c,hu⟩,⟨e1,e2,e3⟩,e4,e5,e6,e7,e8⟩
noncomputable def kO (K:a0a)(p:Nat->Bool):Bool:=K.all fun q=>!((a02 K q.1).any fun cd=>cT cd.mro) || p q.1
theorem fC {K:a0a}{p:Nat->Bool}(e:kO K p=true){c:Nat}(x:XF K c):p c=true:=by
 obtain ⟨f,up,xc,_⟩:=x.xc
 have po:=xc.po
 obtain ⟨cd,hc,_⟩:=a0V po
 have:∃ o,(c,o)∈K:=by
  unfold a02 at hc
  split at hc
  ·rename_i hl
   have hl':a1z c K=some _:=hl
   clear hc po xc e x
   induction K with
   | nil=>cases hl'
   | cons q r ih =>
    obtain ⟨a,o⟩:=q
    rw [a1k] at hl'
    by_cases z:c=a
    ·exact ⟨o,by rw [z]; exact a0e ..⟩
    ·rw [show (c==a)=false from beq_false_of_ne z] at hl'
     obtain ⟨o',h⟩:=ih hl' hl'
     exact ⟨o',a0f _ h⟩
  ·cases hc
 obtain ⟨o,m⟩:=this
 have q:=a1l.mp e (c,o) m
 rw [po] at q
 exact q
end MR

namespace L3
open PySem PySem.Spec PyProof.Rows L2
theorem tI {X:Cx}{e:Expr}{te:TE}(he:PE X e te):PE X e (fun σ H Q=>te σ H fun v H1=>∃ a C od,v=.ref a/\H1 a=some (XO a C od true)/\Q v (upd H1 a (XO a C od false))):=by
 intro pins s σ H Q I h
 exact thn (he pins s σ H _ I h) fun u s1 ⟨v,H1,I1,r,a,C,od,ev,e,q⟩=>⟨v,upd H1 a (XO a C od false),Inv.xweak I1 e,r,q⟩
end L3
namespace MR
open PySem PySem.Spec PyProof.Rows L2 L3
section
variable {X:Cx}{sf:Nat->Option Nat}{C:M.Call}{pos pos' p p2 p3 p4:Pos}{ea eb ec:Expr}{a c:M.E}{h:Bool}{k:Str}{Cs cs:List Nat}{es:List Expr}{io:List Nat}{xx:M.X}{bs bs':List M.E}{g g':Nat}{vs vs':List Nat}
theorem sMk {x fld:Str}{c B n fk:Nat}(r:XCl X.prog X.w X.K X.mg X.base x c B fld fk)(hr:Room (n+2) X.A)(ha:SE X sf C ea a)(hg:Gl X x:=by rfl)
  (hdb:(x==("__debug__":Str))=false:=by decide) (hst:starEach [ea] X.env=(false,eval ea X.env)::starEach [] X.env:=by rfl) (hpl:(backTo p2 (starEach [] X.env)).any (·.1)=false:=by rfl) :
  SE X sf C (.Call (.Name x p) [ea] [] p2) (.op (.mk c fld fk) h [a]):=by
 obtain ⟨f,up,fd,ps,xc,hu,_,hb,F⟩:=r.ex
 refine aE (tI (iJ (E:=E0) xc (F n) hr hg r.nm hb nJ (ax ha aY hst) hdb hst hpl)) fun σ H Q hw=>?_
 obtain ⟨pv,Z,Fs,η,w,η',A,ev,k⟩:=hw
 obtain ⟨ws,h1,h2⟩:=bp ev
 obtain ⟨⟨m,t⟩,η1,us,e1,e2,rfl⟩:=az h1
 cases e2
 have h3:(if M.fldOk fk m t=true then some ((.s,.ins c [fld] [t]):M.W) else none)=some w:=h2
 split at h3
 ·rename_i hlt
  cases h3
  refine ⟨pv,Z,Fs,η,_,η',A,e1,fun v Z' H' Fs' G B r' s=>?_⟩
  obtain ⟨fv,rs⟩:=tK r' hlt
  refine ⟨by show 1<=sizeLine; rw [sizeLine_eq]; omega,fun a' h0=>⟨a',v,rfl,fv.keep h0,aA,fun dx hd hne=>⟨rfl,a',c,some dx,rfl,aA,?_⟩⟩⟩
  have hd0:H' dx=none:=by rw [ae hne] at hd; exact hd
  generalize hH:upd (upd (upd (upd H' a' (XO a' c none true)) dx (.xd [(fld,v)])) a' (XO a' c (some dx) true)) a' (XO a' c (some dx) false)=H3
  obtain ⟨st,r3⟩:=lV (fld:=fld) ⟨rfl,r.xf⟩ h0 hd0 hne B.own rs (H3:=H3) (by rw [<- hH,aA]) (by rw [<- hH,ae hne,ae hne,aA]) (fun b n1 n2=>by rw [<- hH,ae n1,ae n1,ae n2,ae n1])
  obtain ⟨B2,s2⟩:=B.op (fun _ z=>z.elim) st
  exact k (.ref a') _ H3 Fs' no B2 r3 ((s.trans s2).mono (fun _ z=>z) fun b z=>z)
 ·cases h3
end
end MR

namespace L3
open PySem PySem.Spec PyProof.Rows L2
end L3
namespace MR
open PySem PySem.Spec PyProof.Rows L2 L3
end MR

namespace A23
open M
open PySem (Str)
noncomputable abbrev q:=Str.ofString
noncomputable abbrev ag:Nat:=24
noncomputable abbrev av:Nat:=44
noncomputable abbrev au:Nat:=63
noncomputable abbrev ao:Nat:=82
noncomputable abbrev ak:Nat:=101
noncomputable abbrev aB:Nat:=120
noncomputable abbrev aC:Nat:=139
noncomputable def aN:Fn:={ ps:=1,ns:=1,io:=[],body:=[
  .asg (.q [0] []) 1 (.lst false [.op (.isX [av]) false [.var 0],.op (.isX [au]) false [.var 0],.op (.isX [ao]) false [.var 0],.op (.isX [ak]) false [.var 0]]),
  .ret [0] (.op .add false [.mv 1,.lst false [.op (.isX [aB]) false [.var 0],.op (.isX [aC]) false [.var 0]]])] }
noncomputable def f_law:Fn:={ ps:=1,ns:=8,io:=[],body:=[
  .asg (.q [0] []) 1 (.ifx (.op .gt false [.op .len false [.var 0],.cst (.int 0)]) (.op .sub false [.op .mod false [.op .ix false [.var 0,.cst (.int 0)],.op .mul false [.cst (.int 2),.op .pow false [.cst (.int 10),.cst (.int 50)]]],.op .pow false [.cst (.int 10),.cst (.int 50)]]) (.cst (.int 0))),
  .asg (.q [0] []) 2 (.op .tuple false [.comp false .seq [.op .sl2 false [.var 0,.cst (.int 12)]] [6] none (.op .mod false [.var 6,.cst (.int 3)])]),
  .asg (.q [0] []) 3 (.op .join false [.cst (.str (q "")),.comp false .seq [.op .sl2 false [.var 0,.cst (.int 8)]] [7] none (.op .ix false [.cst (.str (q "abcxyz")),.op .mod false [.var 7,.cst (.int 6)]])]),
  .asg (.q [2,3] [1]) 4 (.lst false [.op (.mk av (q "at") 0) false [.op .abs false [.var 1]],.op (.mk au (q "place") 1) false [.var 2],.op (.mk ao (q "place") 1) false [.var 2],.op (.mk ak (q "number") 0) false [.var 1],.op (.mk aB (q "text") 2) false [.var 3],.op (.mk aC (q "text") 2) false [.var 3]]),
  .forS [] [] .rng [.cst (.int 6)] [5] [
   .ite (.q [4] [5]) (.op .ne false [.call 333 [.op .ix false [.var 4,.var 5]],.comp false .rng [.cst (.int 6)] [8] none (.op .eq false [.var 8,.var 5])]) [
    .ret [] (.cst (.bl false))] [],
   .ite (.q [4] [5]) (.or (.not (.op (.isX [av,au,ao,ak,aB,aC,ag]) false [.op .ix false [.var 4,.var 5]])) (.not (.op (.isX [av,au,ao,ak,aB,aC,ag]) false [.op .ix false [.var 4,.var 5]]))) [
    .ret [] (.cst (.bl false))] []],
  .ite (.q [2,4] [1]) (.or (.op .ne false [.op (.att (q "at")) false [.op .ix false [.var 4,.cst (.int 0)]],.op .abs false [.var 1]]) (.or (.op .ne false [.op (.att (q "place")) false [.op .ix false [.var 4,.cst (.int 1)]],.var 2]) (.op .ne false [.op (.att (q "place")) false [.op .ix false [.var 4,.cst (.int 2)]],.var 2]))) [
   .ret [] (.cst (.bl false))] [],
  .ret [] (.op .eq false [.op (.att (q "number")) false [.op .ix false [.mv 4,.cst (.int 3)]],.mv 1])] }
noncomputable def prog:List Fn:=[f_law,zf,zf,zf,zf,zf,zf,zf,zf,zf,zf,zf,zf,zf,zf,zf,zf,zf,zf,zf,zf,zf,zf,zf,zf,zf,zf,zf,zf,zf,zf,zf,zf,zf,zf,zf,zf,zf,zf,zf,zf,zf,zf,zf,zf,zf,zf,zf,zf,zf,zf,zf,zf,zf,zf,zf,zf,zf,zf,zf,zf,zf,zf,zf,zf,zf,zf,zf,zf,zf,zf,zf,zf,zf,zf,zf,zf,zf,zf,zf,zf,zf,zf,zf,zf,zf,zf,zf,zf,zf,zf,zf,zf,zf,zf,zf,zf,zf,zf,zf,zf,zf,zf,zf,zf,zf,zf,zf,zf,zf,zf,zf,zf,zf,zf,zf,zf,zf,zf,zf,zf,zf,zf,zf,zf,zf,zf,zf,zf,zf,zf,zf,zf,zf,zf,zf,zf,zf,zf,zf,zf,zf,zf,zf,zf,zf,zf,zf,zf,zf,zf,zf,zf,zf,zf,zf,zf,zf,zf,zf,zf,zf,zf,zf,zf,zf,zf,zf,zf,zf,zf,zf,zf,zf,zf,zf,zf,zf,zf,zf,zf,zf,zf,zf,zf,zf,zf,zf,zf,zf,zf,zf,zf,zf,zf,zf,zf,zf,zf,zf,zf,zf,zf,zf,zf,zf,zf,zf,zf,zf,zf,zf,zf,zf,zf,zf,zf,zf,zf,zf,zf,zf,zf,zf,zf,zf,zf,zf,zf,zf,zf,zf,zf,zf,zf,zf,zf,zf,zf,zf,zf,zf,zf,zf,zf,zf,zf,zf,zf,zf,zf,zf,zf,zf,zf,zf,zf,zf,zf,zf,zf,zf,zf,zf,zf,zf,zf,zf,zf,zf,zf,zf,zf,zf,zf,zf,zf,zf,zf,zf,zf,zf,zf,zf,zf,zf,zf,zf,zf,zf,zf,zf,zf,zf,zf,zf,zf,zf,zf,zf,zf,zf,zf,zf,zf,zf,zf,zf,zf,zf,zf,zf,zf,zf,zf,zf,zf,zf,zf,zf,zf,zf,zf,zf,zf,zf,zf,zf,zf,zf,zf,zf,zf,aN]
end A23

set_option compiler.extract_closed false
namespace P23
noncomputable section
open M A23
open PySem (Str)
local macro_rules
 | `(tactic| simp_all only [$ls,*])=>`(tactic| simp only [pG,pI,qq,pV,pK,rf,qW,kF,mE,kG,kU,lx,mI,mh,lj,mq,mM,mQ,kl,kM,lD,kD,k9,kj,mB,kA,ma,mR,mT,l0,lS,ik,jM,mD,lP,mO,mX,gM,i9,kOp,lB,kOr,jk,kC3,kC2,kC1,eB,cR,cH,b6,cV,bP,fN,aO,kX,kT,kT2,kIf,kn,oG,qU,nG,nV,gy,kNx,kRt,fM,ko,iV,okW,fW,nu,dn,aM,af,ios,putAll,qB,vX,oP,om,rm,lh,kq,kN,qR,q9,nO,qP,oA,nU,oi,uq,uB,uf,rB,tY,sd,mx,kZ,lC,lM,uS,p5,ir,hI,jS,jh,qh,lZ,kz,i5,iw,rX,rK,sY,rG,hE,iH,jF,qu,ro,pY,qI,pZ,rA,pS,qz,mF,kB,lb,ql,j1,jA,j9,uN,jr,pR,nK,pD,qw,qH,qD,oo,qE,vJ,vI,vx,ve,eu,sW,o4,pM,qo,sv,rN,qF,sy,mN,oF,uZ,n4,ju,qO,qZ,oj,qr,il,ka,j3,se,iP,jx,mK,lQ,lp,mm,ot,pe,pd,jy,bM,gp,gX,gh,qp,oY,qy,qJ,o7,p8,p7,nP,sP,iM,jV,pN,qi,at0,at1,at2,at3,at4,List.cons_append,a1a,a0B,a0u,a1J,a0C,List.replicate_zero,reduceIte,if_true,if_false,String.reduceBEq,Bool.not_true,Bool.not_false,Bool.false_eq_true,Bool.and_self,Bool.true_and,a15,l8,kIo,oN,pH,gK,iW,gj,gI,gV,jB,jX,gY,gA,fE,eN,oW,n5,oB,mn,t6,nW,sZ,oZ,tD,ue,qt,hX,i4,qX,gW,gf,qK,fm,iE,iG,tM,oR,fF,fj,eR,eK,eX,vN,pT,p9,k4,kH,hV,kh,gU,gR,rg,mS,uc,r8,s8,vD,sR,ur,rL,rJ,tJ,rP,vS,tF,uD,uF,rF,rU,tP,vC,rC,sX,rO,sH,tS,tf,uo,um,vi,vb,u3,o8,kr,qG,oJ,fx,qd,oE,vR,$ls,*])
noncomputable abbrev C (n:Nat):Call:=callR prog 1000000 1000001 n
theorem dw (n:Nat)(ws:List W):C (n+1) 333 ws=runF (C n) aN ws:=rfl
theorem eG {α:Type}(ts:List α)(j:Nat):cut ts none (some (j:Int))=ts.take j:=by
 show (ts.drop 0).take ((if (j:Int) < 0 then ((j:Int)+ts.length).toNat else min (j:Int).toNat ts.length)-0)=_
 rw [if_neg (by omega),Int.toNat_natCast,Nat.sub_zero,a2v]
 by_cases h:j<=ts.length
 ·rw [Nat.min_eq_left h]
 ·rw [Nat.min_eq_right (by omega),a1e (a0j _),a1e (by omega)]
theorem fP:∀ ws:List Str,strsOf (ws.map T.str)=some ws
 | []=>rfl
 | x::ws=>by show (strsOf (ws.map T.str)).map (x::·)=_; rw [fP ws]; rfl
noncomputable abbrev abc:List Nat:=[97,98,99,120,121,122]
theorem pL:(q "abcxyz").cps.toList=abc:=by rw [q,Str.ofString_eq_toList]; rfl
noncomputable def chF (c:Int):Nat:=(atI abc (c % 6)).getD 0
theorem jL (c:Int):atI abc (c % 6)=some (chF c)/\chF c < 128:=by
 have h:c % 6=0\/c % 6=1\/c % 6=2\/c % 6=3\/c % 6=4\/c % 6=5:=by omega
 unfold chF
 rcases h with h | h | h | h | h | h<;>rw [h]<;>exact ⟨rfl,by decide⟩
noncomputable abbrev em:Str:=q ""
theorem m5:em.cps.toList=[]:=by rw [em,q,Str.ofString_eq_toList]; rfl
theorem fK (x y:Str):(x++y).cps.toList=x.cps.toList++y.cps.toList:=by
 show (x.cps++y.cps).toList=_
 rw [Array.toList_append]
theorem jn:∀ {ws:List Str} {n:Nat},ws.length<=n->(∀ x∈ws,x.cps.toList.length=1/\∀ c∈x.cps.toList,c < 128)->(Str.join em ws).cps.toList.length<=n/\∀ c∈(Str.join em ws).cps.toList,c < 128
 | [],n,_,_=>⟨a0T _,fun c hc=>by cases hc⟩
 | [x],n,l,h=>⟨by have:=(h x a0e).1; show x.cps.toList.length<=n; rw [this]; exact l,(h x a0e).2⟩
 | x::y::r,n,l,h=>by
  have e:(Str.join em (x::y::r)).cps.toList=x.cps.toList++(Str.join em (y::r)).cps.toList:=by
   show (x++em++Str.join em (y::r)).cps.toList=_
   rw [fK,fK,m5,a0B]
  obtain ⟨h1,h2⟩:=jn (ws:=y::r) (n:=n-1) (by rw [a0o] at l; omega) fun z hz=>h z (a0f _ hz)
  obtain ⟨h3,h4⟩:=h x a0e
  rw [e]
  refine ⟨by rw [a0t,h3]; rw [a0o,a0o] at l; omega,fun c hc=>?_⟩
  rcases a0Y.mp hc with hc | hc
  ·exact h4 c hc
  ·exact h2 c hc
theorem sm {ws:List Str}(h:∀ x∈ws,x.cps.toList.length=1):(ws.map fun s=>s.cps.size+em.cps.size).sum=ws.length:=by
 induction ws with
 | nil=>rfl
 | cons x r ih =>
  have h1:=h x a0e
  have h3:em.cps.size=0:=by rw [<- a0H,m5]; rfl
  rw [a0H] at h1
  rw [a0u,a1n,a0o,ih fun y hy=>h y (a0f _ hy),h1,h3]
  omega
theorem cf {ws:List Str}(l:ws.length<=8)(h:∀ x∈ws,x.cps.toList.length=1/\∀ c∈x.cps.toList,c < 128):(sOk (Str.join (q "") ws)&&decide ((ws.map fun s=>s.cps.size+(q "").cps.size).sum<=LIM))=true:=by
 obtain ⟨h1,h2⟩:=jn l h
 have hL:LIM=16777215:=rfl
 have h3:=sm fun x hx=>(h x hx).1
 rw [a0d]
 refine ⟨?_,decide_eq_true (by show (ws.map fun s=>s.cps.size+em.cps.size).sum<=_; omega)⟩
 unfold sOk
 rw [a0d]
 refine ⟨?_,decide_eq_true (by rw [<- a0H]; show (Str.join em ws).cps.toList.length<=_; omega)⟩
 rw [a1c]
 intro c hc
 exact decide_eq_true (a2J (h2 c (by simpa using hc)) (by decide))
noncomputable abbrev Wk (i j:Nat):List S:=(f_law.body.drop i).take j
theorem fO (C:Call):∀ (a b:List S) (η:Env),evSs C (a++b) η=(evSs C a η).seq (evSs C b)
 | [],b,η=>rfl
 | s::a,b,η=>by
  show (evS C s η).seq (evSs C (a++b))=((evS C s η).seq (evSs C a)).seq (evSs C b)
  cases evS C s η<;>first | rfl | exact fO C a b _
theorem go1 {C:Call}{a b:List S}{η η':Env}(h:evSs C a η=.nx η'):evSs C (a++b) η=evSs C b η':=by rw [fO,h]; rfl
noncomputable abbrev r3 (ns:List Int):List T:=(ns.take 12).map fun c=>T.int (c % 3)
theorem iD:∀ l:List Int,eqTs (l.map fun c=>T.int (c % 3)) (l.map fun c=>T.int (c % 3))=true
 | []=>rfl
 | x::l=>by show ((x % 3==x % 3)&&eqTs (l.map fun c=>T.int (c % 3)) (l.map fun c=>T.int (c % 3)))=true; rw [beq_self_eq_true,iD l]; rfl
theorem jc:∀ l:List Int,dps (l.map fun c=>T.int (c % 3))=0
 | []=>rfl
 | x::l=>by show max 0 (dps (l.map fun c=>T.int (c % 3)))=0; rw [jc l]; rfl
theorem g9:∀ l:List Int,rOks (l.map fun c=>T.int (c % 3))=true
 | []=>rfl
 | x::l=>by
  show (decide ((x % 3).natAbs < 10000000000000000000)&&rOks (l.map fun c=>T.int (c % 3)))=true
  rw [g9 l,a15]
  exact decide_eq_true (by omega)
theorem j8:∀ l:List Int,szRs (l.map fun c=>T.int (c % 3))=102 * l.length
 | []=>rfl
 | x::l=>by show 100+2+szRs (l.map fun c=>T.int (c % 3))=_; rw [j8 l,a0o]; omega
theorem vF (ns:List Int):fldOk 1 .s (.tup (r3 ns))=true:=by
 show (decide (dps (r3 ns)+1<=64)&&rOks (r3 ns)&&decide (szRs (r3 ns)+4<=1000000))=true
 have:(ns.take 12).length<=12:=by rw [a0U]; omega
 rw [jc,g9,j8,a15]
 rw [a0d]
 exact ⟨by decide,decide_eq_true (by omega)⟩
theorem uy (n:Int)(h:n.natAbs<=10 ^ 50):fldOk 0 .d (.int n)=true:=by
 show decide (n.natAbs.log2 < 1920)=true
 refine decide_eq_true ?_
 by_cases h0:n.natAbs=0
 ·rw [h0]; decide
 ·exact (Nat.log2_lt h0).mpr (a0X h (by decide +kernel))
noncomputable abbrev so (c:Nat):List T:=[.bl ([av].contains c),.bl ([au].contains c),.bl ([ao].contains c),.bl ([ak].contains c),.bl ([aB].contains c),.bl ([aC].contains c)]
theorem uv (n:Nat)(c:Nat)(f:Str)(t:T):C (n+1) 333 [(.s,.ins c [f] [t])]=.ok ((.o .s,.lst (so c)),[]):=by
 rw [dw,x_run _ _ _ rfl]
 simp_all only [aN]
 rfl
noncomputable abbrev LB:List S:=match f_law.body with
 | [_,_,_,_,.forS _ _ _ _ _ b,_,_]=>b
 | _=>[]
noncomputable abbrev md (f0 f1 f2 f3 f4 f5:Str)(t0 t1 t2 t3 t4 t5:T):List T:=[.ins av [f0] [t0],.ins au [f1] [t1],.ins ao [f2] [t2],.ins ak [f3] [t3],.ins aB [f4] [t4],.ins aC [f5] [t5]]
noncomputable abbrev al:List Nat:=[av,au,ao,ak,aB,aC,ag]
noncomputable abbrev eqs (k:Int):List T:=(a0D 6).map fun j:Nat=>T.bl ((j:Int)==k)
theorem tO (k:Nat)(hk:k < 6)(f0 f1 f2 f3 f4 f5:Str)(t0 t1 t2 t3 t4 t5:T):∃ c f t,atI (md f0 f1 f2 f3 f4 f5 t0 t1 t2 t3 t4 t5) (k:Int)=some (.ins c [f] [t])/\al.contains c=true/\∀ h m n,oSem .ne h [(m,.lst (so c)),(n,.lst (eqs k))]=some (.d,.bl false):=by
 have h:k=0\/k=1\/k=2\/k=3\/k=4\/k=5:=by omega
 rcases h with rfl | rfl | rfl | rfl | rfl | rfl
 ·exact ⟨_,_,_,at0 _ _,rfl,fun _ _ _=>rfl⟩
 ·exact ⟨_,_,_,at1 _ _ _,rfl,fun _ _ _=>rfl⟩
 ·exact ⟨_,_,_,at2 _ _ _ _,rfl,fun _ _ _=>rfl⟩
 ·exact ⟨_,_,_,at3 _ _ _ _ _,rfl,fun _ _ _=>rfl⟩
 ·exact ⟨_,_,_,at4 _ _ _ _ _ _,rfl,fun _ _ _=>rfl⟩
 ·exact ⟨_,_,_,atN (n:=5) rfl rfl,rfl,fun _ _ _=>rfl⟩
theorem turn (k:Nat)(hk:k < 6)(w0 w1 w2 w3:Option W)(f0 f1 f2 f3 f4 f5:Str)(t0 t1 t2 t3 t4 t5:T):evSs (C 39) LB [w0,w1,w2,w3,some (.o .s,.lst (md f0 f1 f2 f3 f4 f5 t0 t1 t2 t3 t4 t5)),some (.d,.int k),none,none,none]=.nx [w0,w1,w2,w3,some (.o .s,.lst (md f0 f1 f2 f3 f4 f5 t0 t1 t2 t3 t4 t5)),some (.d,.int k),none,none,none]:=by
 obtain ⟨c,f,t,h1,h2,h3⟩:=tO k hk f0 f1 f2 f3 f4 f5 t0 t1 t2 t3 t4 t5
 generalize md f0 f1 f2 f3 f4 f5 t0 t1 t2 t3 t4 t5=L at h1
 have cw:C 39 333 [(.s,.ins c [f] [t])]=.ok ((.o .s,.lst (so c)),[]):=uv 38 c f t
 have cp:∀ w4,aH [8] (b6 (evE (C 39) (.op .eq false [.var 8,.var 5]))) ((a0D 6).map fun j:Nat=>[((.d,.int (j:Int)):W)]) [none,none,none,none,w4,some (.d,.int k),none,none,none] []=.ok ([]++(a0D 6).map (fun j:Nat=>((.d,.bl ((j:Int)==(k:Int))):W)),[none,none,none,none,w4,some (.d,.int k),none,none,none]):=fun w4 =>
  bx _ _ [] fun j hj=>⟨_,[none,none,none,none,w4,some (.d,.int k),none,none,some (.d,.int j)],rfl,by simp_all only [],rfl⟩
 have tr:aM ((a0D 6).map (fun j:Nat=>((.d,.bl ((j:Int)==(k:Int))):W)))=eqs k:=bW .d _ _
 have r6:(decide ((6:Int).natAbs < 4611686018427387904)&&aZ 6)=true:=rfl
 have r7:(6:Int).toNat=6:=rfl
 have h2':[av,au,ao,ak,aB,aC,ag].contains c=true:=h2
 simp_all only [LB,f_law,h1,cw,r6,r7,cp,a1a,tr,h3,h2']
theorem tQ:(10:Int) ^ (50:Int).toNat=100000000000000000000000000000000000000000000000000:=by decide +kernel
theorem number (ns:List Int):∃ n:Int,n.natAbs<=10 ^ 50/\evSs (C 39) (Wk 0 1) [some (.d,.scr ns),none,none,none,none,none,none,none,none]=.nx [some (.d,.scr ns),some (.d,.int n),none,none,none,none,none,none,none]:=by
 have pw:∀ h m k,oSem .pow h [(m,.int 10),(k,.int 50)]=some (.d,.int 100000000000000000000000000000000000000000000000000):=fun h m k=>by rw [<- tQ]; rfl
 have b2:(decide ((2:Int).natAbs < 18446744073709551616) || decide ((100000000000000000000000000000000000000000000000000:Int).natAbs < 18446744073709551616))=true:=by decide +kernel
 have b3:decide ((0:Int) < 2 * 100000000000000000000000000000000000000000000000000)=true:=by decide +kernel
 cases ns with
 | nil =>
  refine ⟨0,by decide,?_⟩
  have h0:decide ((0:Int) < (([]:List Int).length:Int))=false:=rfl
  simp_all only [Wk,f_law,a1M,a1N,h0]
 | cons c r =>
  have h0:decide ((0:Int) < ((c::r).length:Int))=true:=decide_eq_true (by rw [a0o]; omega)
  refine ⟨c % (2 * 100000000000000000000000000000000000000000000000000)-100000000000000000000000000000000000000000000000000,by omega,?_⟩
  simp_all only [Wk,f_law,a1M,a1N,h0,at0,pw,b2,b3]
theorem place (ns:List Int)(n:Int):evSs (C 39) (Wk 1 1) [some (.d,.scr ns),some (.d,.int n),none,none,none,none,none,none,none]=.nx [some (.s,.scr ns),some (.d,.int n),some (.o .s,.tup (r3 ns)),none,none,none,none,none,none]:=by
 have cp:aH [6] (b6 (evE (C 39) (.op .mod false [.var 6,.cst (.int 3)]))) ((ns.take 12).map ((fun t=>[((.s,t):W)]) ∘ T.int)) [some (.s,.scr ns),none,none,none,none,none,none,none,none] []=.ok ([]++(ns.take 12).map (fun c=>((.d,.int (c % 3)):W)),[some (.s,.scr ns),none,none,none,none,none,none,none,none]) :=
  bx _ _ [] fun c hc=>⟨_,[some (.s,.scr ns),none,none,none,none,none,some (.s,.int c),none,none],rfl,by simp_all only [show decide ((0:Int) < 3)=true from rfl],rfl⟩
 have tr:aM ((ns.take 12).map (fun c=>((.d,.int (c % 3)):W)))=r3 ns:=bW .d _ _
 simp_all only [Wk,f_law,a1M,a1N,show (12:Int)=((12:Nat):Int) from rfl,eG,a2d,cp,a1a,tr]
theorem pJ (c:Int)(h:Bool)(m k:Md):oSem .ix h [(m,.str (q "abcxyz")),(k,.int (c % 6))]=some (.d,.str ⟨#[chF c]⟩):=by
 show (atI (q "abcxyz").cps.toList (c % 6)).map (fun a=>((.d,.str ⟨#[a]⟩):W))=_
 rw [pL,(jL c).1]; rfl
theorem text (ns:List Int)(n:Int)(w2:Option W):∃ x:Str,evSs (C 39) (Wk 2 1) [some (.s,.scr ns),some (.d,.int n),w2,none,none,none,none,none,none]=.nx [some (.s,.scr ns),some (.d,.int n),w2,some (.d,.str x),none,none,none,none,none]:=by
 have cp:aH [7] (b6 (evE (C 39) (.op .ix false [.cst (.str (q "abcxyz")),.op .mod false [.var 7,.cst (.int 6)]]))) ((ns.take 8).map ((fun t=>[((.s,t):W)]) ∘ T.int)) [some (.s,.scr ns),none,none,none,none,none,none,none,none] []=.ok ([]++(ns.take 8).map (fun c=>((.d,.str ⟨#[chF c]⟩):W)),[some (.s,.scr ns),none,none,none,none,none,none,none,none]) :=
  bx _ _ [] fun c hc=>⟨_,[some (.s,.scr ns),none,none,none,none,none,none,some (.s,.int c),none],rfl,by simp_all only [show decide ((0:Int) < 6)=true from rfl,pJ c],rfl⟩
 have tr:aM ((ns.take 8).map (fun c=>((.d,.str ⟨#[chF c]⟩):W)))=((ns.take 8).map fun c=>(⟨#[chF c]⟩:Str)).map T.str:=by rw [bW .d,a2d]; rfl
 have st:=fP ((ns.take 8).map fun c=>(⟨#[chF c]⟩:Str))
 have jo:=cf (ws:=(ns.take 8).map fun c=>(⟨#[chF c]⟩:Str)) (by rw [a0g,a0U]; omega) (fun x hx=>by
  obtain ⟨c,_,rfl⟩:=a2b.mp hx
  refine ⟨rfl,fun d hd=>?_⟩
  rw [a0L.mp hd]
  exact (jL c).2)
 refine ⟨Str.join (q "") ((ns.take 8).map fun c=>(⟨#[chF c]⟩:Str)),?_⟩
 simp_all only [Wk,f_law,a1M,a1N,show (8:Int)=((8:Nat):Int) from rfl,eG,a2d,cp,a1a]
 rw [tr,st]
 simp_all only [jo]
noncomputable abbrev mdx (ns:List Int)(n:Int)(x:Str):List T:=md (q "at") (q "place") (q "place") (q "number") (q "text") (q "text") (.int n.natAbs) (.tup (r3 ns)) (.tup (r3 ns)) (.int n) (.str x) (.str x)
theorem made (ns:List Int)(n:Int)(x:Str)(h:n.natAbs<=10 ^ 50):evSs (C 39) (Wk 3 1) [some (.s,.scr ns),some (.d,.int n),some (.o .s,.tup (r3 ns)),some (.d,.str x),none,none,none,none,none]=.nx [some (.s,.scr ns),some (.d,.int n),some (.s,.tup (r3 ns)),some (.s,.str x),some (.o .s,.lst (mdx ns n x)),none,none,none,none]:=by
 have a1:=uy (n.natAbs:Int) (by rw [Int.natAbs_natCast]; exact h)
 have a2:=uy n h
 have a3:=vF ns
 have a4:∀ m,fldOk 2 m (.str x)=true:=fun m=>by cases m<;>rfl
 simp_all only [Wk,f_law,a1M,a1N,a1,a2,a3,a4]
theorem pure_law (ns:List Int):∃ m bs,C 40 0 [(.d,.scr ns)]=.ok ((m,.bl true),bs):=by
 rw [show C 40 0 [(.d,.scr ns)]=runF (C 39) f_law [(.d,.scr ns)] from rfl,x_run _ _ _ rfl]
 obtain ⟨n,hn,H1⟩:=number ns
 have H2:=place ns n
 obtain ⟨x,H3⟩:=text ns n (some (.o .s,.tup (r3 ns)))
 have H4:=made ns n x hn
 have H5:evSs (C 39) (Wk 4 1) [some (.s,.scr ns),some (.d,.int n),some (.s,.tup (r3 ns)),some (.s,.str x),some (.o .s,.lst (mdx ns n x)),none,none,none,none]=.nx [some (.s,.scr ns),some (.d,.int n),some (.s,.tup (r3 ns)),some (.s,.str x),some (.o .s,.lst (mdx ns n x)),some (.d,.int 5),none,none,none]:=by
  have t:=fun k hk=>turn k hk (some (.s,.scr ns)) (some (.d,.int n)) (some (.s,.tup (r3 ns))) (some (.s,.str x)) (q "at") (q "place") (q "place") (q "number") (q "text") (q "text") (.int n.natAbs) (.tup (r3 ns)) (.tup (r3 ns)) (.int n) (.str x) (.str x)
  have fl:∀ o,eH [5] (evSs (C 39) LB) ((a0D 6).map fun j:Nat=>[((.d,.int (j:Int)):W)]) [some (.s,.scr ns),some (.d,.int n),some (.s,.tup (r3 ns)),some (.s,.str x),some (.o .s,.lst (mdx ns n x)),o,none,none,none]=.nx [some (.s,.scr ns),some (.d,.int n),some (.s,.tup (r3 ns)),some (.s,.str x),some (.o .s,.lst (mdx ns n x)),some (.d,.int 5),none,none,none]:=fun o=>by
   have key:=fH (tg:=[5]) (f:=evSs (C 39) LB) (g:=fun j:Nat=>[((.d,.int (j:Int)):W)]) (fun p=>[some (.s,.scr ns),some (.d,.int n),some (.s,.tup (r3 ns)),some (.s,.str x),some (.o .s,.lst (mdx ns n x)),(p.getLast?.map fun j:Nat=>((.d,.int (j:Int)):W)).or o,none,none,none]) (a0D 6) [] (fun p j r e=>⟨_,rfl,by
    have hj:j < 6:=a2t.mp (by rw [show a0D 6=p++j::r from e]; simp)
    rw [List.getLast?_append]
    exact t j hj⟩)
   exact key
  have r6:(decide ((6:Int).natAbs < 4611686018427387904)&&aZ 6)=true:=rfl
  have r7:(6:Int).toNat=6:=rfl
  show evSs (C 39) [.forS [] [] .rng [.cst (.int 6)] [5] LB] _=_
  simp_all only [r6,r7,fl]
 rw [show f_law.body=Wk 0 1++(Wk 1 1++(Wk 2 1++(Wk 3 1++(Wk 4 1++Wk 5 2)))) from rfl]
 rw [show (List.map some [((.d,.scr ns):W)]++a0b f_law.ns none)=[some (.d,.scr ns),none,none,none,none,none,none,none,none] from rfl,go1 H1,go1 H2,go1 H3,go1 H4,go1 H5]
 have a3:∀ h m,oSem (.att (q "number")) h [(m,.ins ak [q "number"] [.int n])]=some (.d,.int n):=fun _ _=>by rw [ju,if_pos (beq_self_eq_true _)]
 have a0:∀ h m,oSem (.att (q "at")) h [(m,.ins av [q "at"] [.int n.natAbs])]=some (.d,.int n.natAbs):=fun _ _=>by rw [ju,if_pos (beq_self_eq_true _)]
 have a1:∀ h m,oSem (.att (q "place")) h [(m,.ins au [q "place"] [.tup (r3 ns)])]=some (.s,.tup (r3 ns)):=fun _ _=>by rw [fx,if_pos (beq_self_eq_true _)]
 have a2:∀ h m,oSem (.att (q "place")) h [(m,.ins ao [q "place"] [.tup (r3 ns)])]=some (.s,.tup (r3 ns)):=fun _ _=>by rw [fx,if_pos (beq_self_eq_true _)]
 have dr:decide (dp (.tup (r3 ns))<=64)=true:=decide_eq_true (by show dps (r3 ns)+1<=64; rw [jc]; decide)
 have n1:∀ h m k,oSem .ne h [(m,.tup (r3 ns)),(k,.tup (r3 ns))]=some (.d,.bl false):=fun h m k=>by
  show (if decide (dp (.tup (r3 ns))<=64)&&decide (dp (.tup (r3 ns))<=64) then some (Md.d,T.bl (!eqTs (r3 ns) (r3 ns))) else none)=_
  rw [dr,iD]; rfl
 have i0:∀ m k h,oSem .ix h [(m,.lst (mdx ns n x)),(k,.int 0)]=some (m.kid,.ins av [q "at"] [.int n.natAbs]):=fun m k h=>by rw [eu,at0]; rfl
 have i1:∀ m k h,oSem .ix h [(m,.lst (mdx ns n x)),(k,.int 1)]=some (m.kid,.ins au [q "place"] [.tup (r3 ns)]):=fun m k h=>by rw [eu,at1]; rfl
 have i2:∀ m k h,oSem .ix h [(m,.lst (mdx ns n x)),(k,.int 2)]=some (m.kid,.ins ao [q "place"] [.tup (r3 ns)]):=fun m k h=>by rw [eu,at2]; rfl
 have i3:∀ m k h,oSem .ix h [(m,.lst (mdx ns n x)),(k,.int 3)]=some (m.kid,.ins ak [q "number"] [.int n]):=fun m k h=>by rw [eu,at3]; rfl
 generalize hM:T.lst (mdx ns n x)=MM at i0 i1 i2 i3
 refine ⟨.d,[],?_⟩
 generalize r3 ns=R at a1 a2 n1 i1 i2
 simp_all only [Wk,f_law,a1M,a1N,i0,i1,i2,i3,a0,a1,a2,a3,n1,beq_self_eq_true]
end
end P23

namespace A23
open PySem PySem.Spec PyProof.Rows L2 L3 MR
noncomputable def top (i:Nat):Stmt:=PySem.Challenge.pw_broadrow_k23_refusals_apart.main.body.getD i (.Pass ⟨0,0,0,0⟩)
noncomputable abbrev jY:Stmt:=top 9
noncomputable abbrev s0:Stmt:=top 10
structure Glb (K:a0a)(w:World)(mg:Str->Option Value):Prop where
 mk ::
structure Xs (P:Program)(w:World)(K:a0a)(mg:Str->Option Value)(base:Heap):Prop where
 f_at:∀ c:Nat,XF K c->a0l K (.ref c) "at"=some none
 f_number:∀ c:Nat,XF K c->a0l K (.ref c) "number"=some none
 f_place:∀ c:Nat,XF K c->a0l K (.ref c) "place"=some none
 i_BroadError:XIs K mg "BroadError" (.ref ag) [av,au,ao,ak,aB,aC,ag]
 i_NoKind:XIs K mg "NoKind" (.ref au) [au]
 i_NoLine:XIs K mg "NoLine" (.ref aC) [aC]
 i_NoPlace:XIs K mg "NoPlace" (.ref ao) [ao]
 i_NoRule:XIs K mg "NoRule" (.ref aB) [aB]
 i_NoText:XIs K mg "NoText" (.ref av) [av]
 i_NoThing:XIs K mg "NoThing" (.ref ak) [ak]
 i_ValueError:XIs K mg "ValueError" (.type "ValueError") [av,au,ao,ak,aB,aC,ag]
 m_ValueError:mg "ValueError"=none
 r_NoKind:XCl P w K mg base "NoKind" au ag "place" 1
 r_NoLine:XCl P w K mg base "NoLine" aC ag "text" 2
 r_NoPlace:XCl P w K mg base "NoPlace" ao ag "place" 1
 r_NoRule:XCl P w K mg base "NoRule" aB ag "text" 2
 r_NoText:XCl P w K mg base "NoText" av ag "at" 0
 r_NoThing:XCl P w K mg base "NoThing" ak ag "number" 0
structure Calls (P:Program)(w:World)(K:a0a)(mg:Str->Option Value)(base:Heap)(n:Nat)(C:M.Call):Prop where
 c333:bD P w K mg base n C "_law_sorts" 333 []
noncomputable abbrev DD (x:Str)(st:Stmt)(N:List Str)(fn:M.Fn):Prop:=∀ {P:Program} {w:World} {K:a0a} {mg:Str->Option Value} {base:Heap} {n:Nat} {C:M.Call} {f:Addr} {cdv:Value} {A:Around} {outer:List Env} {s:Shared} {H:Hp} {E:XK},Xs P w K mg base->Calls P w K mg base (n+2) C->Txt mg->Glb K w mg->Room (n+2) (A.deeper (envOfC x (defScope st) s.heap.objs.size f cdv))->SSs (dF CX0 P w K mg base N x (defScope st) f cdv A outer s H E).nox (slN N.length) fn.io C (defBody st) fn.body
theorem tZ:aD ["one","found"] ["one"] (defScope jY):=fsc
theorem vc:DD "_law_sorts" jY ["one","found"] aN:=fun {_ _ _ _ _ _ _ _ _ _ _ s _ _} xs cs T G hr =>
 have S:=tZ
 (@ssc _ _ _ _ _ _ _ _ (@j7 _ _ _ _ _ _ _ 1 _ _ _ _ S.nd (@sLx _ _ _ _ _ _ _ (by decide) (@slx _ _ _ _ _ _ _ (cJ xs.i_NoText T.isin (sV 0)) (@slx _ _ _ _ _ _ _ (cJ xs.i_NoKind T.isin (sV 0)) (@slx _ _ _ _ _ _ _ (cJ xs.i_NoPlace T.isin (sV 0)) (@slx _ _ _ _ _ _ _ (cJ xs.i_NoThing T.isin (sV 0)) sl0 (by rfl)) (by rfl)) (by rfl)) (by rfl))) (by decide) (by rfl) (by rfl) (by first | exact a1r rfl | exact a1j rfl) (by rfl) (by first | exact .inl rfl | exact .inr rfl))
    (@ss1 _ _ _ _ _ _ (@hW _ _ _ _ _ _ _ _ (vB (sM 1) (@sLx _ _ _ _ _ _ _ (by decide) (@slx _ _ _ _ _ _ _ (cJ xs.i_NoRule T.isin (sV 0)) (@slx _ _ _ _ _ _ _ (cJ xs.i_NoLine T.isin (sV 0)) sl0 (by rfl)) (by rfl)))))))
theorem S0:aD ["script","number","place","text","made","k"] ["script"] (defScope s0):=fsc
theorem D0:DD "law" s0 ["script","number","place","text","made","k"] f_law:=fun {_ _ _ _ _ _ _ _ _ _ _ s _ _} xs cs T G hr =>
 have S:=S0
 (@ssc _ _ _ _ _ _ _ _ (@j7 _ _ _ _ _ _ _ 1 _ _ _ _ S.nd (sIf (vT (vP (hm:=T.len) (ha:=(sV 0))) sI) (vU (q8 (@dQ _ _ _ _ _ _ _ _ _ (sV 0) sI (by intro _ _; rfl)) (vK sI (sD sI sI))) (sD sI sI)) sI) (by decide) (by rfl) (by rfl) (by first | exact a1r rfl | exact a1j rfl) (by rfl) (by first | exact .inl rfl | exact .inr rfl))
    (@ssc _ _ _ _ _ _ _ _ (@j7 _ _ _ _ _ _ _ 2 _ _ _ _ S.nd (qb (hm:=T.tup) (ha:=(sC1 [] [] [] [] (uV (uM (sV 0) sI)) (fun _ _ _ _=>(q8 (sV 0) sI)) csc .nil .nil))) (by decide) (by rfl) (by rfl) (by first | exact a1r rfl | exact a1j rfl) (by rfl) (by first | exact .inl rfl | exact .inr rfl))
    (@ssc _ _ _ _ _ _ _ _ (@j7 _ _ _ _ _ _ _ 3 _ _ _ _ S.nd (uk sS (sC1 [] [] [] [] (uV (uM (sV 0) sI)) (fun _ _ _ _=>(@dQ _ _ _ _ _ _ _ _ _ sS (q8 (sV 0) sI) (by intro _ _; rfl))) csc .nil .nil)) (by decide) (by rfl) (by rfl) (by first | exact a1r rfl | exact a1j rfl) (by rfl) (by first | exact .inl rfl | exact .inr rfl))
    (@ssc _ _ _ _ _ _ _ _ (@j7 _ _ _ _ _ _ _ 4 _ _ _ _ S.nd (@sLx _ _ _ _ _ _ _ (by decide) (@slx _ _ _ _ _ _ _ (sMk xs.r_NoText hr (ub (hm:=T.abs) (ha:=(sV 1)))) (@slx _ _ _ _ _ _ _ (sMk xs.r_NoKind hr (sV 2)) (@slx _ _ _ _ _ _ _ (sMk xs.r_NoPlace hr (sV 2)) (@slx _ _ _ _ _ _ _ (sMk xs.r_NoThing hr (sV 1)) (@slx _ _ _ _ _ _ _ (sMk xs.r_NoRule hr (sV 3)) (@slx _ _ _ _ _ _ _ (sMk xs.r_NoLine hr (sV 3)) sl0 (by rfl)) (by rfl)) (by rfl)) (by rfl)) (by rfl)) (by rfl))) (by decide) (by rfl) (by rfl) (by first | exact a1r rfl | exact a1j rfl) (by rfl) (by first | exact .inl rfl | exact .inr rfl))
    (@ssc _ _ _ _ _ _ _ _ (tG 5 S.nd (sA (hm:=T.range) (ha:=sI)) (@ssc _ _ _ _ _ _ _ _ (@zIf _ _ _ _ _ _ _ _ _ _ _ _ (mi hr (t9 cs.c333 hr (@vY _ _ _ _ _ _ _ (@dQ _ _ _ _ _ _ _ _ _ (sV 4) (sV 5) (by intro _ _; rfl)) sa0 (by intro _ z; cases z) (by rfl))) (sC1 [5] [5] [("k",s.heap.objs.size+1)] ["k"] (sA (hm:=T.range) (ha:=sI)) (fun _ _ _ _=>(sEq hr (sV 0) (sV 1))) csc (vr .nil) (frc .nil))) (@ss1 _ _ _ _ _ _ (@hW _ _ _ _ _ _ _ _ sO)) ss0)
     (@ss1 _ _ _ _ _ _ (@zIf _ _ _ _ _ _ _ _ _ _ _ _ (tW (wOr (m6 (tB (cJ xs.i_BroadError T.isin (@dQ _ _ _ _ _ _ _ _ _ (sV 4) (sV 5) (by intro _ _; rfl))))) (wO1 (m6 (tB (sN xs.i_ValueError T.isin (@dQ _ _ _ _ _ _ _ _ _ (sV 4) (sV 5) (by intro _ _; rfl)) xs.m_ValueError)))))) (@ss1 _ _ _ _ _ _ (@hW _ _ _ _ _ _ _ _ sO)) ss0))))
    (@ssc _ _ _ _ _ _ _ _ (@zIf _ _ _ _ _ _ _ _ _ _ _ _ (tW (wOr (mi hr (mf (@dQ _ _ _ _ _ _ _ _ _ (sV 4) sI (by intro _ _; rfl)) xs.f_at) (ub (hm:=T.abs) (ha:=(sV 1)))) (wOr (mi hr (mf (@dQ _ _ _ _ _ _ _ _ _ (sV 4) sI (by intro _ _; rfl)) xs.f_place) (sV 2)) (wO1 (mi hr (mf (@dQ _ _ _ _ _ _ _ _ _ (sV 4) sI (by intro _ _; rfl)) xs.f_place) (sV 2)))))) (@ss1 _ _ _ _ _ _ (@hW _ _ _ _ _ _ _ _ sO)) ss0)
    (@ss1 _ _ _ _ _ _ (@hW _ _ _ _ _ _ _ _ (sEq hr (mf (@dQ _ _ _ _ _ _ _ _ _ (sM 4) sI (by intro _ _; rfl)) xs.f_number) (sM 1))))))))))
end A23

namespace A23
open PySem PySem.Spec PyProof.Rows L2 L3 MR
noncomputable abbrev Cl (n:Nat):M.Call:=M.callR prog 1000000 1000001 n
section
variable {P:Program}{w:World}{K:a0a}{mg:Str->Option Value}{base:Heap}
theorem all (d333:Df K mg "_law_sorts" jY ["one"])  (T:Txt mg)(G:Glb K w mg)(xs:Xs P w K mg base):∀ n,Calls P w K mg base (n+2) (Cl n)
 | 0 =>
  have c333:bD P w K mg base (0+2) (Cl 0) "_law_sorts" 333 []:=d333.z
  ⟨c333⟩
 | n+1 =>
  have c:=all d333  T G xs n
  have c333:bD P w K mg base ((n+1)+2) (Cl (n+1)) "_law_sorts" 333 []:=d333.s aN tZ (C:=Cl n) (by intro f cdv A outer s H E h; exact @vc P w K mg base n (Cl n) f cdv A outer s H E xs c T G h)
  ⟨c333⟩
end
theorem pure_law:∀ ns:List Int,ns.length<=63->∃ m bs,Cl 40 0 [(.d,.scr ns)]=.ok ((m,.bl true),bs):=fun ns _=>P23.pure_law ns
theorem all_mk {l:a1K}{w:World}{K:a0a}{h:Heap}{mg:Str->Option Value}{fa:Addr}(X:K.In h)(G:h.Ns mainGlobals mg)(hfa:mg "law"=some (.ref fa))(r333:Raw K "_law_sorts" jY .none)(r0:Raw K "law" s0 .none)   (tx:nZ K ["isinstance","int","tuple","list","bool","sum","len","all","zip","range","enumerate","any","max","min","sorted","str","repr","abs","dict","set","reversed"])(xs:∀ base,Xs l.prog w K mg base) :
  ∃ fd:FuncData,(∀ (s:Shared) (v:Value),BindsTo s fd ⟨[v],[]⟩ [("script",v)])/\∀ base:Heap,K.In base->base.Ns mainGlobals mg->aS l.prog w K mg base CX0 42 fa fd ["script"] (spS K (Cl 40) 0 []):=by
 have d333:Df K mg "_law_sorts" jY ["one"]:=tU X G r333 fun _ _ _ _ _ _ us hl=>match us,hl with | [_],_=>rfl
 have T:=pQ X G tx
 have Gm:Glb K w mg:=⟨⟩
 exact mw X G hfa r0 (fun _ _ _ _ _ _ _ _=>.of_eq rfl) fun f fd F base=>Fun.okM F S0 rfl (by decide) (by decide) (by decide) (fun _ _ _ _ _ _ h=>D0 (xs base) (all d333  T Gm (xs base) 39) T Gm h) fun _=>rfl
end A23

namespace I23
open PySem PySem.Spec PyProof.Rows L2 L3 MR
noncomputable def top (i:Nat):Stmt:=PySem.Challenge.pw_broadrow_k23_refusals_apart.main.body.getD i (.Pass ⟨0,0,0,0⟩)
noncomputable def pU:Stmt->List Stmt
 | .ClassDef _ _ _ b _ _ _ _ _ _ _=>b
 | _=>[]
noncomputable def ini (i:Nat):Stmt:=(pU (top i)).getD 0 (.Pass ⟨0,0,0,0⟩)
noncomputable abbrev s_NoKind:Stmt:=ini 3
theorem jv:aD ["self","place"] ["self","place"] (defScope s_NoKind):=fsc
theorem ok_NoKind {P:Program}{w:World}{K:a0a}{mg:Str->Option Value}{base:Heap}{f:Addr}{fd:FuncData}{B C fI:Addr}{up:List Value}{k:Nat}(F:L2.Fun K "__init__" "NoKind.__init__" s_NoKind f fd)(hm:mg "BroadError"=some (.ref B))(b:XB K B)(c:XC K C fI up)(tk:a0K K C "place"=some none) :
  aS P w K mg base CX0 (k+1) f fd ["self","place"] (spI K C "place" 1):=by
 have len:∀ vs H Q E,spI K C "place" 1 vs H Q E->vs.length=["self","place"].length:=fun vs H Q E ⟨a,n,e,_⟩=>by rw [e]; rfl
 refine F.ok jv len fun cdv A outer s H vs Q E hr h=>⟨_,aR (bz (a9 (B:=B) b rfl hm (ax (aq (i:=0) rfl (.inl rfl)) (ax (fQ (by decide) hr.gu (a0X (a1Q (a2k _ _) _) hr.un) (aq (i:=1) rfl (.inl rfl))) aY))) rfl) (bc (bA (aq (i:=0) rfl (.inl rfl)) (aq (i:=1) rfl (.inl rfl)) rfl)),?_⟩
 obtain ⟨a,y,rfl,⟨t,q1,q2,q3,q4,q5⟩,ha,q⟩:=h
 exact ⟨.ref a,rfl,y,rfl,t,q1,q2,q3,q4,q5,fun z=>⟨a,C,none,true,[.str z],fI,up,rfl,(by show 1<=sizeLine; rw [sizeLine_eq]; omega),ha,c,y,rfl,.ref a,rfl,a,C,true,fI,up,rfl,ha,c,tk,q⟩⟩
noncomputable abbrev s_NoLine:Stmt:=ini 7
theorem iI:aD ["self","text"] ["self","text"] (defScope s_NoLine):=fsc
theorem ok_NoLine {P:Program}{w:World}{K:a0a}{mg:Str->Option Value}{base:Heap}{f:Addr}{fd:FuncData}{B C fI:Addr}{up:List Value}{k:Nat}(F:L2.Fun K "__init__" "NoLine.__init__" s_NoLine f fd)(hm:mg "BroadError"=some (.ref B))(b:XB K B)(c:XC K C fI up)(tk:a0K K C "text"=some none) :
  aS P w K mg base CX0 (k+1) f fd ["self","text"] (spI K C "text" 2):=by
 have len:∀ vs H Q E,spI K C "text" 2 vs H Q E->vs.length=["self","text"].length:=fun vs H Q E ⟨a,n,e,_⟩=>by rw [e]; rfl
 refine F.ok iI len fun cdv A outer s H vs Q E hr h=>⟨_,aR (bz (a9 (B:=B) b rfl hm (ax (aq (i:=0) rfl (.inl rfl)) (ax (aq (i:=1) rfl (.inl rfl)) aY))) rfl) (bc (bA (aq (i:=0) rfl (.inl rfl)) (aq (i:=1) rfl (.inl rfl)) rfl)),?_⟩
 obtain ⟨a,y,rfl,⟨z,rfl⟩,ha,q⟩:=h
 exact ⟨.ref a,rfl,.str z,rfl,a,C,none,true,[.str z],fI,up,rfl,(by show 1<=sizeLine; rw [sizeLine_eq]; omega),ha,c,.str z,rfl,.ref a,rfl,a,C,true,fI,up,rfl,ha,c,tk,q⟩
noncomputable abbrev s_NoPlace:Stmt:=ini 4
theorem g8:aD ["self","place"] ["self","place"] (defScope s_NoPlace):=fsc
theorem ok_NoPlace {P:Program}{w:World}{K:a0a}{mg:Str->Option Value}{base:Heap}{f:Addr}{fd:FuncData}{B C fI:Addr}{up:List Value}{k:Nat}(F:L2.Fun K "__init__" "NoPlace.__init__" s_NoPlace f fd)(hm:mg "BroadError"=some (.ref B))(b:XB K B)(c:XC K C fI up)(tk:a0K K C "place"=some none) :
  aS P w K mg base CX0 (k+1) f fd ["self","place"] (spI K C "place" 1):=by
 have len:∀ vs H Q E,spI K C "place" 1 vs H Q E->vs.length=["self","place"].length:=fun vs H Q E ⟨a,n,e,_⟩=>by rw [e]; rfl
 refine F.ok g8 len fun cdv A outer s H vs Q E hr h=>⟨_,aR (bz (a9 (B:=B) b rfl hm (ax (aq (i:=0) rfl (.inl rfl)) (ax (fQ (by decide) hr.gu (a0X (a1Q (a2k _ _) _) hr.un) (aq (i:=1) rfl (.inl rfl))) aY))) rfl) (bc (bA (aq (i:=0) rfl (.inl rfl)) (aq (i:=1) rfl (.inl rfl)) rfl)),?_⟩
 obtain ⟨a,y,rfl,⟨t,q1,q2,q3,q4,q5⟩,ha,q⟩:=h
 exact ⟨.ref a,rfl,y,rfl,t,q1,q2,q3,q4,q5,fun z=>⟨a,C,none,true,[.str z],fI,up,rfl,(by show 1<=sizeLine; rw [sizeLine_eq]; omega),ha,c,y,rfl,.ref a,rfl,a,C,true,fI,up,rfl,ha,c,tk,q⟩⟩
noncomputable abbrev s_NoRule:Stmt:=ini 6
theorem jd:aD ["self","text"] ["self","text"] (defScope s_NoRule):=fsc
theorem ok_NoRule {P:Program}{w:World}{K:a0a}{mg:Str->Option Value}{base:Heap}{f:Addr}{fd:FuncData}{B C fI:Addr}{up:List Value}{k:Nat}(F:L2.Fun K "__init__" "NoRule.__init__" s_NoRule f fd)(hm:mg "BroadError"=some (.ref B))(b:XB K B)(c:XC K C fI up)(tk:a0K K C "text"=some none) :
  aS P w K mg base CX0 (k+1) f fd ["self","text"] (spI K C "text" 2):=by
 have len:∀ vs H Q E,spI K C "text" 2 vs H Q E->vs.length=["self","text"].length:=fun vs H Q E ⟨a,n,e,_⟩=>by rw [e]; rfl
 refine F.ok jd len fun cdv A outer s H vs Q E hr h=>⟨_,aR (bz (a9 (B:=B) b rfl hm (ax (aq (i:=0) rfl (.inl rfl)) (ax (aq (i:=1) rfl (.inl rfl)) aY))) rfl) (bc (bA (aq (i:=0) rfl (.inl rfl)) (aq (i:=1) rfl (.inl rfl)) rfl)),?_⟩
 obtain ⟨a,y,rfl,⟨z,rfl⟩,ha,q⟩:=h
 exact ⟨.ref a,rfl,.str z,rfl,a,C,none,true,[.str z],fI,up,rfl,(by show 1<=sizeLine; rw [sizeLine_eq]; omega),ha,c,.str z,rfl,.ref a,rfl,a,C,true,fI,up,rfl,ha,c,tk,q⟩
noncomputable abbrev s_NoText:Stmt:=ini 2
theorem jb:aD ["self","at"] ["self","at"] (defScope s_NoText):=fsc
theorem ok_NoText {P:Program}{w:World}{K:a0a}{mg:Str->Option Value}{base:Heap}{f:Addr}{fd:FuncData}{B C fI:Addr}{up:List Value}{k:Nat}(F:L2.Fun K "__init__" "NoText.__init__" s_NoText f fd)(hm:mg "BroadError"=some (.ref B))(b:XB K B)(c:XC K C fI up)(tk:a0K K C "at"=some none) :
  aS P w K mg base CX0 (k+1) f fd ["self","at"] (spI K C "at" 0):=by
 have len:∀ vs H Q E,spI K C "at" 0 vs H Q E->vs.length=["self","at"].length:=fun vs H Q E ⟨a,n,e,_⟩=>by rw [e]; rfl
 refine F.ok jb len fun cdv A outer s H vs Q E hr h=>⟨_,aR (bz (a9 (B:=B) b rfl hm (ax (aq (i:=0) rfl (.inl rfl)) (ax (fY (by decide) (aq (i:=1) rfl (.inl rfl))) aY))) rfl) (bc (bA (aq (i:=0) rfl (.inl rfl)) (aq (i:=1) rfl (.inl rfl)) rfl)),?_⟩
 obtain ⟨a,y,rfl,⟨n,rfl,hn⟩,ha,q⟩:=h
 exact ⟨.ref a,rfl,.int n,rfl,n,rfl,hn,fun y=>⟨a,C,none,true,[.str y],fI,up,rfl,(by show 1<=sizeLine; rw [sizeLine_eq]; omega),ha,c,.int n,rfl,.ref a,rfl,a,C,true,fI,up,rfl,ha,c,tk,q⟩⟩
noncomputable abbrev s_NoThing:Stmt:=ini 5
theorem gk:aD ["self","number"] ["self","number"] (defScope s_NoThing):=fsc
theorem ok_NoThing {P:Program}{w:World}{K:a0a}{mg:Str->Option Value}{base:Heap}{f:Addr}{fd:FuncData}{B C fI:Addr}{up:List Value}{k:Nat}(F:L2.Fun K "__init__" "NoThing.__init__" s_NoThing f fd)(hm:mg "BroadError"=some (.ref B))(b:XB K B)(c:XC K C fI up)(tk:a0K K C "number"=some none) :
  aS P w K mg base CX0 (k+1) f fd ["self","number"] (spI K C "number" 0):=by
 have len:∀ vs H Q E,spI K C "number" 0 vs H Q E->vs.length=["self","number"].length:=fun vs H Q E ⟨a,n,e,_⟩=>by rw [e]; rfl
 refine F.ok gk len fun cdv A outer s H vs Q E hr h=>⟨_,aR (bz (a9 (B:=B) b rfl hm (ax (aq (i:=0) rfl (.inl rfl)) (ax (fY (by decide) (aq (i:=1) rfl (.inl rfl))) aY))) rfl) (bc (bA (aq (i:=0) rfl (.inl rfl)) (aq (i:=1) rfl (.inl rfl)) rfl)),?_⟩
 obtain ⟨a,y,rfl,⟨n,rfl,hn⟩,ha,q⟩:=h
 exact ⟨.ref a,rfl,.int n,rfl,n,rfl,hn,fun y=>⟨a,C,none,true,[.str y],fI,up,rfl,(by show 1<=sizeLine; rw [sizeLine_eq]; omega),ha,c,.int n,rfl,.ref a,rfl,a,C,true,fI,up,rfl,ha,c,tk,q⟩⟩
end I23

set_option maxHeartbeats 0
namespace H23
open PySem PySem.W TP
noncomputable abbrev pr:Program:=PySem.Challenge.pw_broadrow_k23_refusals_apart
noncomputable def tn (i:Nat):Stmt:=pr.main.body.getD i (.Pass p0)
noncomputable def rc:List Rc:=[.m,
.x "BroadError" 206 (.ref 24) (fun P=>[tu [.type "ValueError"],⟨.type "builtin_function_or_method",none,.fields #[.builtin "type.__prepare__",.type "type"],#[]⟩,di [en P "__module__" 196 (.str "broadrow.errors" 187),en P "__qualname__" 198 (.str "BroadError" 197),en P "__firstlineno__" 200 (.int (2) 199),en P "__static_attributes__" 201 (.ref 22)] 4,tu [],fe [],cdo "BroadError" "BroadError" 191 194 2 0 0 18 false .none .none .none,⟨.type "frame",none,.plain,#[some (.ref 20),some (.ref 3),some (.ref 17),none,some (.str "broadrow.errors" 187),none,some (.ref 0)]⟩,tu [],di [en P "__module__" 196 (.str "broadrow.errors" 187),en P "__firstlineno__" 200 (.int (2) 199),en P "__static_attributes__" 201 (.ref 22),en P "__weakref__" 203 (.ref 25),en P "__doc__" 204 .none] 3,⟨.type "type",none,.cls {name:="BroadError",bases:=[.type "ValueError"],mro:=[.ref 24,.type "ValueError",.type "Exception",.type "BaseException",.type "object"],ns:=23,qualname:="BroadError",subclasses:=[.ref 44,.ref 63,.ref 82,.ref 101,.ref 120,.ref 139]},#[some (.ref 15),none,some (.str "BroadError" 189),some (.str "BroadError" 197),some (.builtin "ValueError.__new__"),some (.bool true)]⟩,⟨.type "getset_descriptor",none,.fields #[.str "__weakref__" 202,.ref 24,.builtin "ExceptionGroup.__weakref__",.none],#[]⟩,⟨.type "super",none,.fields #[.ref 24,.ref 24,.ref 24],#[]⟩,⟨.type "builtin_function_or_method",none,.fields #[.builtin "object.__init_subclass__",.ref 24],#[]⟩]) [iv 2,iv 0,.ref 20] 28 207,
.x "NoText" 231 (.ref 44) (fun P=>[tu [.ref 24],⟨.type "builtin_function_or_method",none,.fields #[.builtin "type.__prepare__",.type "type"],#[]⟩,di [en P "__module__" 214 (.str "broadrow.errors" 187),en P "__qualname__" 216 (.str "NoText" 215),en P "__firstlineno__" 218 (.int (4) 217),en P "__init__" 226 (.ref 41),en P "__static_attributes__" 228 (.ref 42)] 5,tu [],fe [iv 6,iv 4,.ref 40],cdo "NoText" "NoText" 209 212 4 0 0 31 false .none .none .none,⟨.type "frame",none,.plain,#[some (.ref 33),some (.ref 3),some (.ref 30),none,some (.str "broadrow.errors" 187),none,some (.ref 0)]⟩,tu [],fe [],tu [.str "self" 222,.str "at" 223],tu [],ofn .none (cb (tn 2) 0) "NoText.__init__" 0 .none .none .none,cdo "__init__" "NoText.__init__" 219 224 6 2 3 35 true (.ref 37) (.ref 38) (.ref 39),ofn (.type "function") (cb (tn 2) 0) "NoText.__init__" 3 .none (.str "broadrow.errors" 187) (.ref 40),tu [.str "at" 227],di [en P "__module__" 214 (.str "broadrow.errors" 187),en P "__firstlineno__" 218 (.int (4) 217),en P "__init__" 226 (.ref 41),en P "__static_attributes__" 228 (.ref 42),en P "__doc__" 229 .none] 2,⟨.type "type",none,.cls {name:="NoText",bases:=[.ref 24],mro:=[.ref 44,.ref 24,.type "ValueError",.type "Exception",.type "BaseException",.type "object"],ns:=43,qualname:="NoText"},#[some (.ref 28),none,some (.str "NoText" 207),some (.str "NoText" 215),some (.builtin "ValueError.__new__"),some (.bool true)]⟩,⟨.type "super",none,.fields #[.ref 44,.ref 44,.ref 44],#[]⟩,⟨.type "builtin_function_or_method",none,.fields #[.builtin "object.__init_subclass__",.ref 44],#[]⟩]) [iv 4,iv 0,.ref 33] 47 232,
.x "NoKind" 256 (.ref 63) (fun P=>[tu [.ref 24],⟨.type "builtin_function_or_method",none,.fields #[.builtin "type.__prepare__",.type "type"],#[]⟩,di [en P "__module__" 239 (.str "broadrow.errors" 187),en P "__qualname__" 241 (.str "NoKind" 240),en P "__firstlineno__" 243 (.int (9) 242),en P "__init__" 251 (.ref 60),en P "__static_attributes__" 253 (.ref 61)] 5,tu [],fe [iv 11,iv 4,.ref 59],cdo "NoKind" "NoKind" 234 237 9 0 0 50 false .none .none .none,⟨.type "frame",none,.plain,#[some (.ref 52),some (.ref 3),some (.ref 49),none,some (.str "broadrow.errors" 187),none,some (.ref 0)]⟩,tu [],fe [],tu [.str "self" 247,.str "place" 248],tu [],ofn .none (cb (tn 3) 0) "NoKind.__init__" 0 .none .none .none,cdo "__init__" "NoKind.__init__" 244 249 11 2 3 54 true (.ref 56) (.ref 57) (.ref 58),ofn (.type "function") (cb (tn 3) 0) "NoKind.__init__" 3 .none (.str "broadrow.errors" 187) (.ref 59),tu [.str "place" 252],di [en P "__module__" 239 (.str "broadrow.errors" 187),en P "__firstlineno__" 243 (.int (9) 242),en P "__init__" 251 (.ref 60),en P "__static_attributes__" 253 (.ref 61),en P "__doc__" 254 .none] 2,⟨.type "type",none,.cls {name:="NoKind",bases:=[.ref 24],mro:=[.ref 63,.ref 24,.type "ValueError",.type "Exception",.type "BaseException",.type "object"],ns:=62,qualname:="NoKind"},#[some (.ref 47),none,some (.str "NoKind" 232),some (.str "NoKind" 240),some (.builtin "ValueError.__new__"),some (.bool true)]⟩,⟨.type "super",none,.fields #[.ref 63,.ref 63,.ref 63],#[]⟩,⟨.type "builtin_function_or_method",none,.fields #[.builtin "object.__init_subclass__",.ref 63],#[]⟩]) [iv 9,iv 0,.ref 52] 66 257,
.x "NoPlace" 281 (.ref 82) (fun P=>[tu [.ref 24],⟨.type "builtin_function_or_method",none,.fields #[.builtin "type.__prepare__",.type "type"],#[]⟩,di [en P "__module__" 264 (.str "broadrow.errors" 187),en P "__qualname__" 266 (.str "NoPlace" 265),en P "__firstlineno__" 268 (.int (14) 267),en P "__init__" 276 (.ref 79),en P "__static_attributes__" 278 (.ref 80)] 5,tu [],fe [iv 16,iv 4,.ref 78],cdo "NoPlace" "NoPlace" 259 262 14 0 0 69 false .none .none .none,⟨.type "frame",none,.plain,#[some (.ref 71),some (.ref 3),some (.ref 68),none,some (.str "broadrow.errors" 187),none,some (.ref 0)]⟩,tu [],fe [],tu [.str "self" 272,.str "place" 273],tu [],ofn .none (cb (tn 4) 0) "NoPlace.__init__" 0 .none .none .none,cdo "__init__" "NoPlace.__init__" 269 274 16 2 3 73 true (.ref 75) (.ref 76) (.ref 77),ofn (.type "function") (cb (tn 4) 0) "NoPlace.__init__" 3 .none (.str "broadrow.errors" 187) (.ref 78),tu [.str "place" 277],di [en P "__module__" 264 (.str "broadrow.errors" 187),en P "__firstlineno__" 268 (.int (14) 267),en P "__init__" 276 (.ref 79),en P "__static_attributes__" 278 (.ref 80),en P "__doc__" 279 .none] 2,⟨.type "type",none,.cls {name:="NoPlace",bases:=[.ref 24],mro:=[.ref 82,.ref 24,.type "ValueError",.type "Exception",.type "BaseException",.type "object"],ns:=81,qualname:="NoPlace"},#[some (.ref 66),none,some (.str "NoPlace" 257),some (.str "NoPlace" 265),some (.builtin "ValueError.__new__"),some (.bool true)]⟩,⟨.type "super",none,.fields #[.ref 82,.ref 82,.ref 82],#[]⟩,⟨.type "builtin_function_or_method",none,.fields #[.builtin "object.__init_subclass__",.ref 82],#[]⟩]) [iv 14,iv 0,.ref 71] 85 282,
.x "NoThing" 306 (.ref 101) (fun P=>[tu [.ref 24],⟨.type "builtin_function_or_method",none,.fields #[.builtin "type.__prepare__",.type "type"],#[]⟩,di [en P "__module__" 289 (.str "broadrow.errors" 187),en P "__qualname__" 291 (.str "NoThing" 290),en P "__firstlineno__" 293 (.int (19) 292),en P "__init__" 301 (.ref 98),en P "__static_attributes__" 303 (.ref 99)] 5,tu [],fe [iv 21,iv 4,.ref 97],cdo "NoThing" "NoThing" 284 287 19 0 0 88 false .none .none .none,⟨.type "frame",none,.plain,#[some (.ref 90),some (.ref 3),some (.ref 87),none,some (.str "broadrow.errors" 187),none,some (.ref 0)]⟩,tu [],fe [],tu [.str "self" 297,.str "number" 298],tu [],ofn .none (cb (tn 5) 0) "NoThing.__init__" 0 .none .none .none,cdo "__init__" "NoThing.__init__" 294 299 21 2 3 92 true (.ref 94) (.ref 95) (.ref 96),ofn (.type "function") (cb (tn 5) 0) "NoThing.__init__" 3 .none (.str "broadrow.errors" 187) (.ref 97),tu [.str "number" 302],di [en P "__module__" 289 (.str "broadrow.errors" 187),en P "__firstlineno__" 293 (.int (19) 292),en P "__init__" 301 (.ref 98),en P "__static_attributes__" 303 (.ref 99),en P "__doc__" 304 .none] 2,⟨.type "type",none,.cls {name:="NoThing",bases:=[.ref 24],mro:=[.ref 101,.ref 24,.type "ValueError",.type "Exception",.type "BaseException",.type "object"],ns:=100,qualname:="NoThing"},#[some (.ref 85),none,some (.str "NoThing" 282),some (.str "NoThing" 290),some (.builtin "ValueError.__new__"),some (.bool true)]⟩,⟨.type "super",none,.fields #[.ref 101,.ref 101,.ref 101],#[]⟩,⟨.type "builtin_function_or_method",none,.fields #[.builtin "object.__init_subclass__",.ref 101],#[]⟩]) [iv 19,iv 0,.ref 90] 104 307,
.x "NoRule" 331 (.ref 120) (fun P=>[tu [.ref 24],⟨.type "builtin_function_or_method",none,.fields #[.builtin "type.__prepare__",.type "type"],#[]⟩,di [en P "__module__" 314 (.str "broadrow.errors" 187),en P "__qualname__" 316 (.str "NoRule" 315),en P "__firstlineno__" 318 (.int (24) 317),en P "__init__" 326 (.ref 117),en P "__static_attributes__" 328 (.ref 118)] 5,tu [],fe [iv 26,iv 4,.ref 116],cdo "NoRule" "NoRule" 309 312 24 0 0 107 false .none .none .none,⟨.type "frame",none,.plain,#[some (.ref 109),some (.ref 3),some (.ref 106),none,some (.str "broadrow.errors" 187),none,some (.ref 0)]⟩,tu [],fe [],tu [.str "self" 322,.str "text" 323],tu [],ofn .none (cb (tn 6) 0) "NoRule.__init__" 0 .none .none .none,cdo "__init__" "NoRule.__init__" 319 324 26 2 3 111 true (.ref 113) (.ref 114) (.ref 115),ofn (.type "function") (cb (tn 6) 0) "NoRule.__init__" 3 .none (.str "broadrow.errors" 187) (.ref 116),tu [.str "text" 327],di [en P "__module__" 314 (.str "broadrow.errors" 187),en P "__firstlineno__" 318 (.int (24) 317),en P "__init__" 326 (.ref 117),en P "__static_attributes__" 328 (.ref 118),en P "__doc__" 329 .none] 2,⟨.type "type",none,.cls {name:="NoRule",bases:=[.ref 24],mro:=[.ref 120,.ref 24,.type "ValueError",.type "Exception",.type "BaseException",.type "object"],ns:=119,qualname:="NoRule"},#[some (.ref 104),none,some (.str "NoRule" 307),some (.str "NoRule" 315),some (.builtin "ValueError.__new__"),some (.bool true)]⟩,⟨.type "super",none,.fields #[.ref 120,.ref 120,.ref 120],#[]⟩,⟨.type "builtin_function_or_method",none,.fields #[.builtin "object.__init_subclass__",.ref 120],#[]⟩]) [iv 24,iv 0,.ref 109] 123 332,
.x "NoLine" 356 (.ref 139) (fun P=>[tu [.ref 24],⟨.type "builtin_function_or_method",none,.fields #[.builtin "type.__prepare__",.type "type"],#[]⟩,di [en P "__module__" 339 (.str "broadrow.errors" 187),en P "__qualname__" 341 (.str "NoLine" 340),en P "__firstlineno__" 343 (.int (29) 342),en P "__init__" 351 (.ref 136),en P "__static_attributes__" 353 (.ref 137)] 5,tu [],fe [iv 31,iv 4,.ref 135],cdo "NoLine" "NoLine" 334 337 29 0 0 126 false .none .none .none,⟨.type "frame",none,.plain,#[some (.ref 128),some (.ref 3),some (.ref 125),none,some (.str "broadrow.errors" 187),none,some (.ref 0)]⟩,tu [],fe [],tu [.str "self" 347,.str "text" 348],tu [],ofn .none (cb (tn 7) 0) "NoLine.__init__" 0 .none .none .none,cdo "__init__" "NoLine.__init__" 344 349 31 2 3 130 true (.ref 132) (.ref 133) (.ref 134),ofn (.type "function") (cb (tn 7) 0) "NoLine.__init__" 3 .none (.str "broadrow.errors" 187) (.ref 135),tu [.str "text" 352],di [en P "__module__" 339 (.str "broadrow.errors" 187),en P "__firstlineno__" 343 (.int (29) 342),en P "__init__" 351 (.ref 136),en P "__static_attributes__" 353 (.ref 137),en P "__doc__" 354 .none] 2,⟨.type "type",none,.cls {name:="NoLine",bases:=[.ref 24],mro:=[.ref 139,.ref 24,.type "ValueError",.type "Exception",.type "BaseException",.type "object"],ns:=138,qualname:="NoLine"},#[some (.ref 123),none,some (.str "NoLine" 332),some (.str "NoLine" 340),some (.builtin "ValueError.__new__"),some (.bool true)]⟩,⟨.type "super",none,.fields #[.ref 139,.ref 139,.ref 139],#[]⟩,⟨.type "builtin_function_or_method",none,.fields #[.builtin "object.__init_subclass__",.ref 139],#[]⟩]) [iv 29,iv 0,.ref 128] 142 357,
.m,
.d,
.d]
theorem c0 (w:World):Cut pr rc 0 15 187 p0 1 10 15 189 ⟨1,0,1,8⟩ w:=fun o=>by kernel_rfl
theorem c1 (w:World):Cut pr rc 1 15 189 ⟨1,0,1,8⟩ 7 1657 142 357 ⟨29,0,33,24⟩ w:=fun o=>by kernel_rfl
theorem c8 (w:World):Cut pr rc 8 142 357 ⟨29,0,33,24⟩ 3 66 154 373 ⟨38,0,50,35⟩ w:=fun o=>by kernel_rfl
theorem ch:Ch pr rc 11 154 373 0 15 187 p0 (10+(1657+(66+(2)))):=dU c0 ( dU c1 ( dU c8 (rq (by kernel_rfl))))
noncomputable def q:Program:=view pr [10]
noncomputable def lo:List Str:=(["BroadError","NoText","NoKind","NoPlace","NoThing","NoRule","NoLine","_law_sorts"]:List String).map Str.ofString
noncomputable def as:List Addr:=[3,24,44,63,82,101,120,139,147,148,152,153,2,23,43,41,40,62,60,59,81,79,78,100,98,97,119,117,116,138,136,135]
noncomputable def K:Params->Frag:=kK pr rc 11 as
noncomputable def hk:Hook:=hkk pr rc 11 154
noncomputable abbrev Xt (s:Shared):Bool:=xlAt q [] s&&recOk (RowW.records (OpenRow.toRowW (OpenLaw.row PySem.Challenge.rw_broadrow_k23_refusals_apart))) s
theorem kin (w:World)(h:Heap)(Y:hk.says w h):(K w.params).In h:=vV (by kernel_rfl) (by kernel_rfl) Y
theorem lk (w:World):(fun o=>((staticsOk (importedModules pr.main.body) (boot_heap w.params) (hp pr rc 11 154 w.params)&&namesBound pr (hp pr rc 11 154 w.params)&&gensDone ⟨hp pr rc 11 154 w.params,#[],{},373,o⟩&&laidKept (boot_heap w.params) (hp pr rc 11 154 w.params)),openSeen q lo (importedModules pr.main.body) Xt true ⟨hp pr rc 11 154 w.params,#[],{},373,o⟩,Hook.obs hk ⟨hp pr rc 11 154 w.params,#[],{},373,o⟩))=fun _=>(true,openGood q lo,Hook.val hk w):=by kernel_rfl
theorem e1:opening pr=plainProg pr.main.scope.names:=by kernel_rfl
theorem e2:behindTheImports pr=pr.main.body:=by kernel_rfl
theorem e3 (s:Shared):fenceModules? pr s=some s:=by kernel_rfl
theorem pre (w:World)(o:OsState):topGo treeTable pr w 11 an 12 ⟨boot_heap w.params,a2D [],boot_drawn,boot_toks,o⟩ (topStub pr)=some ((sT pr rc w.params 0 15 187 o).abs,⟨denote treeTable (cE pr),cE pr,p0,B0⟩):=by kernel_rfl
theorem blk (w:World)(o:OsState):segRun treeTable pr w 11 an 1 1 (sT pr rc w.params 0 15 187 o).abs (blockOf (behindTheImports pr) (ev pr) (cE pr) p0 B0)=some (.next,(sT pr rc w.params 0 15 187 o).abs,cE pr,p0):=by kernel_rfl
theorem left:LeftO pr q lo Xt (Hook.obs hk) (Hook.val hk) 3586:=mU e1 (by kernel_rfl) e3 e2 lG pre blk ch (by kernel_rfl) lk
end H23

namespace A23
open PySem PySem.Spec PyProof.Rows L2 L3 MR
noncomputable abbrev KK (w:World):a0a:=H23.K w.params
noncomputable abbrev UB:List Value:=.ref 24::VE
theorem x44 (w:World):XC (KK w) 44 41 UB:=de (by kernel_rfl)
theorem x63 (w:World):XC (KK w) 63 60 UB:=de (by kernel_rfl)
theorem x82 (w:World):XC (KK w) 82 79 UB:=de (by kernel_rfl)
theorem pA (w:World):XC (KK w) 101 98 UB:=de (by kernel_rfl)
theorem q0 (w:World):XC (KK w) 120 117 UB:=de (by kernel_rfl)
theorem pX (w:World):XC (KK w) 139 136 UB:=de (by kernel_rfl)
theorem xb (w:World):XB (KK w) 24:=⟨by kernel_rfl,by kernel_rfl,by kernel_rfl⟩
theorem vh (w:World):XF (KK w) 63:=cY (x63 w) (by rfl) (by kernel_rfl)
theorem vG (w:World):∃ fd,L2.Fun (KK w) "__init__" "NoKind.__init__" I23.s_NoKind 60 fd/\Binds (KK w) fd ["self","place"] []:=by
 refine ⟨a0r "__init__" "NoKind.__init__" (defArgs I23.s_NoKind) (defBody I23.s_NoKind) (defScope I23.s_NoKind) .none .none .none (TP.pmO ((KK w).lookup 60)) none (.ref 59) .none,?_⟩
 have F:L2.Fun (KK w) "__init__" "NoKind.__init__" I23.s_NoKind 60 (a0r "__init__" "NoKind.__init__" (defArgs I23.s_NoKind) (defBody I23.s_NoKind) (defScope I23.s_NoKind) .none .none .none (TP.pmO ((KK w).lookup 60)) none (.ref 59) .none):=⟨⟨.type "function",none,_,_,_,_,_,_,#[],rfl,by kernel_rfl,by kernel_rfl⟩,by kernel_rfl⟩
 exact ⟨F,F.binds fun _ _ _ _ _ _ us hl=>match us,hl with | [_,_],_=>rfl⟩
theorem uO (w:World):XF (KK w) 139:=cY (pX w) (by rfl) (by kernel_rfl)
theorem uT (w:World):∃ fd,L2.Fun (KK w) "__init__" "NoLine.__init__" I23.s_NoLine 136 fd/\Binds (KK w) fd ["self","text"] []:=by
 refine ⟨a0r "__init__" "NoLine.__init__" (defArgs I23.s_NoLine) (defBody I23.s_NoLine) (defScope I23.s_NoLine) .none .none .none (TP.pmO ((KK w).lookup 136)) none (.ref 135) .none,?_⟩
 have F:L2.Fun (KK w) "__init__" "NoLine.__init__" I23.s_NoLine 136 (a0r "__init__" "NoLine.__init__" (defArgs I23.s_NoLine) (defBody I23.s_NoLine) (defScope I23.s_NoLine) .none .none .none (TP.pmO ((KK w).lookup 136)) none (.ref 135) .none):=⟨⟨.type "function",none,_,_,_,_,_,_,#[],rfl,by kernel_rfl,by kernel_rfl⟩,by kernel_rfl⟩
 exact ⟨F,F.binds fun _ _ _ _ _ _ us hl=>match us,hl with | [_,_],_=>rfl⟩
theorem vy (w:World):XF (KK w) 82:=cY (x82 w) (by rfl) (by kernel_rfl)
theorem vA (w:World):∃ fd,L2.Fun (KK w) "__init__" "NoPlace.__init__" I23.s_NoPlace 79 fd/\Binds (KK w) fd ["self","place"] []:=by
 refine ⟨a0r "__init__" "NoPlace.__init__" (defArgs I23.s_NoPlace) (defBody I23.s_NoPlace) (defScope I23.s_NoPlace) .none .none .none (TP.pmO ((KK w).lookup 79)) none (.ref 78) .none,?_⟩
 have F:L2.Fun (KK w) "__init__" "NoPlace.__init__" I23.s_NoPlace 79 (a0r "__init__" "NoPlace.__init__" (defArgs I23.s_NoPlace) (defBody I23.s_NoPlace) (defScope I23.s_NoPlace) .none .none .none (TP.pmO ((KK w).lookup 79)) none (.ref 78) .none):=⟨⟨.type "function",none,_,_,_,_,_,_,#[],rfl,by kernel_rfl,by kernel_rfl⟩,by kernel_rfl⟩
 exact ⟨F,F.binds fun _ _ _ _ _ _ us hl=>match us,hl with | [_,_],_=>rfl⟩
theorem uC (w:World):XF (KK w) 120:=cY (q0 w) (by rfl) (by kernel_rfl)
theorem rH (w:World):∃ fd,L2.Fun (KK w) "__init__" "NoRule.__init__" I23.s_NoRule 117 fd/\Binds (KK w) fd ["self","text"] []:=by
 refine ⟨a0r "__init__" "NoRule.__init__" (defArgs I23.s_NoRule) (defBody I23.s_NoRule) (defScope I23.s_NoRule) .none .none .none (TP.pmO ((KK w).lookup 117)) none (.ref 116) .none,?_⟩
 have F:L2.Fun (KK w) "__init__" "NoRule.__init__" I23.s_NoRule 117 (a0r "__init__" "NoRule.__init__" (defArgs I23.s_NoRule) (defBody I23.s_NoRule) (defScope I23.s_NoRule) .none .none .none (TP.pmO ((KK w).lookup 117)) none (.ref 116) .none):=⟨⟨.type "function",none,_,_,_,_,_,_,#[],rfl,by kernel_rfl,by kernel_rfl⟩,by kernel_rfl⟩
 exact ⟨F,F.binds fun _ _ _ _ _ _ us hl=>match us,hl with | [_,_],_=>rfl⟩
theorem vp (w:World):XF (KK w) 44:=cY (x44 w) (by rfl) (by kernel_rfl)
theorem u6 (w:World):∃ fd,L2.Fun (KK w) "__init__" "NoText.__init__" I23.s_NoText 41 fd/\Binds (KK w) fd ["self","at"] []:=by
 refine ⟨a0r "__init__" "NoText.__init__" (defArgs I23.s_NoText) (defBody I23.s_NoText) (defScope I23.s_NoText) .none .none .none (TP.pmO ((KK w).lookup 41)) none (.ref 40) .none,?_⟩
 have F:L2.Fun (KK w) "__init__" "NoText.__init__" I23.s_NoText 41 (a0r "__init__" "NoText.__init__" (defArgs I23.s_NoText) (defBody I23.s_NoText) (defScope I23.s_NoText) .none .none .none (TP.pmO ((KK w).lookup 41)) none (.ref 40) .none):=⟨⟨.type "function",none,_,_,_,_,_,_,#[],rfl,by kernel_rfl,by kernel_rfl⟩,by kernel_rfl⟩
 exact ⟨F,F.binds fun _ _ _ _ _ _ us hl=>match us,hl with | [_,_],_=>rfl⟩
theorem uW (w:World):XF (KK w) 101:=cY (pA w) (by rfl) (by kernel_rfl)
theorem rS (w:World):∃ fd,L2.Fun (KK w) "__init__" "NoThing.__init__" I23.s_NoThing 98 fd/\Binds (KK w) fd ["self","number"] []:=by
 refine ⟨a0r "__init__" "NoThing.__init__" (defArgs I23.s_NoThing) (defBody I23.s_NoThing) (defScope I23.s_NoThing) .none .none .none (TP.pmO ((KK w).lookup 98)) none (.ref 97) .none,?_⟩
 have F:L2.Fun (KK w) "__init__" "NoThing.__init__" I23.s_NoThing 98 (a0r "__init__" "NoThing.__init__" (defArgs I23.s_NoThing) (defBody I23.s_NoThing) (defScope I23.s_NoThing) .none .none .none (TP.pmO ((KK w).lookup 98)) none (.ref 97) .none):=⟨⟨.type "function",none,_,_,_,_,_,_,#[],rfl,by kernel_rfl,by kernel_rfl⟩,by kernel_rfl⟩
 exact ⟨F,F.binds fun _ _ _ _ _ _ us hl=>match us,hl with | [_,_],_=>rfl⟩
theorem fnm (w:World)(f:Str)(e:kO (KK w) (fun c=>a0l (KK w) (.ref c) f==some none)=true)(c:Nat)(x:XF (KK w) c):a0l (KK w) (.ref c) f=some none:=beq_iff_eq.mp (fC (p:=fun c=>a0l (KK w) (.ref c) f==some none) e x)
theorem one (w:World)(cv:Value)(cs:List Nat)(e:kO (KK w) (fun c=>a0E (KK w) (.ref c) cv==some (cs.contains c))=true)(c:Nat)(x:XF (KK w) c):a0E (KK w) (.ref c) cv=some (cs.contains c):=beq_iff_eq.mp (fC (p:=fun c=>a0E (KK w) (.ref c) cv==some (cs.contains c)) e x)
theorem any (w:World)(Cs cs:List Nat)(e:kO (KK w) (fun c=>a1U (KK w) (.ref c) (Cs.map Value.ref)==some (cs.contains c))=true)(c:Nat)(x:XF (KK w) c):a1U (KK w) (.ref c) (Cs.map Value.ref)=some (cs.contains c):=beq_iff_eq.mp (fC (p:=fun c=>a1U (KK w) (.ref c) (Cs.map Value.ref)==some (cs.contains c)) e x)
theorem xs_mk {P:Program}{w:World}{h:Heap}{mg:Str->Option Value}(X:(KK w).In h)(G:h.Ns mainGlobals mg)(base:Heap):Xs P w (KK w) mg base:=by
 have nB:mg "BroadError"=some (.ref 24):=a0v X G (by kernel_rfl)
 refine ⟨fnm w _ (by kernel_rfl),fnm w _ (by kernel_rfl),fnm w _ (by kernel_rfl),⟨.inl (a0v X G (by kernel_rfl)),one w _ _ (by kernel_rfl),by kernel_rfl⟩,⟨.inl (a0v X G (by kernel_rfl)),one w _ _ (by kernel_rfl),by kernel_rfl⟩,⟨.inl (a0v X G (by kernel_rfl)),one w _ _ (by kernel_rfl),by kernel_rfl⟩,⟨.inl (a0v X G (by kernel_rfl)),one w _ _ (by kernel_rfl),by kernel_rfl⟩,⟨.inl (a0v X G (by kernel_rfl)),one w _ _ (by kernel_rfl),by kernel_rfl⟩,⟨.inl (a0v X G (by kernel_rfl)),one w _ _ (by kernel_rfl),by kernel_rfl⟩,⟨.inl (a0v X G (by kernel_rfl)),one w _ _ (by kernel_rfl),by kernel_rfl⟩,⟨.inr ⟨dy X G (by kernel_rfl),PyProof.Rows.Boot.«ValueError»⟩,one w _ _ (by kernel_rfl),by kernel_rfl⟩,dy X G (by kernel_rfl),?_,?_,?_,?_,?_,?_⟩
 ·obtain ⟨fd,F,b⟩:=vG w
  exact ⟨⟨60,UB,fd,["self","place"],x63 w,rfl,by decide +kernel,b,fun k=>I23.ok_NoKind F nB (xb w) (x63 w) (by kernel_rfl)⟩,vh w,a0v X G (by kernel_rfl)⟩
 ·obtain ⟨fd,F,b⟩:=uT w
  exact ⟨⟨136,UB,fd,["self","text"],pX w,rfl,by decide +kernel,b,fun k=>I23.ok_NoLine F nB (xb w) (pX w) (by kernel_rfl)⟩,uO w,a0v X G (by kernel_rfl)⟩
 ·obtain ⟨fd,F,b⟩:=vA w
  exact ⟨⟨79,UB,fd,["self","place"],x82 w,rfl,by decide +kernel,b,fun k=>I23.ok_NoPlace F nB (xb w) (x82 w) (by kernel_rfl)⟩,vy w,a0v X G (by kernel_rfl)⟩
 ·obtain ⟨fd,F,b⟩:=rH w
  exact ⟨⟨117,UB,fd,["self","text"],q0 w,rfl,by decide +kernel,b,fun k=>I23.ok_NoRule F nB (xb w) (q0 w) (by kernel_rfl)⟩,uC w,a0v X G (by kernel_rfl)⟩
 ·obtain ⟨fd,F,b⟩:=u6 w
  exact ⟨⟨41,UB,fd,["self","at"],x44 w,rfl,by decide +kernel,b,fun k=>I23.ok_NoText F nB (xb w) (x44 w) (by kernel_rfl)⟩,vp w,a0v X G (by kernel_rfl)⟩
 ·obtain ⟨fd,F,b⟩:=rS w
  exact ⟨⟨98,UB,fd,["self","number"],pA w,rfl,by decide +kernel,b,fun k=>I23.ok_NoThing F nB (xb w) (pA w) (by kernel_rfl)⟩,uW w,a0v X G (by kernel_rfl)⟩
end A23

set_option maxHeartbeats 4000000
open PySem PySem.W PyProof.Rows
set_option maxRecDepth 100000 in
set_option maxHeartbeats 0 in
theorem PySem.Challenge.cw_broadrow_k23_refusals_apart_holds : PySem.Challenge.rw_broadrow_k23_refusals_apart.Holds := by
 w_on; o_law
 refine holds_open (q:=H23.q) (loose:=H23.lo) (Xt:=H23.Xt) (XP:=XL H23.q []) (Yf:=Hook.obs H23.hk) (Ya:=Hook.val H23.hk) (YP:=Hook.says H23.hk) (N:=3586) (d:=TP.drec (H23.tn 10)) (kwd:=[]) H23.left (Hook.of H23.hk) (Hook.keeps H23.hk) (fun s e=>xl_of s (a1m.mp e).1) XL.keeps (by kernel_rfl) (by kernel_rfl) (by kernel_rfl) (fun s e=>recFacts_of (a1m.mp e).2) (by rfl) (by first | assumption | decide +kernel) (by decide +kernel) ⟨rfl,rfl,rfl,rfl,rfl,by decide +kernel⟩ ?hw ?hc
 case hw=>w_witness2
 refine MR.walkX (sx:="script") (l:=PySem.Challenge.rw_broadrow_k23_refusals_apart) (k:=42) (C:=A23.Cl 40) (ix:=0) (K:=H23.K) A23.pure_law rfl (by kernel_rfl) ⟨rfl,by decide,by decide,rfl⟩ H23.kin ?F
 case F =>
  intro w mg fa h KX G hmg
  refine' A23.all_mk KX G hmg ?zr333 ?zr0   ?ztx ?zxs
  case zxs=>exact fun base=>A23.xs_mk KX G base
  case ztx=>refine' ⟨?_,?_,?_,?_,?_,?_,?_,?_,?_,?_,?_,?_,?_,?_,?_,?_,?_,?_,?_,?_,?_,trivial⟩<;>kernel_rfl
  all_goals exact TP.raw_mk (by kernel_rfl) (by kernel_rfl) (by kernel_rfl) (by kernel_rfl)
