import PyProof.Rows.All
import Wide.All
import OpenK.AllK
import Wide.FinOn
import PyProof.EqAt
import PyProof.EqKinds
import PyProof.TupleCall
import KE.BitLaws
import KE.KSortAsk
import KE.KSortTup
import KE.KLam
import Open.SpecLaws
import KE.OsHead
import KE.OsGo
import PyProof.ListNew
import PyProof.CollectIter
import KE.KMinBuiltin
import KE.KSortTupG
import PyProof.ListRange
import PySem.Challenge.RW_leastindexes_s01_answers
set_option Elab.async false
set_option linter.all false
set_option maxRecDepth 100000
set_option maxHeartbeats 2000000
open List renaming length_map→z0,getElem?_eq_getElem→z8,length_append→za,range→zf,mem_cons_of_mem→zg,mem_singleton→zi,mem_cons_self→zn,getElem?_eq_some_iff→zo,mem_append_right→zq,mem_of_getElem?→zt,length_cons→zu,map_append→zw,mem_cons→zx,getElem?_map→zB,map_map→zI,map_cons→zJ,size_toArray→zO,mem_append→zQ,mem_append_left→zY,mem_filter→yg,mem_map→yr,length_range→yA,foldl_cons→yC,getD_eq_getElem?_getD→yE,length_zip→j2,filter_cons→j3,all_eq_true→j4,pairwise_cons→j8,drop_eq_getElem_cons→jj,append_nil→jn,getElem?_eq_none→jp,append_assoc→jq,getElem?_append_left→jx,length_filter_le→jK,take_length→jO,dropLast_concat_getLast→Zo,filterMap_cons→Zs,take_of_length_le→Zu,length_take→Zx,cons_append→Zy,getElem?_append_right→ZB,contains_iff_mem→ZE,flatMap_cons→ZQ,reverse_append→Y7,length_reverse→Y8,getElem?_range→Y9,lookup_cons→Yg,length_eq_zero_iff→Yh,getLast?_eq_some_getLast→Ys,drop_eq_nil_of_le→Yx,mem_range→YX,flatMap_append→Jc,nil_append→Jm,mem_filterMap→JG,filter_append→JH,lookup→JJ,length→JK,foldl_append→V1,length_drop→Vs,getElem_mem→Vt,drop_length→Vu,any_cons→Vy,all_cons→Vz,map_eq_nil_iff→W2,map_congr_left→W3,drop_zero→WK,contains_cons→WL,getElem?_zip_eq_some→Ga,getElem?_set_self→UL,nodup_cons→qE,getElem?_reverse→qH,getElem?_set_ne→QH,dropLast_concat→QI,length_pos_iff→z0y,toArray→z1K,map→z1L,ext_getElem?→z1M,perm_middle→z3g,mem_flatMap→z3h,map_snd_zip→z3i,countP_cons→z3j,of_mem_zip→z3A,filter_map→z3B,forIn_nil→z5k,drop_drop→z5l,pairwise_iff_getElem→z5q,mem_of_find?_eq_some→z5r,pairwise_singleton→z6O,getElem?_cons_succ→z6P,range_succ_eq_map→z8n,map_nil→z8o,filter_eq_nil_iff→z8p,all_map→z8q,filterMap_append→z98,pairwise_append→za3,mem_of_getLast?→za4,drop_eq_nil_iff→za5
open PySem.W renaming Frag→z4,mg_of→zp,fnOf→jU,emptyDict→jV,findIn→Zw,instObj→ZM,codeIn→Y2,keepIn→YG,hideAll→Jb,plainGet→Gc,lookIn→qy,hideAll_none→qA,CodeHd→qC,plainGet_of→qR,hideAll_get→qS,of_hideAll→QN,callWith_K→QO,methodObj→z0A,hasDictIn→z0B,takerIn→z25,length_le_weightAllW→z26,isFn→z5n,cellsFrom_some→z5o,methodCall_KW→z6I,callWith_K0→z8l,plainOver→za1
open Nat renaming le_refl→zb,le_trans→zd,zero_le→zk,lt_of_lt_of_le→zW,ne_of_lt→yF,lt_irrefl→yY,lt_succ_of_lt→jJ,succ_le_succ→jP,min_le_right→ZA,lt_succ_self→Yi,le_add_right→Yj,min→YO,le_of_succ_le→YQ,mul_le_mul_right→YY,min_self→J7,le_of_lt→J8,le_of_not_lt→Vx,pow_le_pow_right→VL,min_eq_left→W1,ne_of_gt→Ws,le_of_eq→Wt,lt_of_le_of_lt→WO,le_succ→QQ,add_le_add→QR,sub_self→z28,lt_or_ge→z29,min_eq_right→z3k,min_le_left→z49,zero_add→z95,succ_mul→z96,pow_succ→z97,le_of_ble_eq_true→za2
open PySem.Heap renaming get?_push_of_some→ze,lt_size→zC,get?_push_size→yd,size_push→yN,get?_update_other→yV,get?_update_self→Vm,SameBut→z1N,get?_none_of_le→za6
open Option renaming bind_some→zr,bind_none→jg,bind_assoc→jo,isSome_iff_exists→jI,map_none→jL,map_some→Yw,bind_map→z3f
open PySem.F renaming plainAttrs_list→zF,type_list_append→yK,slot_list_append→yL,type_list_extend→jD,slot_list_extend→jE,plain_min_loop→Zq,excBase_Exception→Wr,type_list_pop→GZ,slot_list_pop→U0,slot_list_count→z5j,entry_min_loop→z5p,slot_list_lt→z6N
open Option.some renaming inj→zG,injEq→qT
open Vaidxd renaming setCost→zH,size→zN,onTable→zX,setRoom→yk,least→ym,step→yu,choose→yz,leastSets→yD,orNone→yG,proofOf→jd,leastCost→je,allSets→jf,dominator→jm,costBy→js,onProblem→jw,within_→jH,lowerBound→jX,mattering→Zb,frontier→Zk,proofFrom→Y4,dominates→Y5,int→YN,leastWith→YU,noMore→Ja,sum→Jj,idle→Jk,wayOf→JL,setOf→JM,rises→JN,accepts→JO,asking→Vk,asGood→Vl,upTo→Vp,prove→VZ,Call→WM,listed→G7,leaves→G8,UPKEEP→QL,Offer→z1k,putOnce→z3w,leastOf→z3x,keeping→z3y,ROOM→z8k,leastWithout→z93
open PySem renaming mem_of_lookup→zM,Spec→yw,getD_mem→z48,Within→z6M
open Bool renaming false_ne_true→zR,eq_iff_iff→y8,and_eq_true→ye,noConfusion→j5,false_eq_true→j9,eq_false_iff→V2,not_eq_true→Vv,true_and→VA,and_true→GQ,and_false→QJ,and_eq_true_iff→QK,false_and→z5m,or_false→z6J
open VaidxBase renaming found→zS,whole→zV,valueAt→y9,passes→yc,readNat→yi,roomOf→yn,Reader→yo,isIn→yQ,ownFilters→jM,rowsOf→Z6,serves→YF,indexCost→YT,isEqual→Jl,wholeCost→Vq,equalKeys→Vr,isFree→WN,columnsOf→qw,sortedBy→qQ,entries→QM,needed→z0z,readQuestion→z47,readTimes→z6B,readTable→z6C,readIndex→z6D,orderLeft→z6E,covers→z94
open Array renaming length_toList→yh,getD_eq_getD_getElem?→ja,getElem?_eq_getElem→J3,perm_iff_toList_perm→Wu,getElem?_eq_some_iff→Wv,getElem?_toList→qF,toList→z6R
open PySem.Value renaming ref→yU,type→Yr,bool→Vj,int→W7,none→GY
open PySem.Obj renaming mapSeq→yW
open PyProof.Rows renaming callWith_type1→j0
open Ne renaming symm→j1
open PySem.PassesOwn renaming never→ji
open VaidxdNeutral renaming step→jz,allWhole→J5,asked1→Gb
open False renaming elim→Z0
open PyVaidxd renaming shape→Zf,answers→Y1,answers_asked→GO,whole→UK
open Int renaming natCast_add→ZR,toNat_natCast→ZT,toNat→Yk,natCast_mul→JI
open PySem.Str renaming ofString→YB
open Classical renaming byContradiction→YR
open PyFlat renaming calls→YV,played→G9,told→qG,rows→z27,call→z8m
open Prod renaming snd→YW,fst→WI
open List.cons renaming inj→YZ
open PySem.NameKind renaming free→J2,cell→WJ
open Sum renaming inl→J6,inr→z24
open PySem.Builtin.List renaming listExtendWith→Vi,listTooLong→W0,listSameRef→z1P
open PySem.Around renaming under_plainId→Vw,under→z6K,frames_deeper→z8s
open PySem.W.Codec renaming encAll→W4,denoteAll→UM,app→z2a
open ForInStep renaming yield→GP
open PySem.W.WData renaming weightAll→UI
open True renaming intro→UJ
open PySem.Builtin.Builtins renaming bindParams→qU
open PySem.PyData renaming eqvAll→QP,int→z0v,eqv→z0w,canLayAll0→z1l,depthAll→z3e
open Nat.succ renaming inj→z0x
open PySem.Calls renaming spliced_cons→z0C,spliced_nil→z1C,Name_function_global→z4b,callWith_builtin→z6Q
open PySem.SeqAt renaming shaped→z1B,canLay_of_shaped→z6L
open PySem.Builtin.Range renaming rangeSize→z1O
open Or renaming inr→z3z
open PySem.Heap.SameBut renaming update→z4a
open PySem.SeqAt.EqAt renaming str_int→z6F,int_str→z6G,int_int→z6H
open PySem.Code renaming isFrame→z8r
open PySem.Value.type renaming inj→za0
namespace L2
open PySem PySem.Spec PyProof.Rows
abbrev Key:=Sum Int Str
def keyIs:Key→Value→Bool
 | .inl k,v=>Value.isInt k v
 | .inr x,v=>Value.isStrOf x v
def keyH (w:World):Key→Int
 | .inl k=>hashInt k
 | .inr x=>hashStr w x
theorem ZL:∀{k:Key}{v:Value},keyIs k v=true→(∃i t,k=J6 i∧v=W7 i t)∨(∃x t,k=z24 x∧v=Value.str x t)
 | .inl i,v,h=>by
  obtain ⟨t,e⟩:=Value.isInt_shape (k:=i) (v:=v) h
  exact .inl ⟨i,t,rfl,e⟩
 | .inr x,v,h=>by
  obtain ⟨t,e⟩:=Value.isStrOf_shape (x:=x) (v:=v) h
  exact .inr ⟨x,t,rfl,e⟩
theorem key_ll (a b:Int):decide ((J6 a:Key)=J6 b)=(a==b):=by
 by_cases e:a=b
 ·subst e;simp
 ·have h:¬(J6 a:Key)=J6 b:=fun q=>e (J6.inj q)
  rw [decide_eq_false h]
  exact (beq_eq_false_iff_ne.mpr e).symm
theorem key_rr (a b:Str):decide ((z24 a:Key)=z24 b)=decide (a=b):=by
 by_cases e:a=b
 ·subst e;simp
 ·have h:¬(z24 a:Key)=z24 b:=fun q=>e (z24.inj q)
  rw [decide_eq_false h,decide_eq_false e]
theorem key_lr (a:Int)(b:Str):decide ((J6 a:Key)=z24 b)=false:=decide_eq_false (fun q=>nomatch q)
theorem key_rl (a:Str)(b:Int):decide ((z24 a:Key)=J6 b)=false:=decide_eq_false (fun q=>nomatch q)
def z8G (prog:Program)(w:World):PySem.KeyKind prog w Key where
 is:=keyIs
 hash:=keyH w
 inj:=fun v a b ha hb=>by
  rcases ZL ha with ⟨i,t,rfl,rfl⟩ | ⟨x,t,rfl,rfl⟩
  ·rcases ZL hb with ⟨j,u,rfl,e⟩ | ⟨y,u,rfl,e⟩
   ·injection e with e1 _;rw [e1]
   ·exact nomatch e
  ·rcases ZL hb with ⟨j,u,rfl,e⟩ | ⟨y,u,rfl,e⟩
   ·exact nomatch e
   ·injection e with e1 _;rw [e1]
 byValue:=fun k v h=>by
  rcases ZL h with ⟨i,t,rfl,rfl⟩ | ⟨x,t,rfl,rfl⟩ <;> rfl
 pyHash:=fun hv h=>by
  rcases ZL hv with ⟨i,t,rfl,rfl⟩ | ⟨x,t,rfl,rfl⟩
  ·exact wpAny_pyHash_int h
  ·exact wpAny_pyHash_str h
 eqBool:=fun hu hv h=>by
  rcases ZL hu with ⟨i,t,rfl,rfl⟩ | ⟨x,t,rfl,rfl⟩
  ·rcases ZL hv with ⟨j,u,rfl,rfl⟩ | ⟨y,u,rfl,rfl⟩
   ·rw [key_ll] at h;exact wpAny_eqBool_int h
   ·rw [key_lr] at h;exact z6G i t y u _ _ _ _ h
  ·rcases ZL hv with ⟨j,u,rfl,rfl⟩ | ⟨y,u,rfl,rfl⟩
   ·rw [key_rl] at h;exact z6F x t j u _ _ _ _ h
   ·rw [key_rr] at h;exact wpAny_eqBool_str h
 «strs»:=fun k x t v h=>by
  rcases ZL h with ⟨i,u,rfl,e⟩ | ⟨y,u,rfl,e⟩
  ·exact nomatch e
  ·injection e with e1 _
   subst e1
   cases v <;> rfl
end L2
namespace L2
open PySem PySem.Spec PyProof.Rows
inductive V where
 | non | bl (b:Bool) | int (i:Int) | str (x:Str) | byt (b:Array UInt8) | flt (b:UInt64) | ref (a:Addr) | ty (n:String)
 deriving DecidableEq
def jW:V→Value→Prop
 | .non,u=>u=GY
 | .bl b,u=>u=Vj b
 | .int i,u=>∃t,u=W7 i t
 | .str x,u=>∃t,u=Value.str x t
 | .byt b,u=>∃t,u=Value.bytes b t
 | .flt b,u=>∃t,u=Value.float b t
 | .ref a,u=>u=yU a
 | .ty n,u=>u=Yr n
abbrev yO:List V→List Value→Prop:=Paired jW
theorem yO.length {xs:List V}{us:List Value}(r:yO xs us):xs.length=us.length:=Paired.length r
theorem yO.get:∀{xs:List V}{us:List Value}{i:Nat}{x:V},yO xs us→xs[i]?=some x→∃u,us[i]?=some u∧jW x u
 | _,_,_,_,.nil,e=>by simp at e
 | _,_,0,_,.cons r _,e=>by simp at e;subst e;exact ⟨_,rfl,r⟩
 | _,_,i+1,x,.cons _ t,e=>by
  obtain ⟨u,h1,h2⟩:=yO.get (i:=i) (x:=x) t (by simpa using e)
  exact ⟨u,by simpa using h1,h2⟩
theorem yO.append:∀{xs ys:List V}{us ws:List Value},yO xs us→yO ys ws→yO (xs++ys) (us++ws)
 | _,_,_,_,.nil,s=>s
 | _,_,_,_,.cons r t,s=>.cons r (yO.append t s)
theorem yO.take:∀{xs:List V}{us:List Value} (n:Nat),yO xs us→yO (xs.take n) (us.take n)
 | _,_,0,_=>.nil
 | _,_,_+1,.nil=>.nil
 | _,_,n+1,.cons r t=>.cons r (yO.take n t)
theorem yO.drop:∀{xs:List V}{us:List Value} (n:Nat),yO xs us→yO (xs.drop n) (us.drop n)
 | _,_,0,r=>r
 | _,_,_+1,.nil=>.nil
 | _,_,n+1,.cons _ t=>yO.drop n t
def z3v:Option V→Option Value→Prop
 | some v,some u=>jW v u
 | none,none=>True
 | _,_=>False
def KV {κ:Type}:List (κ×V)→List (κ×Value)→Prop:=Paired fun (p:κ×V) (q:κ×Value)=>p.1=q.1∧jW p.2 q.2
def kV:Key→V
 | .inl i=>.int i
 | .inr x=>.str x
inductive HO where
 | lst (xs:List V)
 | tup (xs:List V)
 | dK (kvs:List (Key×V)) | dT (kvs:List (List Key×V))
 | set (S:Int→Bool) (n:Nat)
 | ins (C dx:Addr) (fs:List (Str×V))
 | own (x:Addr)
 | xd (fs:List (Str×V))
 | met (f x:Addr)
 | rng (lo hi:Int)
 | frz (o:Obj) (u:HO)
 | tbl (ps:Array Value)
 | ext (φ:Heap→Prop)
abbrev Hp:=Addr→Option HO
def upd (H:Hp)(a:Addr)(o:HO):Hp:=fun b=>if b=a then some o else H b
theorem z5 {H:Hp}{a:Addr}{o:HO}:upd H a o a=some o:=by unfold upd;rw [if_pos rfl]
theorem zl {H:Hp}{a b:Addr}{o:HO}(h:b≠a):upd H a o b=H b:=by unfold upd;rw [if_neg h]
theorem Z3 {H:Hp}{a:Addr}{o u:HO}:upd (upd H a o) a u=upd H a u:=by
 funext b;unfold upd;split <;> rfl
theorem Zg {H:Hp}{a b:Addr}{o u:HO}(h:H a=some o)(h':H b=some u)(d:o≠u):a≠b:=by
 intro e;subst e;rw [h] at h';exact d (zG h')
theorem zT {H:Hp}{a b:Addr}{o:HO}(h:H a=some o)(h':H b=none):a≠b:=by
 intro e;subst e;rw [h] at h';cases h'
section
variable (P:Program)(w:World)
def YS (H:Hp)(h:Heap)(a:Addr):HO→Prop
 | .lst xs=>xs.length≤sizeLine∧∃(its:List Value) (n:Nat),yO xs its∧h.get? a=some { cls:=.type "list",data:=.seq its.toArray n }
 | .tup xs=>xs.length≤sizeLine∧∃its:List Value,yO xs its∧IsTup h a its.toArray
 | .dK kvs=>kvs.length≤sizeLine∧(a==sysModules)=false∧∃vs,KV kvs vs∧h.DictOf (z8G P w) a vs
 | .dT kvs=>kvs.length≤sizeLine∧(a==sysModules)=false∧∃xs:List (List Key×Addr×Value),
  Paired (fun (p:List Key×V) (q:List Key×Addr×Value)=>p.1=q.1∧H q.2.1=some (.tup (p.1.map kV))∧jW p.2 q.2.2) kvs xs∧
  ∃o es ep,h.get? a=some o∧o.ExactDict∧o.data=.dict es ep∧es.toList=xs.map (entryOfKey (tupleKind (z8G P w)))∧(xs.map (·.1)).Nodup
 | .set S n=>h.SetOf (intKind P w) a S n
 | .ins C dx fs=>H dx=some (.own a)∧fs.length≤1000∧dx≠a∧h.get? a=some (ZM C dx)∧
  ∃mA,h.Ns1 dx mA∧(∀f,z3v (fs.lookup f) (mA f))∧z6M mA (fs.map (·.1))
 | .own _=>∃o,h.get? a=some o
 | .xd fs=>∃mA,h.Ns1 a mA∧∀f,z3v (fs.lookup f) (mA f)
 | .rng lo hi=>∃t u v,h.get? a=some { cls:=.type "range",data:=.fields #[.int lo t,.int hi u,.int 1 v] }
 | .frz o u=>h.get? a=some o∧YS H h a u
 | .tbl ps=>h.get? a=some { cls:=.none,data:=.fields ps }
 | .met f x=>h.get? a=some (z0A (.ref f) (.ref x))
 | .ext φ=>φ h∧(∃o,h.get? a=some o)∧∀h1 h2:Heap,φ h1→(∀o,h1.get? a=some o→h2.get? a=some o)→φ h2
def HOk (H:Hp)(h:Heap):Prop:=∀a o,H a=some o→YS P w H h a o
end
section
variable {P:Program}{w:World}{H H':Hp}{h h':Heap}{a:Addr}{o:HO}
theorem YS.lt (x:YS P w H h a o):a<h.objs.size:=by
 cases o with
 | lst xs=>obtain ⟨_,_,_,_,e⟩:=x;exact zC e
 | tup xs=>obtain ⟨_,_,_,p⟩:=x;exact p.lt
 | dK kvs=>obtain ⟨_,_,_,_,o,_,_,e,_⟩:=x;exact zC e
 | dT kvs=>obtain ⟨_,_,_,_,o,_,_,e,_⟩:=x;exact zC e
 | set S n=>obtain ⟨o,_,_,_,e,_⟩:=x;exact zC e
 | ins C dx fs=>obtain ⟨_,_,_,e,_⟩:=x;exact zC e
 | own y=>obtain ⟨_,e⟩:=x;exact zC e
 | xd fs=>obtain ⟨_,⟨_,_,_,e,_⟩,_⟩:=x;exact zC e
 | rng lo hi=>obtain ⟨_,_,_,e⟩:=x;exact zC e
 | frz ob u=>obtain ⟨e,_⟩:=x;exact zC e
 | tbl ps=>exact zC (show h.get? a=some _ from x)
 | met f y=>exact zC (show h.get? a=some _ from x)
 | ext φ=>obtain ⟨_,⟨_,e⟩,_⟩:=x;exact zC e
theorem Paired.mapP {α β:Type}{F G:α→β→Prop}:∀{l₁:List α}{l₂:List β},Paired F l₁ l₂→(∀a b,F a b→G a b)→Paired G l₁ l₂
 | _,_,.nil,_=>.nil
 | _,_,.cons r t,f=>.cons (f _ _ r) (Paired.mapP t f)
theorem YS.stay (x:YS P w H h a o)(k:∀b u,(b=a∨H b=some (.own a))→h.get? b=some u→h'.get? b=some u)
  (ho:∀b,H b=some (.own a)→H' b=some (.own a)) (ht:∀b xs,H b=some (.tup xs)→H' b=some (.tup xs)):YS P w H' h' a o:=by
 induction o with
 | lst xs=>obtain ⟨z,its,n,r,e⟩:=x;exact ⟨z,its,n,r,k _ _ (.inl rfl) e⟩
 | tup xs=>obtain ⟨z,its,r,ob,e,c⟩:=x;exact ⟨z,its,r,ob,k _ _ (.inl rfl) e,c⟩
 | dK kvs=>obtain ⟨z,y,vs,r,ob,es,ep,e,c⟩:=x;exact ⟨z,y,vs,r,ob,es,ep,k _ _ (.inl rfl) e,c⟩
 | dT kvs=>
  obtain ⟨z,y,xs,r,ob,es,ep,e,c⟩:=x
  exact ⟨z,y,xs,Paired.mapP r fun p q z=>⟨z.1,ht _ _ z.2.1,z.2.2⟩,ob,es,ep,k _ _ (.inl rfl) e,c⟩
 | set S n=>obtain ⟨ob,es,ep,t,e,c⟩:=x;exact ⟨ob,es,ep,t,k _ _ (.inl rfl) e,c⟩
 | ins C dx fs=>
  obtain ⟨d,z,ne,e,mA,⟨od,es,ep,e2,c⟩,r⟩:=x
  exact ⟨ho _ d,z,ne,k _ _ (.inl rfl) e,mA,⟨od,es,ep,k _ _ (.inr d) e2,c⟩,r⟩
 | own y=>obtain ⟨ob,e⟩:=x;exact ⟨ob,k _ _ (.inl rfl) e⟩
 | xd fs=>obtain ⟨mA,⟨od,es,ep,e,c⟩,r⟩:=x;exact ⟨mA,⟨od,es,ep,k _ _ (.inl rfl) e,c⟩,r⟩
 | rng lo hi=>obtain ⟨t,u,v,e⟩:=x;exact ⟨t,u,v,k _ _ (.inl rfl) e⟩
 | frz ob u ih=>obtain ⟨e,q⟩:=x;exact ⟨k _ _ (.inl rfl) e,ih q⟩
 | tbl ps=>
  have e:h.get? a=some { cls:=.none,data:=.fields ps }:=x
  show h'.get? a=some { cls:=.none,data:=.fields ps }
  exact k a _ (.inl rfl) e
 | met f y=>
  have e:h.get? a=some (z0A (.ref f) (.ref y)):=x
  show h'.get? a=some (z0A (.ref f) (.ref y))
  exact k a _ (.inl rfl) e
 | ext φ=>obtain ⟨p,⟨o,e⟩,st⟩:=x;exact ⟨st _ _ p fun o q=>k _ _ (.inl rfl) q,⟨o,k _ _ (.inl rfl) e⟩,st⟩
theorem HOk.lt (x:HOk P w H h)(e:H a=some o):a<h.objs.size:=(x a o e).lt
theorem HOk.fresh (x:HOk P w H h)(e:h.objs.size≤a):H a=none:=by
 cases q:H a with
 | none=>rfl
 | some u=>exact absurd (zW (x.lt q) e) (yY _)
theorem HOk.kept (x:HOk P w H h)(k:∀b u,h.get? b=some u→h'.get? b=some u):HOk P w H h':=fun a o e=>
 (x a o e).stay (fun b u _ q=>k b u q) (fun _ q=>q) fun _ _ q=>q
theorem HOk.laid (x:HOk P w H h)(k:∀b u,h.get? b=some u→h'.get? b=some u)(hp:h.objs.size≤a)(new:YS P w (upd H a o) h' a o):HOk P w (upd H a o) h':=fun b u e=>by
 have hn:=x.fresh hp
 by_cases hb:b=a
 ·subst hb;rw [z5] at e;cases e;exact new
 ·rw [zl hb] at e
  exact (x b u e).stay (fun c v _ q=>k c v q) (fun c q=>by rw [zl (zT q hn)];exact q) fun c xs q=>by rw [zl (zT q hn)];exact q
end
def Rd (H:Hp)(a:Addr)(u:HO):Prop:=H a=some u∨∃o,H a=some (.frz o u)
theorem Rd.ok {P:Program}{w:World}{H:Hp}{h:Heap}{a:Addr}{u:HO}(r:Rd H a u)(x:HOk P w H h):YS P w H h a u:=by
 rcases r with r | ⟨o,r⟩
 ·exact x a u r
 ·obtain ⟨_,q⟩:=x a _ r
  exact q
def Mut:Option HO→Prop
 | some (.lst _)=>True
 | some (.dK _)=>True
 | some (.dT _)=>True
 | some (.set _ _)=>True
 | some (.ins _ _ _)=>True
 | some (.ext _)=>True
 | _=>False
section
variable {P:Program}{w:World}{H:Hp}{h h':Heap}{x e:Addr}{o':HO}
theorem HOk.write (ok:HOk P w H h)(mu:Mut (H x))(he:e=x∨H e=some (.own x))(k:∀b u,b≠e→h.get? b=some u→h'.get? b=some u)(heo:∃u,h'.get? e=some u)
  (new:YS P w (upd H x o') h' x o'):HOk P w (upd H x o') h':=fun b u q=>by
 have nown:∀c y,H c=some (.own y)→c≠x:=fun c y r z=>by subst z;rw [r] at mu;exact mu
 have ntup:∀c xs,H c=some (.tup xs)→c≠x:=fun c xs r z=>by subst z;rw [r] at mu;exact mu
 by_cases hb:b=x
 ·subst hb;rw [z5] at q;cases q;exact new
 ·rw [zl hb] at q
  by_cases hbe:b=e
  ·have q':H b=some (.own x):=by
    rcases he with z | z
    ·exact absurd (hbe.trans z) hb
    ·rw [hbe];exact z
   rw [q] at q';cases q'
   obtain ⟨v,hv⟩:=heo
   exact ⟨v,by rw [hbe];exact hv⟩
  ·refine (ok b u q).stay (fun c v hc r=>k c v ?_ r) (fun c r=>by rw [zl (nown c b r)];exact r) fun c xs r=>by rw [zl (ntup c xs r)];exact r
   rcases hc with rfl | hc
   ·exact hbe
   ·rintro rfl
    rcases he with z | z
    ·exact nown c b hc z
    ·rw [hc] at z;cases z;exact hb rfl
end
structure Un (fs ex:List Addr)(H H':Hp)(h h':Heap):Prop where
 keep:∀b o,h.get? b=some o→H b=none→b ∉ fs→b ∉ ex→h'.get? b=some o
 slot:∀b o,h.get? b=some o→H b=none→b∈fs→b ∉ ex→∃sl,h'.get? b=some { o with slots:=sl }
 free:∀b o,h.get? b=some o→H b=none→b ∉ ex→H' b=none
 there:∀b o,h.get? b=some o→b ∉ ex→∃o',h'.get? b=some o'
 tups:∀b xs,H b=some (.tup xs)→H' b=some (.tup xs)
 frzs:∀b o u,H b=some (.frz o u)→H' b=some (.frz o u)
 tbls:∀b ps,H b=some (.tbl ps)→∃more,H' b=some (.tbl (ps++more))
section
variable {fs fs' ex ex':List Addr}{H H1 H2:Hp}{h h1 h2 h':Heap}{a x e:Addr}{o:HO}
theorem Un.any (u:Un fs ex H H1 h h1){b:Addr}{ob:Obj}(q:h.get? b=some ob)(n:H b=none)(hx:b ∉ ex):∃sl,h1.get? b=some { ob with slots:=sl }:=by
 by_cases hb:b∈fs
 ·exact u.slot b ob q n hb hx
 ·exact ⟨ob.slots,u.keep b ob q n hb hx⟩
theorem Un.kept (k:∀b u,h.get? b=some u→h'.get? b=some u):Un fs ex H H h h':=
 ⟨fun b ob q _ _ _=>k b ob q,fun b ob q _ _ _=>⟨ob.slots,k b ob q⟩,fun _ _ _ n _=>n,fun b ob q _=>⟨ob,k b ob q⟩,fun _ _ q=>q,fun _ _ _ q=>q,fun _ ps q=>⟨#[],by rw [q];simp⟩⟩
theorem Un.refl:Un fs ex H H h h:=Un.kept fun _ _ q=>q
theorem Un.laid (k:∀b u,h.get? b=some u→h'.get? b=some u)(hp:h.objs.size≤a)(hn:H a=none):Un fs ex H (upd H a o) h h' where
 keep:=fun b u q _ _ _=>k b u q
 slot:=fun b u q _ _ _=>⟨u.slots,k b u q⟩
 free:=fun b u q n _=>by rw [zl (yF (zW (zC q) hp))];exact n
 there:=fun b u q _=>⟨u,k b u q⟩
 tups:=fun b xs q=>by rw [zl (zT q hn)];exact q
 frzs:=fun b u xs q=>by rw [zl (zT q hn)];exact q
 tbls:=fun b ps q=>⟨#[],by rw [zl (zT q hn),q];simp⟩
theorem Un.write (mu:Mut (H x))(he:e=x∨H e=some (.own x))(k:∀b u,b≠e→h.get? b=some u→h'.get? b=some u)(heo:∃u,h'.get? e=some u):Un fs ex H (upd H x o) h h':=by
 have hx:∀b,H b=none→b≠x:=fun b n z=>by subst z;rw [n] at mu;exact mu
 have hb:∀b,H b=none→b≠e:=fun b n z=>by
  subst z
  rcases he with r | r
  ·exact hx b n r
  ·rw [n] at r;cases r
 have hm:∀b u,H b=some u→¬Mut (some u)→b≠x:=fun b u q nm z=>by subst z;rw [q] at mu;exact nm mu
 refine ⟨fun b u q n _ _=>k b u (hb b n) q,fun b u q n _ _=>⟨u.slots,k b u (hb b n) q⟩,fun b u q n _=>by rw [zl (hx b n)];exact n,fun b u q _=>?_,
  fun b xs q=>by rw [zl (hm b _ q fun z=>z)];exact q,fun b u xs q=>by rw [zl (hm b _ q fun z=>z)];exact q,fun b ps q=>⟨#[],by rw [zl (hm b _ q fun z=>z),q];simp⟩⟩
 by_cases hbe:b=e
 ·subst hbe;exact heo
 ·exact ⟨u,k b u hbe q⟩
end
def trk (h:Heap)(H:Hp):List Addr:=(zf h.objs.size).filter fun a=>(H a).isSome
def z3u (h:Heap)(H:Hp):Heap:=Jb h (trk h H)
theorem z9N (h:Heap)(H:Hp):(z3u h H).objs.size=h.objs.size:=PySem.W.hideAll_size _ _
theorem z6r {h:Heap}{H:Hp}{b:Addr}{o:Obj}(e:h.get? b=some o)(n:H b=none):(z3u h H).get? b=some o:=
 qS _ e fun hm=>by
  have q:(H b).isSome=true:=(yg.mp hm).2
  rw [n] at q;simp at q
theorem of_hidT {h:Heap}{H:Hp}{b:Addr}{o:Obj}(e:(z3u h H).get? b=some o):h.get? b=some o∧H b=none:=by
 have e':h.get? b=some o:=QN (trk h H) e
 refine ⟨e',?_⟩
 cases q:H b with
 | none=>rfl
 | some x=>
  have hm:b∈trk h H:=yg.mpr ⟨YX.mpr (zC e'),by simp [q]⟩
  have z:(z3u h H).get? b=none:=qA (trk h H) hm
  rw [z] at e;cases e
end L2
namespace L2
open PySem PySem.Spec PyProof.Rows
structure Mod (K:z4)(mg:Str→Option Value)(base:Heap):Prop where
 kin:K.In base
 glob:base.Ns mainGlobals mg
 blt:∃mb,base.Ns builtinsNs mb∧∀x:Str,x≠"__name__"→mb x=bootBuiltins x
 nolimit:base.NoLimit
structure Cx where
 prog:Program
 w:World
 K:z4
 mg:Str→Option Value
 base:Heap
 A:Around
 N:List Str
 s_0:Shared
 H_0:Hp
 env:Env
 outer:List Env
 stack:List Env
 ex:List Addr
 fn:Str→Bool
 calm:Bool
 pn:List (Addr×Obj)
 xe:Value→Shared→Prop
def frs (l:List Env):List Addr:=l.filterMap (·.frame)
abbrev Cx.fs (X:Cx):List Addr:=frs X.outer
def Vis (sc:Scope)(x:Str):Prop:=sc.names.lookup x=some .local∨sc.names.lookup x=some .cell∨sc.names.lookup x=some .free
def Loc (sc:Scope)(x:Str):Prop:=sc.names.lookup x=some .local∨sc.names.lookup x=some .cell
def Look (env:Env)(h:Heap)(m:Str→Option Value)(x:Str)(u:Value):Prop:=
 (env.kindOf x=some .local∧m x=some u)∨((env.kindOf x=some .cell∨env.kindOf x=some .free)∧∃c,env.cells.lookup x=some c∧h.IsCell c (some u))
structure Cx.Ok (X:Cx):Prop where
 mod:Mod X.K X.mg X.base
 kind:X.env.scope.kind=.function
 glob:X.env.globals=mainGlobals
 blt:X.env.builtins=builtinsNs
 above:X.s_0.heap.objs.size≤X.env.locals
 inj:∀x y c,X.env.cells.lookup x=some c→X.env.cells.lookup y=some c→x=y
 has:∀x,(X.env.kindOf x=some .cell∨X.env.kindOf x=some .free)→∃c,X.env.cells.lookup x=some c
 cab:∀x c,X.fn x=true→X.env.cells.lookup x=some c→X.s_0.heap.objs.size≤c
 hd:X.calm=true→X.A.handled=none
 frames:X.A.frames=some X.stack
 stk:X.stack=X.outer∨(X.stack=X.env::X.outer∧X.env.frame=some X.env.locals)
 exf:∀b∈X.ex,b≠X.env.locals∧∀x c,X.env.cells.lookup x=some c→c≠b
 bs:∀b o,X.base.get? b=some o→X.s_0.heap.get? b=some o∧X.H_0 b=none
 bsz:X.base.objs.size≤X.s_0.heap.objs.size
 noex:∀b o,X.base.get? b=some o→b ∉ X.ex
 exfs:∀b∈X.ex,b ∉ X.fs
 funs:X.s_0.heap.FunFrames X.base X.outer
 frf:∀b∈X.fs,X.H_0 b=none
structure Inv (X:Cx)(pins:List (Addr×Obj))(σ:List (Option V))(H:Hp)(s:Shared):Prop where
 ok:X.Ok
 os:s.os=X.s_0.os
 bare:AllBare s.gens
 base:Un X.fs X.ex X.H_0 H X.s_0.heap s.heap
 loc:∃m,s.heap.Ns X.env.locals m∧∀(i:Nat) (x:Str) (v:V),X.N[i]?=some x→σ[i]?=some (some v)→Vis X.env.scope x→∃u,jW v u∧Look X.env s.heap m x u
 cell:∀x c,X.env.cells.lookup x=some c→∃v,s.heap.IsCell c v
 free:H X.env.locals=none
 freeC:∀x c,X.env.cells.lookup x=some c→H c=none
 pin:∀p∈X.pn++pins,s.heap.get? p.1=some p.2∧H p.1=none∧p.1≠X.env.locals∧p.1 ∉ X.fs∧∀v,p.2.data≠.cell v
 hok:HOk X.prog X.w H s.heap
 len:σ.length=X.N.length
section
variable {X:Cx}{pins:List (Addr×Obj)}{σ:List (Option V)}{H H':Hp}{s:Shared}{h':Heap}
theorem Cx.Ok.nofr (ok:X.Ok){b:Addr}{o:Obj}(e:X.base.get? b=some o):b ∉ X.fs:=fun hb=>by
 have:=(ok.funs.mem hb).1
 rw [e] at this;cases this
theorem Inv.bs (I:Inv X pins σ H s):∀b o,X.base.get? b=some o→s.heap.get? b=some o∧H b=none:=fun b o e=>
 ⟨I.base.keep b o (I.ok.bs b o e).1 (I.ok.bs b o e).2 (I.ok.nofr e) (I.ok.noex b o e),I.base.free b o (I.ok.bs b o e).1 (I.ok.bs b o e).2 (I.ok.noex b o e)⟩
theorem Inv.bk (I:Inv X pins σ H s):∀b o,X.base.get? b=some o→s.heap.get? b=some o:=fun b o e=>(I.bs b o e).1
theorem Inv.mod (I:Inv X pins σ H s):Mod X.K X.mg X.base:=I.ok.mod
theorem Inv.kIn (I:Inv X pins σ H s):X.K.In s.heap:=I.ok.mod.kin.keeps I.bk
theorem Inv.nolimit (I:Inv X pins σ H s):s.heap.NoLimit:=I.ok.mod.nolimit.keeps I.bk
theorem Inv.lt (I:Inv X pins σ H s):X.env.locals<s.heap.objs.size:=let ⟨_,hn,_⟩:=I.loc;hn.lt
theorem Inv.sz (I:Inv X pins σ H s):X.s_0.heap.objs.size≤s.heap.objs.size:=zd I.ok.above (J8 I.lt)
theorem Inv.nofs (I:Inv X pins σ H s){a:Addr}(h:s.heap.objs.size≤a):a ∉ X.fs:=fun hb=>by
 obtain ⟨_,o,ho,_⟩:=I.ok.funs.mem hb
 exact absurd (zW (zC ho) (zd I.sz h)) (yY _)
theorem Inv.cne (I:Inv X pins σ H s):∀x c,X.env.cells.lookup x=some c→c≠X.env.locals:=fun x c e z=>by
 obtain ⟨v,o,ho,hd⟩:=I.cell x c e
 obtain ⟨m,⟨o',es,ep,ho',hd',_⟩,_⟩:=I.loc
 rw [z,ho'] at ho;cases ho;rw [hd'] at hd;cases hd
theorem Inv.funs (I:Inv X pins σ H s):s.heap.FunFrames X.base X.outer:=by
 have all:∀(l:List Env),(∀b∈frs l,b∈X.fs)→X.s_0.heap.FunFrames X.base l→s.heap.FunFrames X.base l:=by
  intro l
  induction l with
  | nil=>intro _ _;trivial
  | cons env r ih=>
   intro hs hl
   obtain ⟨hk,⟨L,o,hf,hn,ho,hd⟩,hr⟩:=hl
   have hL:L∈X.fs:=hs L (by unfold frs;rw [Zs,hf];exact zn)
   obtain ⟨sl,e⟩:=I.base.slot L o ho (I.ok.frf L hL) hL fun z=>I.ok.exfs L z hL
   exact ⟨hk,⟨L,_,hf,hn,e,hd⟩,ih (fun b hb=>hs b (by unfold frs;rw [Zs,hf];exact zg _ hb)) hr⟩
 exact all X.outer (fun _ hb=>hb) I.ok.funs
theorem Inv.stack (I:Inv X pins σ H s):s.heap.FunFrames X.base X.stack:=by
 rcases I.ok.stk with e | ⟨e,hf⟩
 ·rw [e];exact I.funs
 ·rw [e]
  obtain ⟨m,hn,_⟩:=I.loc
  refine .cons (by rw [I.ok.kind];decide) hf hn ?_ I.funs
  exact za6 (zd I.ok.bsz I.ok.above)
theorem Inv.stkSub (I:Inv X pins σ H s):∀b∈frs X.stack,b∈X.env.locals::X.fs:=fun b hb=>by
 rcases I.ok.stk with e | ⟨e,hf⟩
 ·rw [e] at hb;exact zg _ hb
 ·rw [e] at hb
  unfold frs at hb
  rw [Zs,hf] at hb
  exact hb
theorem Inv.stkFree (I:Inv X pins σ H s):∀b∈frs X.stack,H b=none:=fun b hb=>by
 rcases zx.mp (I.stkSub b hb) with e | hb
 ·rw [e];exact I.free
 ·obtain ⟨_,o,ho,_⟩:=I.ok.funs.mem hb
  exact I.base.free b o ho (I.ok.frf b hb) fun z=>I.ok.exfs b z hb
theorem Inv.step {g':Array GenState}{t':Nat}{d':Drawn}{ch:List Addr}(I:Inv X pins σ H s)
  (hch:∀b∈ch,(b∈X.ex∨X.s_0.heap.objs.size≤b)∧b≠X.env.locals∧(∀x c,X.env.cells.lookup x=some c→c≠b)∧∀p∈X.pn++pins,p.1≠b)
  (keep:∀b o,b≠X.env.locals→b ∉ X.fs→b ∉ ch→s.heap.get? b=some o→H b=none→h'.get? b=some o)
  (slot:∀b o,b≠X.env.locals→b∈X.fs→b ∉ ch→s.heap.get? b=some o→H b=none→∃sl,h'.get? b=some { o with slots:=sl }) (free:∀b o,b ∉ ch→s.heap.get? b=some o→H b=none→H' b=none)
  (there:∀b o,b ∉ ch→s.heap.get? b=some o→∃o',h'.get? b=some o')
  (tups:∀b xs,H b=some (.tup xs)→H' b=some (.tup xs)) (frzs:∀b o u,H b=some (.frz o u)→H' b=some (.frz o u)) (tbls:∀b ps,H b=some (.tbl ps)→∃more,H' b=some (.tbl (ps++more)))
  (ns:∀m,s.heap.Ns X.env.locals m→h'.Ns X.env.locals m) (hok:HOk X.prog X.w H' h') (hg:AllBare g') :
  Inv X pins σ H' { s with heap:=h',gens:=g',drawn:=d',toks:=t' }:=by
 have neL:∀b o,X.s_0.heap.get? b=some o→b≠X.env.locals:=fun b o e=>yF (zW (zC e) I.ok.above)
 have neC:∀b o,X.s_0.heap.get? b=some o→b ∉ X.ex→b ∉ ch:=fun b o e hx hb=>by
  rcases (hch b hb).1 with z | z
  ·exact hx z
  ·exact absurd (zW (zC e) z) (yY _)
 have cellK:∀x c,X.env.cells.lookup x=some c→∀v,s.heap.IsCell c v→h'.IsCell c v:=fun x c e v ⟨o,ho,hd⟩=>by
  have nch:c ∉ ch:=fun z=>(hch c z).2.2.1 x c e rfl
  by_cases hc:c∈X.fs
  ·obtain ⟨sl,q⟩:=slot c o (I.cne x c e) hc nch ho (I.freeC x c e)
   exact ⟨_,q,hd⟩
  ·exact ⟨o,keep c o (I.cne x c e) hc nch ho (I.freeC x c e),hd⟩
 refine ⟨I.ok,I.os,hg,⟨fun b o e n hb hx=>?_,fun b o e n hb hx=>?_,fun b o e n hx=>?_,fun b o e hx=>?_,fun b xs e=>tups b xs (I.base.tups b xs e),fun b o xs e=>frzs b o xs (I.base.frzs b o xs e),fun b ps e=>?_⟩,?_,fun x c e=>?_,?_,fun x c e=>?_,fun p hp=>?_,hok,I.len⟩
 ·exact keep b o (neL b o e) hb (neC b o e hx) (I.base.keep b o e n hb hx) (I.base.free b o e n hx)
 ·obtain ⟨sl,e1⟩:=I.base.slot b o e n hb hx
  obtain ⟨sl',e2⟩:=slot b _ (neL b o e) hb (neC b o e hx) e1 (I.base.free b o e n hx)
  exact ⟨sl',e2⟩
 ·obtain ⟨o',e1⟩:=I.base.there b o e hx
  exact free b o' (neC b o e hx) e1 (I.base.free b o e n hx)
 ·obtain ⟨o',e1⟩:=I.base.there b o e hx
  exact there b o' (neC b o e hx) e1
 ·obtain ⟨m1,e1⟩:=I.base.tbls b ps e
  obtain ⟨m2,e2⟩:=tbls b _ e1
  exact ⟨m1++m2,by rw [e2,Array.append_assoc]⟩
 ·obtain ⟨m,hn,hl⟩:=I.loc
  refine ⟨m,ns m hn,fun i x v e1 e2 e3=>?_⟩
  obtain ⟨u,r,l⟩:=hl i x v e1 e2 e3
  refine ⟨u,r,?_⟩
  rcases l with l | ⟨k,c,e,z⟩
  ·exact .inl l
  ·exact .inr ⟨k,c,e,cellK x c e _ z⟩
 ·obtain ⟨v,z⟩:=I.cell x c e
  exact ⟨v,cellK x c e v z⟩
 ·obtain ⟨m,⟨o,_,_,ho,_⟩,_⟩:=I.loc
  exact free _ o (fun z=>(hch _ z).2.1 rfl) ho I.free
 ·obtain ⟨v,o,ho,hd⟩:=I.cell x c e
  exact free c o (fun z=>(hch c z).2.2.1 x c e rfl) ho (I.freeC x c e)
 ·obtain ⟨e,n,ne,nf,d⟩:=I.pin p hp
  have nch:p.1 ∉ ch:=fun z=>(hch p.1 z).2.2.2 p hp rfl
  exact ⟨keep p.1 p.2 ne nf nch e n,free p.1 p.2 nch e n,ne,nf,d⟩
theorem Inv.un {t':Nat}(I:Inv X pins σ H s)(u:Un X.fs [] H H' s.heap h')(hok:HOk X.prog X.w H' h'):Inv X pins σ H' { s with heap:=h',toks:=t' }:=by
 obtain ⟨m,⟨o,es,ep,ho,r⟩,_⟩:=id I.loc
 obtain ⟨sl,hL⟩:=u.any ho I.free (by simp)
 exact I.step (g':=s.gens) (d':=s.drawn) (ch:=[]) (fun _ z=>nomatch z) (fun b o _ hb _ e n=>u.keep b o e n hb (by simp)) (fun b o _ hb _ e n=>u.slot b o e n hb (by simp)) (fun b o _ e n=>u.free b o e n (by simp)) (fun b o _ e=>u.there b o e (by simp)) u.tups u.frzs u.tbls (fun m' hm=>by
  obtain ⟨o',es',ep',ho',r'⟩:=hm
  rw [ho] at ho';cases ho'
  exact ⟨_,es',ep',hL,r'⟩) hok I.bare
theorem Inv.call {g':Array GenState}{t':Nat}{d':Drawn}{ch:List Addr}(I:Inv X pins σ H s)(u:Un (frs X.stack) ch H H' s.heap h')(hok:HOk X.prog X.w H' h')(hg:AllBare g')
  (hch:∀b∈ch,(b∈X.ex∨X.s_0.heap.objs.size≤b)∧b≠X.env.locals∧(∀x c,X.env.cells.lookup x=some c→c≠b)∧∀p∈X.pn++pins,p.1≠b) :
  Inv X pins σ H' { s with heap:=h',gens:=g',drawn:=d',toks:=t' }:=by
 obtain ⟨m,⟨o,es,ep,ho,r⟩,_⟩:=id I.loc
 obtain ⟨sl,hL⟩:=u.any ho I.free fun z=>(hch _ z).2.1 rfl
 exact I.step (ch:=ch) hch (fun b o hL hb hc e n=>u.keep b o e n (fun z=>(zx.mp (I.stkSub b z)).elim hL hb) hc) (fun b o _ _ hc e n=>u.any e n hc) (fun b o hc e n=>u.free b o e n hc) (fun b o hc e=>u.there b o e hc) u.tups u.frzs u.tbls (fun m' hm=>by
  obtain ⟨o',es',ep',ho',r'⟩:=hm
  rw [ho] at ho';cases ho'
  exact ⟨_,es',ep',hL,r'⟩) hok hg
theorem Inv.turned {t':Nat}{it:Addr}(I:Inv X pins σ H s)(k:∀b o,b≠it→s.heap.get? b=some o→h'.get? b=some o)(hn:H it=none)(hL:it≠X.env.locals)
  (h1:it∈X.ex∨X.s_0.heap.objs.size≤it) (h2:∀x c,X.env.cells.lookup x=some c→c≠it) (h3:∀p∈X.pn++pins,p.1≠it):Inv X pins σ H { s with heap:=h',toks:=t' }:=by
 have nit:∀b u,H b=some u→b≠it:=fun b u e z=>by rw [z,hn] at e;cases e
 refine I.step (g':=s.gens) (d':=s.drawn) (ch:=[it]) (fun b hb=>?_) (fun b o _ _ hc e _=>k b o (fun z=>hc (by simp [z])) e) (fun b o _ _ hc e _=>⟨o.slots,k b o (fun z=>hc (by simp [z])) e⟩) (fun _ _ _ _ n=>n)
  (fun b o hc e=>⟨o,k b o (fun z=>hc (by simp [z])) e⟩) (fun _ _ e=>e) (fun _ _ _ e=>e) (fun b ps e=>⟨#[],by rw [e];simp⟩) (fun m hm=>?_) (fun b u e=>?_) I.bare
 ·have e:b=it:=by simpa using hb
  subst e
  exact ⟨h1,hL,h2,h3⟩
 ·obtain ⟨o,es,ep,ho,r⟩:=hm
  exact ⟨o,es,ep,k _ o (j1 hL) ho,r⟩
 ·refine (I.hok b u e).stay (fun c v hc q=>k c v ?_ q) (fun _ q=>q) fun _ _ q=>q
  rcases hc with z | z
  ·rw [z];exact nit b u e
  ·exact nit c _ z
theorem Inv.tok (I:Inv X pins σ H s)(t:Nat):Inv X pins σ H { s with toks:=t }:=I.un (h':=s.heap) (t':=t) Un.refl I.hok
theorem Inv.kept {t':Nat}(I:Inv X pins σ H s)(k:∀b u,s.heap.get? b=some u→h'.get? b=some u):Inv X pins σ H { s with heap:=h',toks:=t' }:=I.un (Un.kept k) (I.hok.kept k)
theorem Inv.laid {a:Addr}{o:HO}{t':Nat}(I:Inv X pins σ H s)(k:∀b u,s.heap.get? b=some u→h'.get? b=some u)(hp:s.heap.objs.size≤a)(new:YS X.prog X.w (upd H a o) h' a o) :
 Inv X pins σ (upd H a o) { s with heap:=h',toks:=t' }:=I.un (Un.laid k hp (I.hok.fresh hp)) (I.hok.laid k hp new)
theorem Inv.write {x e:Addr}{o:HO}{t':Nat}(I:Inv X pins σ H s)(mu:Mut (H x))(he:e=x∨H e=some (.own x))(k:∀b u,b≠e→s.heap.get? b=some u→h'.get? b=some u)(heo:∃u,h'.get? e=some u)
 (new:YS X.prog X.w (upd H x o) h' x o):Inv X pins σ (upd H x o) { s with heap:=h',toks:=t' }:=I.un (Un.write mu he k heo) (I.hok.write mu he k heo new)
theorem Inv.weak {σ':List (Option V)}(I:Inv X pins σ H s)(hl:σ'.length=σ.length)(w:∀(i:Nat) v,σ'[i]?=some (some v)→σ[i]?=some (some v)):Inv X pins σ' H s:=
 ⟨I.ok,I.os,I.bare,I.base,let ⟨m,hn,hl'⟩:=I.loc;⟨m,hn,fun i x v e1 e2 e3=>hl' i x v e1 (w i v e2) e3⟩,I.cell,I.free,I.freeC,I.pin,I.hok,hl.trans I.len⟩
theorem Inv.pins_of {pins':List (Addr×Obj)}(I:Inv X pins σ H s)(h:∀p∈pins',s.heap.get? p.1=some p.2∧H p.1=none∧p.1≠X.env.locals∧p.1 ∉ X.fs∧∀v,p.2.data≠.cell v):Inv X pins' σ H s:=
 ⟨I.ok,I.os,I.bare,I.base,I.loc,I.cell,I.free,I.freeC,fun p hp=>(zQ.mp hp).elim (fun z=>I.pin p (zY _ z)) (h p),I.hok,I.len⟩
theorem z0d {N:List Str}(hN:N.Nodup){i j:Nat}{x:Str}(a:N[i]?=some x)(b:N[j]?=some x):i=j:=by
 obtain ⟨h1,e1⟩:=zo.mp a
 obtain ⟨h2,e2⟩:=zo.mp b
 exact (List.getElem_inj hN).mp (e1.trans e2.symm)
theorem z0F {M:Model}{A:Around}{E:Value→Shared→Prop}{i:Nat}{x:Str}{v:V}{u:Value}{Q:Unit→Shared→Prop}(I:Inv X pins σ H s)(hN:X.N.Nodup)(hi:X.N[i]?=some x)(hx:Loc X.env.scope x)(r:jW v u)
  (h:∀s',Inv X pins (σ.set i (some v)) H s'→(∃a,z1N a s.heap s'.heap∧(a=X.env.locals∨X.env.cells.lookup x=some a))→Q () s') (hf:X.fn x=true∨X.env.scope.names.lookup x=some .local:=by first | exact .inl rfl | exact .inr rfl | assumption):wpAny M A (storeName X.env x u) Q E s:=by
 obtain ⟨m,hn,hl⟩:=id I.loc
 have hcls:(X.env.scope.kind==.class||(X.env.scope.kind==.module&&X.env.locals != X.env.globals))=false:=by rw [I.ok.kind];rfl
 have hiσ:i < σ.length:=by rw [I.len];exact (zo.mp hi).1
 have cne:=I.cne
 have tracked:∀{a:Addr} {h':Heap},(∃o,s.heap.get? a=some o∧H a=none)→z1N a s.heap h'→HOk X.prog X.w H h':=fun {a h'} ha hs b ob e=>by
  obtain ⟨_,_,hfree⟩:=ha
  refine (I.hok b ob e).stay (fun c w' hc q=>(hs.2 c ?_).trans q) (fun _ q=>q) fun _ _ q=>q
  rintro rfl
  rcases hc with rfl | hc
  ·rw [hfree] at e;cases e
  ·rw [hfree] at hc;cases hc
 rcases hx with hk | hk
 ·refine wpAny_storeName_local hk hn (fun h' hn' hs=>?_) hcls
  obtain ⟨oL,_,_,hoL,_⟩:=id hn
  refine h _ ⟨I.ok,I.os,I.bare,⟨fun b o e n hb hx=>?_,fun b o e n hb hx=>?_,I.base.free,fun b o e hx=>?_,I.base.tups,I.base.frzs,I.base.tbls⟩,⟨_,hn',fun j y v' e1 e2 e3=>?_⟩,fun y c e=>?_,I.free,I.freeC,fun p hp=>?_,tracked ⟨oL,hoL,I.free⟩ hs,by simpa using I.len⟩ ⟨_,hs,.inl rfl⟩
  ·exact (hs.2 b (yF (zW (zC e) I.ok.above))).trans (I.base.keep b o e n hb hx)
  ·obtain ⟨sl,e1⟩:=I.base.slot b o e n hb hx
   exact ⟨sl,(hs.2 b (yF (zW (zC e) I.ok.above))).trans e1⟩
  ·obtain ⟨o',e1⟩:=I.base.there b o e hx
   exact ⟨o',(hs.2 b (yF (zW (zC e) I.ok.above))).trans e1⟩
  ·by_cases hj:j=i
   ·subst hj
    rw [hi] at e1;cases e1
    rw [UL hiσ] at e2
    cases e2
    exact ⟨u,r,.inl ⟨hk,by simp⟩⟩
   ·rw [QH (j1 hj)] at e2
    obtain ⟨u',r',q⟩:=hl j y v' e1 e2 e3
    refine ⟨u',r',?_⟩
    rcases q with ⟨k,e⟩ | ⟨k,c,e,z⟩
    ·refine .inl ⟨k,?_⟩
     have:y≠x:=fun e=>hj (z0d hN e1 (e ▸ hi))
     simp [this,e]
    ·exact .inr ⟨k,c,e,z.sameBut hs (cne y c e)⟩
  ·obtain ⟨w',z⟩:=I.cell y c e
   exact ⟨w',z.sameBut hs (cne y c e)⟩
  ·obtain ⟨e,n,ne,nf,d⟩:=I.pin p hp
   exact ⟨(hs.2 p.1 ne).trans e,n,ne,nf,d⟩
 ·have hfn:X.fn x=true:=by
   rcases hf with z | z
   ·exact z
   ·rw [z] at hk;cases hk
  obtain ⟨c,hc⟩:=I.ok.has x (.inl hk)
  obtain ⟨w',z⟩:=I.cell x c hc
  refine wpAny_storeName_cell I.ok.kind hk hc z (fun h' hc' hs=>?_)
  obtain ⟨oc,hoc,hocd⟩:=id z
  refine h { s with heap:=h' } ⟨I.ok,I.os,I.bare,⟨fun b o e n hb hx=>?_,fun b o e n hb hx=>?_,I.base.free,fun b o e hx=>?_,I.base.tups,I.base.frzs,I.base.tbls⟩,⟨m,hn.sameBut hs (j1 (cne x c hc)),fun j y v' e1 e2 e3=>?_⟩,fun y c' e=>?_,I.free,I.freeC,fun p hp=>?_,tracked ⟨oc,hoc,I.freeC x c hc⟩ hs,by simpa using I.len⟩ ⟨c,hs,.inr hc⟩
  ·exact (hs.2 b (yF (zW (zC e) (I.ok.cab x c hfn hc)))).trans (I.base.keep b o e n hb hx)
  ·obtain ⟨sl,e1⟩:=I.base.slot b o e n hb hx
   exact ⟨sl,(hs.2 b (yF (zW (zC e) (I.ok.cab x c hfn hc)))).trans e1⟩
  ·obtain ⟨o',e1⟩:=I.base.there b o e hx
   exact ⟨o',(hs.2 b (yF (zW (zC e) (I.ok.cab x c hfn hc)))).trans e1⟩
  ·by_cases hj:j=i
   ·subst hj
    rw [hi] at e1;cases e1
    rw [UL hiσ] at e2
    cases e2
    exact ⟨u,r,.inr ⟨.inl hk,c,hc,hc'⟩⟩
   ·rw [QH (j1 hj)] at e2
    obtain ⟨u',r',q⟩:=hl j y v' e1 e2 e3
    refine ⟨u',r',?_⟩
    rcases q with q | ⟨k,c',e,z'⟩
    ·exact .inl q
    ·refine .inr ⟨k,c',e,z'.sameBut hs ?_⟩
     rintro rfl
     exact hj (z0d hN e1 (I.ok.inj _ _ _ e hc ▸ hi))
  ·by_cases hcc:c'=c
   ·subst hcc;exact ⟨_,hc'⟩
   ·obtain ⟨w2,z2⟩:=I.cell y c' e
    exact ⟨w2,z2.sameBut hs hcc⟩
  ·obtain ⟨e,n,ne,nf,d⟩:=I.pin p hp
   refine ⟨(hs.2 p.1 ?_).trans e,n,ne,nf,d⟩
   intro q
   rw [q,hoc] at e
   have q':oc=p.2:=zG e
   exact d w' (by rw [←q'];exact hocd)
theorem QT {M:Model}{A:Around}{E:Value→Shared→Prop}{i:Nat}{x:Str}{v:V}{u:Value}{Q:Unit→Shared→Prop}(I:Inv X pins σ H s)(hN:X.N.Nodup)(hi:X.N[i]?=some x)(hx:Loc X.env.scope x)(r:jW v u)
  (h:∀s',Inv X pins (σ.set i (some v)) H s'→Q () s') (hf:X.fn x=true∨X.env.scope.names.lookup x=some .local:=by first | exact .inl rfl | exact .inr rfl | assumption):wpAny M A (storeName X.env x u) Q E s:=
 z0F I hN hi hx r (fun s' I' _=>h s' I') hf
theorem Inv.call' {s':Shared}{ch:List Addr}(I:Inv X pins σ H s)(ho:s'.os=s.os)(u:Un (frs X.stack) ch H H' s.heap s'.heap)(hok:HOk X.prog X.w H' s'.heap)(hg:AllBare s'.gens)
  (hch:∀b∈ch,(b∈X.ex∨X.s_0.heap.objs.size≤b)∧b≠X.env.locals∧(∀x c,X.env.cells.lookup x=some c→c≠b)∧∀p∈X.pn++pins,p.1≠b):Inv X pins σ H' s':=by
 obtain ⟨h',g',d',t',o'⟩:=s'
 have e:o'=s.os:=ho
 subst e
 exact I.call (g':=g') (t':=t') (d':=d') u hok hg hch
end
abbrev XK:=Value→Option Addr→Hp→Prop
abbrev St:=List (Option V)
abbrev VK:=V→Hp→Prop
abbrev TE:=St→Hp→VK→Prop
abbrev TT:=St→Hp→(Bool→Hp→Prop)→Prop
abbrev TA:=St→Hp→(List V→Hp→Prop)→Prop
structure GN where
 nx:St→Hp→Prop
 rt:VK
 bk:St→Hp→Prop:=fun _ _=>False
 ct:St→Hp→Prop:=fun _ _=>False
abbrev TS:=GN→St→Hp→Prop
inductive EP (X:Cx)(pins:List (Addr×Obj))(σ:St)(Q:VK)(u:Value)(s':Shared):Prop | mk (v:V) (H':Hp) (_:Inv X pins σ H' s') (_:jW v u) (_:Q v H')
def TP (X:Cx)(pins:List (Addr×Obj))(σ:St)(Q:Bool→Hp→Prop)(b:Bool)(s':Shared):Prop:=∃H',Inv X pins σ H' s'∧Q b H'
inductive AP (X:Cx)(pins:List (Addr×Obj))(σ:St)(Q:List V→Hp→Prop)(us:List Value)(s':Shared):Prop | mk (vs:List V) (H':Hp) (_:Inv X pins σ H' s') (_:yO vs us) (_:Q vs H')
def SP (X:Cx)(pins:List (Addr×Obj))(D:GN)(f:Flow)(s':Shared):Prop:=
 match f with
 | .next=>∃σ' H',Inv X pins σ' H' s'∧D.nx σ' H'
 | .brk=>∃σ' H',Inv X pins σ' H' s'∧D.bk σ' H'
 | .cont=>∃σ' H',Inv X pins σ' H' s'∧D.ct σ' H'
 | .ret u=>∃v σ' H',Inv X pins σ' H' s'∧jW v u∧D.rt v H'
def PE (X:Cx)(e:Expr)(t:TE):Prop:=
 ∀(pins:List (Addr×Obj)) (s:Shared) (σ:St) (H:Hp) (Q:VK),Inv X pins σ H s→t σ H Q→wpAny (model X.prog X.w) X.A (eval e X.env) (EP X pins σ Q) X.xe s
def PT (X:Cx)(e:Expr)(t:TT):Prop:=
 ∀(pins:List (Addr×Obj)) (s:Shared) (σ:St) (H:Hp) (Q:Bool→Hp→Prop),Inv X pins σ H s→t σ H Q→wpAny (model X.prog X.w) X.A (isTrue e X.env (eval e X.env)) (TP X pins σ Q) X.xe s
def PW (X:Cx)(e:Expr)(t:TT):Prop:=
 ∀(whole:Sem Value) (pins:List (Addr×Obj)) (s:Shared) (σ:St) (H:Hp) (Q:Bool→Hp→Prop),Inv X pins σ H s→t σ H Q→wpAny (model X.prog X.w) X.A (isTrue e X.env whole) (TP X pins σ Q) X.xe s
theorem PW.pt {X:Cx}{e:Expr}{t:TT}(h:PW X e t):PT X e t:=h _
def PA (X:Cx)(es:List Expr)(t:TA):Prop:=
 ∀(pos:Pos) (pins:List (Addr×Obj)) (s:Shared) (σ:St) (H:Hp) (Q:List V→Hp→Prop),Inv X pins σ H s→t σ H Q→wpAny (model X.prog X.w) X.A (spliced (backTo pos (starEach es X.env))) (AP X pins σ Q) X.xe s
def PS (X:Cx)(st:Stmt)(t:TS):Prop:=
 ∀(pins:List (Addr×Obj)) (s:Shared) (σ:St) (H:Hp) (D:GN),Inv X pins σ H s→t D σ H→wpAny (model X.prog X.w) X.A (exec st X.env) (SP X pins D) X.xe s
def PSs (X:Cx)(st:List Stmt)(t:TS):Prop:=
 ∀(pins:List (Addr×Obj)) (s:Shared) (σ:St) (H:Hp) (D:GN),Inv X pins σ H s→t D σ H→wpAny (model X.prog X.w) X.A (execs st X.env) (SP X pins D) X.xe s
theorem thn {α:Type}{t:Sem α}{Q Q':α→Shared→Prop}{M:Model}{A:Around}{E:Value→Shared→Prop}{s:Shared}(h:wpAny M A t Q E s)(hQ:∀a s,Q a s→Q' a s):wpAny M A t Q' E s:=wpAny_mono h hQ fun _ _ x=>x
end L2
namespace L2
open PySem PySem.Spec PyProof.Rows
section
variable {X:Cx}
inductive jc (i:Nat)(σ:St)(H:Hp)(Q:VK):Prop | mk (v:V) (_:σ[i]?=some (some v)) (_:Q v H)
def tC (v:V):TE:=fun _ H Q=>Q v H
theorem pe_var {i:Nat}{x:Str}{pos:Pos}(hN:X.N[i]?=some x)(hv:Vis X.env.scope x)(hd:(x==("__debug__":Str))=false:=by decide)(hcd:(x==("__classdict__":Str))=false:=by decide):PE X (.Name x pos) (jc i):=by
 intro pins s σ H Q I h
 obtain ⟨v,e,h⟩:=h
 obtain ⟨m,hn,hl⟩:=I.loc
 obtain ⟨u,r,l⟩:=hl i x v hN e hv
 have fin:EP X pins σ Q u s:=⟨v,H,I,r,h⟩
 rcases l with ⟨hk,hm⟩ | ⟨hk,c,hc,hcell⟩
 ·exact wpAny_Name (wpAny_loadName_local I.ok.kind hk hn hm fin) hd
 ·rcases hk with hk | hk
  ·exact wpAny_Name (wpAny_loadName_cell I.ok.kind hk hc hcell fin) hd
  ·exact wpAny_Name (wpAny_loadName_free I.ok.kind hk hc hcell fin hcd) hd
theorem yb {i j pos}:PE X (.Constant (.int i) j pos) (tC (.int i)):=fun _ _ _ H _ I h=>wpAny_Constant_int ⟨.int i,H,I.tok _,⟨_,rfl⟩,h⟩
theorem z1p {b j pos}:PE X (.Constant (.bool b) j pos) (tC (.bl b)):=fun _ _ _ H _ I h=>Constant_bool ⟨.bl b,H,I,rfl,h⟩
theorem z2L {j pos}:PE X (.Constant .none j pos) (tC .non):=fun _ _ _ H _ I h=>Constant_none ⟨.non,H,I,rfl,h⟩
def Gl (X:Cx)(x:Str):Prop:=X.env.kindOf x=some .globalImplicit
theorem qh {E:Value→Shared→Prop}{pins:List (Addr×Obj)}{s:Shared}{σ:St}{H:Hp}{x:Str}{u:Value}{pos:Pos}{Q:Value→Shared→Prop}(I:Inv X pins σ H s)(hg:Gl X x)(hm:X.mg x=some u)(h:Q u s)
  (hd:(x==("__debug__":Str))=false:=by decide):wpAny (model X.prog X.w) X.A (eval (.Name x pos) X.env) Q E s:=
 z4b I.ok.kind hg (Calls.loadGlobal_global (by rw [I.ok.glob];exact I.mod.glob.keeps I.bk) hm h) hd
theorem VW {E:Value→Shared→Prop}{pins:List (Addr×Obj)}{s:Shared}{σ:St}{H:Hp}{x:Str}{u:Value}{pos:Pos}{Q:Value→Shared→Prop}(I:Inv X pins σ H s)(hg:Gl X x)(hm:X.mg x=none)(hv:bootBuiltins x=some u)(h:Q u s)
  (hn:x≠"__name__":=by decide) (hd:(x==("__debug__":Str))=false:=by decide):wpAny (model X.prog X.w) X.A (eval (.Name x pos) X.env) Q E s:=by
 obtain ⟨mb,h1,h2⟩:=I.mod.blt
 exact z4b I.ok.kind hg (Calls.loadGlobal_builtin (by rw [I.ok.glob];exact I.mod.glob.keeps I.bk) hm (by rw [I.ok.blt];exact h1.keeps I.bk) ((h2 x hn).trans hv) h) hd
theorem z4F {x:Str}{v:V}{u:Value}{pos:Pos}(hg:Gl X x)(hm:X.mg x=some u)(r:jW v u)(hd:(x==("__debug__":Str))=false:=by decide):PE X (.Name x pos) (tC v):=
 fun _ _ _ H _ I h=>qh I hg hm ⟨v,H,I,r,h⟩ hd
variable {a b:Expr}{ta tb:TE}{pos:Pos}
inductive IsB (Q:Bool→Hp→Prop)(x:V)(H:Hp):Prop | mk (c:Bool) (_:x=.bl c) (_:Q c H)
def tB (t:TE):TT:=fun σ H Q=>t σ H (IsB Q)
theorem ZW {e:Expr}{t:TE}(h:PE X e t)(he:∀whole,isTrue e X.env whole=(do let v ←whole;standAt e.pos;holding [v] (truthy v)):=by intro _;rfl):PT X e (tB t):=by
 intro pins s σ H Q I hw
 refine isTrue_plain (thn (h pins s σ H _ I hw) fun v s1 ⟨x,H1,I1,r1,q1⟩=>?_) (he _)
 obtain ⟨d,rfl,q⟩:=q1
 cases r1
 exact wpAny_truthy_bool ⟨H1,I1,q⟩
variable {tA tB':TT}{Z2:List Expr}
def tAnd (t u:TT):TT:=fun σ H Q=>t σ H fun c H1=>if c=true then u σ H1 Q else Q false H1
def tOr (t u:TT):TT:=fun σ H Q=>t σ H fun c H1=>if c=true then Q true H1 else u σ H1 Q
def tNot (t:TT):TT:=fun σ H Q=>t σ H fun c H1=>Q (!c) H1
theorem z4w (ha:PT X a tA):PW X (.BoolOp .And [a] pos) tA:=by
 intro wh pins s σ H Q I h
 refine isTrue_and (thn (ha pins s σ H Q I h) fun c s1 e=>?_)
 cases c with
 | true=>exact isTrue_and_nil e
 | false=>exact e
theorem WD (ha:PT X a tA):PW X (.BoolOp .Or [a] pos) tA:=by
 intro wh pins s σ H Q I h
 refine isTrue_or (thn (ha pins s σ H Q I h) fun c s1 e=>?_)
 cases c with
 | false=>exact isTrue_or_nil e
 | true=>exact e
theorem z7q (ha:PT X a tA)(hb:PW X (.BoolOp .And (b::Z2) pos) tB'):PW X (.BoolOp .And (a::b::Z2) pos) (tAnd tA tB'):=by
 intro wh pins s σ H Q I h
 refine isTrue_and (thn (ha pins s σ H _ I h) fun c s1 ⟨H1,I1,q1⟩=>?_)
 cases c with
 | true=>exact hb wh pins s1 σ H1 Q I1 q1
 | false=>exact ⟨H1,I1,q1⟩
theorem qK (ha:PT X a tA)(hb:PW X (.BoolOp .Or (b::Z2) pos) tB'):PW X (.BoolOp .Or (a::b::Z2) pos) (tOr tA tB'):=by
 intro wh pins s σ H Q I h
 refine isTrue_or (thn (ha pins s σ H _ I h) fun c s1 ⟨H1,I1,q1⟩=>?_)
 cases c with
 | true=>exact ⟨H1,I1,q1⟩
 | false=>exact hb wh pins s1 σ H1 Q I1 q1
theorem z16 (ha:PT X a tA):PT X (.UnaryOp .Not a pos) (tNot tA):=by
 intro pins s σ H Q I h
 exact isTrue_not (ha pins s σ H (fun c H1=>Q (!c) H1) I h)
def tAndV (ta tb:TE):TE:=fun σ H Q=>ta σ H (IsB fun c H1=>if c=true then tb σ H1 Q else Q (.bl false) H1)
def tOrV (ta tb:TE):TE:=fun σ H Q=>ta σ H (IsB fun c H1=>if c=true then Q (.bl true) H1 else tb σ H1 Q)
def tNotV (ta:TE):TE:=fun σ H Q=>ta σ H (IsB fun c H1=>Q (.bl (!c)) H1)
theorem z4E {op}{t:TE}(h:PE X a t):PE X (.BoolOp op [a] pos) t:=fun pins s σ H Q I hw=>BoolOp_one (h pins s σ H Q I hw)
theorem z7x (ha:PE X a ta)(hb:PE X (.BoolOp .And (b::Z2) pos) tb):PE X (.BoolOp .And (a::b::Z2) pos) (tAndV ta tb):=by
 intro pins s σ H Q I h
 refine BoolOp_and (thn (ha pins s σ H _ I h) fun v s1 ⟨x,H1,I1,r1,q1⟩=>?_)
 obtain ⟨c,rfl,q1⟩:=q1
 cases r1
 refine wpAny_truthy_bool ?_
 cases c with
 | true=>exact hb pins s1 σ H1 Q I1 q1
 | false=>exact ⟨.bl false,H1,I1,rfl,q1⟩
theorem pe_or (ha:PE X a ta)(hb:PE X (.BoolOp .Or (b::Z2) pos) tb):PE X (.BoolOp .Or (a::b::Z2) pos) (tOrV ta tb):=by
 intro pins s σ H Q I h
 refine BoolOp_or (thn (ha pins s σ H _ I h) fun v s1 ⟨x,H1,I1,r1,q1⟩=>?_)
 obtain ⟨c,rfl,q1⟩:=q1
 cases r1
 refine wpAny_truthy_bool ?_
 cases c with
 | false=>exact hb pins s1 σ H1 Q I1 q1
 | true=>exact ⟨.bl true,H1,I1,rfl,q1⟩
theorem pe_not (ha:PE X a ta):PE X (.UnaryOp .Not a pos) (tNotV ta):=by
 intro pins s σ H Q I h
 refine UnaryOp_ (thn (ha pins s σ H _ I h) fun v s1 ⟨x,H1,I1,r1,q1⟩=>?_)
 obtain ⟨c,rfl,q1⟩:=q1
 cases r1
 exact not_of (wpAny_truthy_bool ⟨.bl (!c),H1,I1,rfl,q1⟩)
def tIf (t:TT)(ta tb:TE):TE:=fun σ H Q=>t σ H fun c H1=>if c=true then ta σ H1 Q else tb σ H1 Q
theorem z2M {c:Expr}(hc:PT X c tA)(ha:PE X a ta)(hb:PE X b tb):PE X (.IfExp c a b pos) (tIf tA ta tb):=by
 intro pins s σ H Q I h
 refine wpAny_IfExp (thn (hc pins s σ H _ I h) fun d s1 ⟨H1,I1,q1⟩=>?_)
 cases d with
 | true=>exact ha pins s1 σ H1 Q I1 q1
 | false=>exact hb pins s1 σ H1 Q I1 q1
end
end L2
namespace L2
open PySem PySem.Spec PyProof.Rows
def SqL (K:z4)(H:Hp)(a:Addr)(xs:List V):Prop:=
 Rd H a (.lst xs)∨
  ∃(o:Obj) (its:Array Value) (n:Nat),K.lookup a=some o∧o.cls=.type "list"∧o.dict=none∧o.data=.seq its n∧its.size≤sizeLine∧yO xs its.toList
def SqT (K:z4)(H:Hp)(a:Addr)(xs:List V):Prop:=
 Rd H a (.tup xs)∨
  ∃(o:Obj) (its:Array Value) (n:Nat),K.lookup a=some o∧o.cls=.type "tuple"∧o.data=.seq its n∧its.size≤sizeLine∧yO xs its.toList
def absV:Value→Option V
 | .none=>some .non
 | .bool b=>some (.bl b)
 | .int i _=>some (.int i)
 | .str x _=>some (.str x)
 | .bytes b _=>some (.byt b)
 | .float b _=>some (.flt b)
 | .ref a=>some (.ref a)
 | .type n=>some (.ty n)
 | _=>none
theorem jW.abs {x:V}{u:Value}(r:jW x u):absV u=some x:=by
 cases x with
 | non=>cases r;rfl
 | bl _=>cases r;rfl
 | int _=>obtain ⟨t,rfl⟩:=r;rfl
 | str _=>obtain ⟨t,rfl⟩:=r;rfl
 | byt _=>obtain ⟨t,rfl⟩:=r;rfl
 | flt _=>obtain ⟨t,rfl⟩:=r;rfl
 | ref _=>cases r;rfl
 | ty _=>cases r;rfl
theorem jW.inj {x y:V}{u:Value}(r:jW x u)(q:jW y u):x=y:=zG (r.abs.symm.trans q.abs)
theorem yO.inj:∀{xs ys:List V}{us:List Value},yO xs us→yO ys us→xs=ys
 | _,_,_,.nil,.nil=>rfl
 | _,_,_,.cons r t,.cons r' t'=>by rw [r.inj r',yO.inj t t']
section
variable {X:Cx}{pins:List (Addr×Obj)}{σ:St}{H:Hp}{s:Shared}{a:Addr}{xs ys:List V}
theorem SqL.of {K:z4}(h:H a=some (.lst xs)):SqL K H a xs:=.inl (.inl h)
theorem SqT.of {K:z4}(h:H a=some (.tup xs)):SqT K H a xs:=.inl (.inl h)
theorem Inv.list (I:Inv X pins σ H s)(h:SqL X.K H a xs):∃its:List Value,yO xs its∧PlainL s.heap a its.toArray∧xs.length≤sizeLine:=by
 rcases h with h | ⟨o,its,n,hk,hc,hd,hs,hz,r⟩
 ·obtain ⟨z,its,n,r,e⟩:=h.ok I.hok
  exact ⟨its,r,⟨_,n,e,rfl,rfl,rfl⟩,z⟩
 ·refine ⟨its.toList,r,⟨o,n,I.kIn a o hk,hc,hd,by simpa using hs⟩,?_⟩
  have e:=r.length
  simp only [yh] at e
  omega
theorem Inv.tuple (I:Inv X pins σ H s)(h:SqT X.K H a xs):∃its:List Value,yO xs its∧IsTup s.heap a its.toArray∧xs.length≤sizeLine:=by
 rcases h with h | ⟨o,its,n,hk,hc,hs,hz,r⟩
 ·obtain ⟨z,its,r,p⟩:=h.ok I.hok
  exact ⟨its,r,p,z⟩
 ·refine ⟨its.toList,r,⟨o,I.kIn a o hk,hc,n,by simpa using hs⟩,?_⟩
  have e:=r.length
  simp only [yh] at e
  omega
theorem Inv.list_inj (I:Inv X pins σ H s)(h:SqL X.K H a xs)(h':SqL X.K H a ys):xs=ys:=by
 obtain ⟨its,r,⟨o,n,e,_,_,d⟩,_⟩:=I.list h
 obtain ⟨its',r',⟨o',n',e',_,_,d'⟩,_⟩:=I.list h'
 rw [e] at e';cases e'
 rw [d] at d'
 injection d' with d1 _
 have:its=its':=by simpa using congrArg z6R d1
 subst this
 exact r.inj r'
theorem Inv.tuple_inj (I:Inv X pins σ H s)(h:SqT X.K H a xs)(h':SqT X.K H a ys):xs=ys:=by
 obtain ⟨its,r,⟨o,e,_,n,d⟩,_⟩:=I.tuple h
 obtain ⟨its',r',⟨o',e',_,n',d'⟩,_⟩:=I.tuple h'
 rw [e] at e';cases e'
 rw [d] at d'
 injection d' with d1 _
 have:its=its':=by simpa using congrArg z6R d1
 subst this
 exact r.inj r'
end
abbrev Cx.wish (X:Cx)(E:Value→Shared→Prop):Cx:={ X with xe:=E }
abbrev Cx.nox (X:Cx):Cx:=X.wish fun _ _=>False
theorem Cx.Ok.wish {X:Cx}(ok:X.Ok)(E:Value→Shared→Prop):(X.wish E).Ok:=
 ⟨ok.mod,ok.kind,ok.glob,ok.blt,ok.above,ok.inj,ok.has,ok.cab,ok.hd,ok.frames,ok.stk,ok.exf,ok.bs,ok.bsz,ok.noex,ok.exfs,ok.funs,ok.frf⟩
theorem Cx.Ok.unwish {X:Cx}{E:Value→Shared→Prop}(ok:(X.wish E).Ok):X.Ok:=
 ⟨ok.mod,ok.kind,ok.glob,ok.blt,ok.above,ok.inj,ok.has,ok.cab,ok.hd,ok.frames,ok.stk,ok.exf,ok.bs,ok.bsz,ok.noex,ok.exfs,ok.funs,ok.frf⟩
section
variable {X:Cx}{pins:List (Addr×Obj)}{σ:St}{H:Hp}{s:Shared}{E:Value→Shared→Prop}
theorem Inv.wish (I:Inv X pins σ H s)(E:Value→Shared→Prop):Inv (X.wish E) pins σ H s:=⟨I.ok.wish E,I.os,I.bare,I.base,I.loc,I.cell,I.free,I.freeC,I.pin,I.hok,I.len⟩
theorem Inv.unwish (I:Inv (X.wish E) pins σ H s):Inv X pins σ H s:=⟨I.ok.unwish,I.os,I.bare,I.base,I.loc,I.cell,I.free,I.freeC,I.pin,I.hok,I.len⟩
theorem SP.unwish {D:GN}{f:Flow}{s':Shared}(h:SP (X.wish E) pins D f s'):SP X pins D f s':=by
 cases f with
 | next=>obtain ⟨σ',H',I,q⟩:=h;exact ⟨σ',H',I.unwish,q⟩
 | brk=>obtain ⟨σ',H',I,q⟩:=h;exact ⟨σ',H',I.unwish,q⟩
 | cont=>obtain ⟨σ',H',I,q⟩:=h;exact ⟨σ',H',I.unwish,q⟩
 | ret u=>obtain ⟨v,σ',H',I,r,q⟩:=h;exact ⟨v,σ',H',I.unwish,r,q⟩
theorem PSs.nox {st:List Stmt}{t:TS}(h:PSs X.nox st t):PSs X st t:=fun pins s σ H D I hw=>
 wpAny_mono (h pins s σ H D (I.wish _) hw) (fun _ _ q=>q.unwish) fun _ _ z=>Z0 z
end
section
variable {X:Cx}{st:Stmt}{Z2:List Stmt}{t u:TS}{e:Expr}{te:TE}{pos:Pos}
def tNext:TS:=fun D σ H=>D.nx σ H
def tSeq (t u:TS):TS:=fun D σ H=>t { D with nx:=u D } σ H
theorem yp:PSs X [] tNext:=fun _ _ σ H _ I h=>wpAny_execs_nil ⟨σ,H,I,h⟩
theorem z6 (h1:PS X st t)(h2:PSs X Z2 u):PSs X (st::Z2) (tSeq t u):=by
 intro pins s σ H D I h
 refine wpAny_execs_cons (thn (h1 pins s σ H { D with nx:=u D } I h) fun f s1 q=>?_)
 cases f with
 | next=>
  obtain ⟨σ',H',I',q⟩:=q
  exact h2 pins s1 σ' H' D I' q
 | ret v=>exact q
 | brk=>exact q
 | cont=>exact q
theorem z9 (h1:PS X st t):PSs X [st] t:=by
 intro pins s σ H D I h
 refine wpAny_execs_cons (thn (h1 pins s σ H D I h) fun f s1 q=>?_)
 cases f with
 | next=>exact wpAny_execs_nil q
 | ret v=>exact q
 | brk=>exact q
 | cont=>exact q
def tBreak:TS:=fun D σ H=>D.bk σ H
theorem zaq:PS X (.Break pos) tBreak:=fun _ _ σ H _ I h=>wpAny_Break ⟨σ,H,I,h⟩
theorem Inv.quiet {pins:List (Addr×Obj)}{σ:St}{H:Hp}{s:Shared}(I:Inv X pins σ H s):interactive X.env=false:=by simp [interactive,I.ok.kind]
def tDrop (te:TE):TS:=fun D σ H=>te σ H fun _ H1=>D.nx σ H1
theorem Z4 (he:PE X e te)(hs:swapsWith e none pos.line X.env=pure false:=by rfl):PS X (.Expr e pos) (tDrop te):=by
 intro pins s σ H D I h
 exact wpAny_Expr_any (thn (he pins s σ H _ I h) fun v s1 ⟨x,H1,I1,r1,q1⟩=>⟨σ,H1,I1,q1⟩) I.quiet hs
def z3l (te:TE):TS:=fun D σ H=>te σ H D.rt
theorem zA (he:PE X e te):PS X (.Return (some e) pos) (z3l te):=by
 intro pins s σ H D I h
 exact wpAny_Return_some (thn (he pins s σ H _ I h) fun v s1 ⟨x,H1,I1,r1,q1⟩=>⟨x,σ,H1,I1,r1,q1⟩)
def tIfS (c:TT)(t u:TS):TS:=fun D σ H=>c σ H fun b H1=>if b=true then t D σ H1 else u D σ H1
theorem jb {c:Expr}{a b:List Stmt}{tc:TT}(hc:PT X c tc)(ha:PSs X a t)(hb:PSs X b u):PS X (.If c a b pos) (tIfS tc t u):=by
 intro pins s σ H D I h
 refine wpAny_If (thn (hc pins s σ H _ I h) fun d s1 ⟨H1,I1,q1⟩=>?_)
 cases d with
 | true=>exact ha pins s1 σ H1 D I1 q1
 | false=>exact hb pins s1 σ H1 D I1 q1
end
abbrev TG:=V→St→Hp→(St→Hp→Prop)→Prop
abbrev TGs:=List V→St→Hp→(St→Hp→Prop)→Prop
def PG (X:Cx)(target:Expr)(t:TG):Prop:=
 ∀(pins:List (Addr×Obj)) (s:Shared) (σ:St) (H:Hp) (v:V) (u:Value) (Q:St→Hp→Prop),Inv X pins σ H s→jW v u→t v σ H Q→
  wpAny (model X.prog X.w) X.A (assign target X.env u) (fun _ s'=>∃σ' H',Inv X pins σ' H' s'∧Q σ' H') X.xe s
def PGs (X:Cx)(ts:List Expr)(t:TGs):Prop:=
 ∀(pins:List (Addr×Obj)) (s:Shared) (σ:St) (H:Hp) (vs:List V) (us:List Value) (Q:St→Hp→Prop),Inv X pins σ H s→yO vs us→t vs σ H Q→
  wpAny (model X.prog X.w) X.A (assignInOrder ((assignEach ts X.env).map (·.2)) us) (fun _ s'=>∃σ' H',Inv X pins σ' H' s'∧Q σ' H') X.xe s
abbrev TIp:=V→V→Hp→VK→Prop
def PIp (X:Cx)(op:Operator)(t:TIp):Prop:=
 ∀(pins:List (Addr×Obj)) (s:Shared) (σ:St) (H:Hp) (x y:V) (v u:Value) (Q:VK),Inv X pins σ H s→jW x v→jW y u→t x y H Q→
  wpAny (model X.prog X.w) X.A (inplaceOp op v u) (EP X pins σ Q) X.xe s
section
variable {X:Cx}{pos:Pos}
def VX (i:Nat):TG:=fun v σ H Q=>Q (σ.set i (some v)) H
theorem yB {i:Nat}{x:Str}(hN:X.N.Nodup)(hi:X.N[i]?=some x)(hx:Loc X.env.scope x)(hf:X.fn x=true∨X.env.scope.names.lookup x=some .local:=by first | exact .inl rfl | exact .inr rfl | assumption):PG X (.Name x pos) (VX i):=by
 intro pins s σ H v u Q I r h
 exact wpAny_assign_Name (QT I hN hi hx r (fun s' I'=>⟨_,H,I',h⟩) hf)
def gNil:TGs:=fun vs σ H Q=>vs=[]∧Q σ H
inductive z6t (t:TG)(u:TGs)(vs:List V)(σ:St)(H:Hp)(Q:St→Hp→Prop):Prop | mk (v:V) (r:List V) (_:vs=v::r) (_:t v σ H fun σ' H'=>u r σ' H' Q)
theorem z1W:PGs X [] gNil:=by
 intro pins s σ H vs us Q I r h
 obtain ⟨e,h⟩:=h
 subst e
 cases r
 exact assignInOrder_nil ⟨σ,H,I,h⟩
theorem Vb {e:Expr}{es:List Expr}{t:TG}{u:TGs}(h1:PG X e t)(h2:PGs X es u)
  (hs:(assignEach (e::es) X.env).map (·.2)=assign e X.env::(assignEach es X.env).map (·.2):=by rfl):PGs X (e::es) (z6t t u):=by
 intro pins s σ H vs us Q I r h
 obtain ⟨v,vr,e1,h⟩:=h
 subst e1
 cases r with
 | cons r rr=>
  rw [hs]
  refine assignInOrder_cons (thn (h1 pins s σ H _ _ _ I r h) fun _ s1 ⟨σ1,H1,I1,q1⟩=>?_)
  exact h2 pins s1 σ1 H1 _ _ Q I1 rr q1
inductive gTup (K:z4)(n:Nat)(t:TGs)(v:V)(σ:St)(H:Hp)(Q:St→Hp→Prop):Prop | mk (a:Addr) (xs:List V) (_:v=.ref a) (_:SqT K H a xs) (_:xs.length=n) (_:t xs σ H Q)
theorem z4C {es:List Expr}{k:Nat}{t:TGs}{n:Nat}(hc:X.calm=true)(h:PGs X es t)
  (hn:(assignEach es X.env).length=n:=by rfl) (hst:(assignEach es X.env).findIdx? (·.1)=none:=by rfl):PG X (.Tuple es k pos) (gTup X.K n t):=by
 intro pins s σ H v u Q I r hw
 obtain ⟨a,xs,e1,hq,hl,hw⟩:=hw
 subst e1
 cases r
 obtain ⟨its,rv,ht,hz⟩:=I.tuple hq
 refine assign_Tuple_tuple (I.ok.hd hc) ht (by simp [hn,←hl,rv.length]) hst fun h' hx=>?_
 have I1:Inv X pins σ H { s with heap:=h' }:=I.kept (t':=s.toks) fun b o e=>hx b o (yF (zC e)) e
 exact h pins _ σ H xs _ Q I1 (by simpa using rv) hw
def tAsg (te:TE)(g:TG):TS:=fun D σ H=>te σ H fun x H1=>g x σ H1 D.nx
theorem zK {i:Nat}{x:Str}{e:Expr}{te:TE}{pos':Pos}(hN:X.N.Nodup)(hi:X.N[i]?=some x)(hx:Loc X.env.scope x)(he:PE X e te)(hs:swapsWith e (some (.Name x pos')) pos.line X.env=pure false:=by rfl)(hf:X.fn x=true∨X.env.scope.names.lookup x=some .local:=by first | exact .inl rfl | exact .inr rfl | assumption) :
  PS X (.Assign [.Name x pos'] e pos) (tAsg te (VX i)):=by
 intro pins s σ H D I h
 refine wpAny_Assign_Name (thn (he pins s σ H _ I h) fun v s1 ⟨y,H1,I1,r1,q1⟩=>?_) hs
 exact QT I1 hN hi hx r1 (fun s2 I2=>⟨_,H1,I2,q1⟩) hf
def tAug (i:Nat)(te:TE)(ti:TIp):TS:=fun D σ H=>jc i σ H fun x _=>te σ H fun y H1=>ti x y H1 fun z H2=>D.nx (σ.set i (some z)) H2
theorem z4z {i:Nat}{x:Str}{e:Expr}{te:TE}{op:Operator}{ti:TIp}{pos':Pos}(hN:X.N.Nodup)(hi:X.N[i]?=some x)(hx:Loc X.env.scope x)(he:PE X e te)(ho:PIp X op ti)(hf:X.fn x=true∨X.env.scope.names.lookup x=some .local:=by first | exact .inl rfl | exact .inr rfl | assumption) :
  PS X (.AugAssign (.Name x pos') op e pos) (tAug i te ti):=by
 intro pins s σ H D I h
 obtain ⟨v,e1,h⟩:=h
 obtain ⟨m,hn,hl⟩:=I.loc
 have vis:Vis X.env.scope x:=by rcases hx with k | k;exact .inl k;exact .inr (.inl k)
 obtain ⟨u,r,l⟩:=hl i x v hi e1 vis
 refine wpAny_AugAssign_Name ?_
 have go:wpAny (model X.prog X.w) X.A (eval e X.env) (fun w s₂=>wpAny (model X.prog X.w) X.A (inplaceOp op u w) (fun r s₃=>wpAny (model X.prog X.w) X.A (storeName X.env x r) (fun _=>SP X pins D .next) X.xe s₃) X.xe s₂) X.xe s:=by
  refine thn (he pins s σ H _ I h) fun w s1 ⟨y,H1,I1,r1,q1⟩=>?_
  refine thn (ho pins s1 σ H1 v y u w _ I1 r r1 q1) fun z s2 ⟨zv,H2,I2,r2,q2⟩=>?_
  exact QT I2 hN hi hx r2 (fun s3 I3=>⟨_,H2,I3,q2⟩) hf
 rcases l with ⟨hk,hm⟩ | ⟨hk,c,hc,hcell⟩
 ·exact wpAny_loadName_local I.ok.kind hk hn hm go
 ·rcases hk with hk | hk
  ·exact wpAny_loadName_cell I.ok.kind hk hc hcell go
  ·rcases hx with k | k
   ·have:X.env.scope.names.lookup x=some .free:=hk
    rw [k] at this;cases this
   ·have:X.env.scope.names.lookup x=some .free:=hk
    rw [k] at this;cases this
inductive ipI (f:Int→Int→Int)(x y:V)(H:Hp)(Q:VK):Prop | mk (i j:Int) (_:x=.int i) (_:y=.int j) (_:Q (.int (f i j)) H)
theorem z86:PIp X .Add (ipI fun i j=>i+j):=by
 intro pins s σ H x y v u Q I r1 r2 h
 obtain ⟨i,j,e1,e2,q⟩:=h
 subst e1;subst e2
 obtain ⟨t,rfl⟩:=r1
 obtain ⟨t',rfl⟩:=r2
 exact iadd_int ⟨.int _,H,I.tok _,⟨_,rfl⟩,q⟩
theorem ip_sub:PIp X .Sub (ipI fun i j=>i - j):=by
 intro pins s σ H x y v u Q I r1 r2 h
 obtain ⟨i,j,e1,e2,q⟩:=h
 subst e1;subst e2
 obtain ⟨t,rfl⟩:=r1
 obtain ⟨t',rfl⟩:=r2
 exact isub_int ⟨.int _,H,I.tok _,⟨_,rfl⟩,q⟩
end
section
variable {X:Cx}{pos:Pos}
inductive WhN (tb:TS)(D:GN)(W:Nat→St→Hp→Prop)(m:Nat)(σ:St)(H:Hp):Prop | mk (N:St→Hp→Prop) (_:∀σ' H',N σ' H'→∃m',m'<m∧W m' σ' H') (_:tb { D with nx:=N,ct:=N,bk:=D.nx } σ H)
inductive tWhile (c:TT)(tb:TS)(D:GN)(σ:St)(H:Hp):Prop | mk (W:Nat→St→Hp→Prop) (_:∃m,W m σ H) (_:∀m σ H,W m σ H→c σ H fun b H1=>if b=true then WhN tb D W m σ H1 else D.nx σ H1)
theorem Uk {c:Expr}{body:List Stmt}{tc:TT}{tb:TS}(hp:PassesOwn (model X.prog X.w) X.A X.env X.xe)(hc:PT X c tc)(hb:PSs X body tb):PS X (.While c body [] pos) (tWhile tc tb):=by
 intro pins s σ H D I h
 obtain ⟨W,⟨m0,w0⟩,turn⟩:=h
 refine wpAny_While (codeAny_whileLoop (fun n s'=>∃σ' H',Inv X pins σ' H' s'∧W n σ' H') ?_ m0 ⟨σ,H,I,w0⟩)
 rintro n s1 ⟨σ1,H1,I1,w1⟩
 refine wpAny_passesOwn hp (thn (hc pins s1 σ1 H1 _ I1 (turn n σ1 H1 w1)) fun b s2 ⟨H2,I2,q2⟩=>?_)
 cases b with
 | true=>
  obtain ⟨N,hN,q2⟩:=q2
  rw [if_pos rfl]
  refine wpAny_passesOwn hp (thn (hb pins s2 σ1 H2 _ I2 q2) fun f s3 q3=>?_)
  cases f with
  | next=>
   obtain ⟨σ3,H3,I3,n3⟩:=q3
   obtain ⟨m',hm,w3⟩:=hN σ3 H3 n3
   exact ⟨m',hm,σ3,H3,I3,w3⟩
  | cont=>
   obtain ⟨σ3,H3,I3,n3⟩:=q3
   obtain ⟨m',hm,w3⟩:=hN σ3 H3 n3
   exact ⟨m',hm,σ3,H3,I3,w3⟩
  | brk=>exact q3
  | ret v=>exact q3
 | false=>
  rw [if_neg zR]
  exact wpAny_execs_nil ⟨σ1,H2,I2,q2⟩
end
structure It where
 go:Nat→Hp→Prop
 yld:Nat→Hp→V→Hp→Prop
 stop:Nat→Hp→Prop
def VF (X:Cx)(pins:List (Addr×Obj))(H:Hp)(b:Addr):Prop:=
 H b=none∧b≠X.env.locals∧b ∉ X.fs∧(b∈X.ex∨X.s_0.heap.objs.size≤b)∧(∀x c,X.env.cells.lookup x=some c→c≠b)∧∀p∈X.pn++pins,p.1≠b
theorem Inv.fpOk {X:Cx}{pins:List (Addr×Obj)}{σ:St}{H H':Hp}{s:Shared}{b:Addr}(I:Inv X pins σ H s)(hb:s.heap.objs.size≤b)(hn:H' b=none):VF X pins H' b:=by
 refine ⟨hn,Ws (zW I.lt hb),I.nofs hb,.inr (zd I.sz hb),fun x c e z=>?_,fun p hp z=>?_⟩
 ·obtain ⟨v,q⟩:=I.cell x c e
  exact absurd (zW q.lt (by rw [z];exact hb)) (yY _)
 ·exact absurd (zW (zC (I.pin p hp).1) (by rw [z];exact hb)) (yY _)
structure Turn (P:Program)(w:World)(K:z4)(tg:Expr)(J:It)(fp:List Addr)(it:Addr)(tn:Nat→Heap→Prop):Prop where
 mem:it∈fp
 obj:∀i h,tn i h→∀b∈fp,∃o,h.get? b=some o∧∀v,o.data≠.cell v
 keep:∀i h h',tn i h→(∀b∈fp,∀o,h.get? b=some o→h'.get? b=some o)→tn i h'
 item:∀(X:Cx),X.prog=P→X.w=w→X.K=K→X.calm=true→∀(i:Nat) (pins:List (Addr×Obj)) (s:Shared) (σ:St) (H:Hp) (E:Value→Shared→Prop),Inv X pins σ H s→(∀b∈fp,VF X pins H b)→tn i s.heap→J.go i H→
  wpAny (model P w) X.A (pyNext (.ref it)) (fun r s1=>∃u,r=some u∧
   wpAny (model P w) X.A (letOwnedTupleGo tg (.ref it) u) (fun _ s2=>∃x H',Inv X pins σ H' s2∧jW x u∧J.yld i H x H'∧tn (i+1) s2.heap∧∀b∈fp,H' b=none) E s1) E s
 done:∀(X:Cx),X.prog=P→X.w=w→X.K=K→X.calm=true→∀(i:Nat) (pins:List (Addr×Obj)) (s:Shared) (σ:St) (H:Hp) (E:Value→Shared→Prop),Inv X pins σ H s→(∀b∈fp,VF X pins H b)→tn i s.heap→J.stop i H→
  wpAny (model P w) X.A (pyNext (.ref it)) (fun r s1=>r=none∧Inv X pins σ H s1) E s
 self:∀(A:Around) (i:Nat) (s:Shared) (Q:Value→Shared→Prop) (E:Value→Shared→Prop),tn i s.heap→Q (.ref it) s→wpAny (model P w) A (pyIter (.ref it)) Q E s
abbrev TI:=St→Hp→(It→Hp→Prop)→Prop
inductive PIE (X:Cx)(pins:List (Addr×Obj))(σ:St)(tg:Expr)(R:It→Hp→Prop)(itv:Value)(s2:Shared):Prop | mk (it:Addr) (fp:List Addr) (tn:Nat→Heap→Prop) (J:It) (H':Hp) (_:itv=.ref it) (_:Inv X pins σ H' s2) (_:Turn X.prog X.w X.K tg J fp it tn) (_:tn 0 s2.heap) (_:∀b∈fp,VF X pins H' b) (_:R J H')
def PI (X:Cx)(tg iter:Expr)(wi:TI):Prop:=
 ∀(pins:List (Addr×Obj)) (s:Shared) (σ:St) (H:Hp) (R:It→Hp→Prop),Inv X pins σ H s→wi σ H R→
  wpAny (model X.prog X.w) X.A (eval iter X.env) (fun v s1=>wpAny (model X.prog X.w) X.A (pyIter v) (PIE X pins σ tg R) X.xe s1) X.xe s
theorem go_of {M : Model} {A : Around} {E : Value → Shared → Prop} {s : Shared} {tg : Expr} {it : Addr} {u : Value} {o : Obj} {n : String} {vs : Array Value} {Q : Unit → Shared → Prop} (ho : s.heap.get? it = some o) (hc : o.cls = .type n) (hd : o.data = .fields vs)
    (hn : ["enumerate", "zip", "dict_itemiterator", "dict_reverseitemiterator", "odict_iterator", "itertools.zip_longest", "itertools.pairwise"].contains n = false) (hQ : Q () s) : wpAny M A (letOwnedTupleGo tg (.ref it) u) Q E s := by
  unfold letOwnedTupleGo
  cases tg <;> first
    | exact wpAny_pure hQ
    | (cases u <;> first
        | exact wpAny_pure hQ
        | (refine wpAny_bind (wpAny_load ho ?_)
           rw [hc, hd]
           show wpAny M A (if (["enumerate", "zip", "dict_itemiterator", "dict_reverseitemiterator", "odict_iterator", "itertools.zip_longest", "itertools.pairwise"].contains n && vs[0]? == some (rawInt _)) = true then _ else _) Q E s
           rw [if_neg (by intro h; rw [hn, z5m] at h; cases h)]
           exact wpAny_pure hQ))
def Itl (K:z4)(a:Addr):It:=
 ⟨fun i H=>∃xs x,SqL K H a xs∧xs[i]?=some x,fun i H x H'=>H'=H∧∀xs,SqL K H a xs→xs[i]?=some x,fun i H=>∃xs,SqL K H a xs∧xs.length≤i⟩
def Itt (K:z4)(a:Addr):It:=
 ⟨fun i H=>∃xs x,SqT K H a xs∧xs[i]?=some x,fun i H x H'=>H'=H∧∀xs,SqT K H a xs→xs[i]?=some x,fun i H=>∃xs,SqT K H a xs∧xs.length≤i⟩
def Itr (lo:Int)(n:Nat):It:=⟨fun i _=>i<n,fun i H x H'=>H'=H∧x=.int (lo+i),fun i _=>n≤i⟩
theorem z9b {P:Program}{w:World}{K:z4}{tg:Expr}(a it:Addr):Turn P w K tg (Itl K a) [it] it (fun i h=>h.IsListIter it a i) where
 mem:=by simp
 obj:=fun i h st b hb=>by
  have e:b=it:=by simpa using hb
  subst e
  obtain ⟨o,e,c,d⟩:=st
  exact ⟨o,e,fun v z=>by rw [d] at z;cases z⟩
 keep:=fun i h h' st k=>st.at fun o e=>k it (by simp) o e
 item:=by
  intro X hP hw hK hc i pins s σ H E I hf st hg
  subst hP hw hK
  obtain ⟨xs,x,hq,hx⟩:=hg
  obtain ⟨its,rv,p,hz⟩:=I.list hq
  obtain ⟨u,hu,ru⟩:=rv.get hx
  obtain ⟨f0,f1,f2,f3,f4,f5⟩:=hf it (by simp)
  refine wpAny_pyNext_list_item st p.isList (x:=u) (by simpa using hu) fun h' st' sb=>?_
  have I1:Inv X pins σ H { s with heap:=h' }:=I.turned (t':=s.toks) (fun b o hb e=>(sb.2 b hb).trans e) f0 f1 f3 f4 f5
  obtain ⟨o,e,c,d⟩:=id st'
  exact ⟨u,rfl,go_of (s:={ s with heap:=h' }) e c d (by decide) ⟨x,H,I1,ru,⟨rfl,fun ys hy=>by rw [I.list_inj hy hq];exact hx⟩,st',fun b hb=>(hf b hb).1⟩⟩
 done:=by
  intro X hP hw hK hc i pins s σ H E I hf st hg
  subst hP hw hK
  obtain ⟨xs,hq,hx⟩:=hg
  obtain ⟨its,rv,p,hz⟩:=I.list hq
  obtain ⟨f0,f1,f2,f3,f4,f5⟩:=hf it (by simp)
  have hl:=rv.length
  exact wpAny_pyNext_list_end (I.ok.hd hc) st p.isList (by simp;omega) fun h' eb=>⟨rfl,I.turned (t':=s.toks) (fun b o hb e=>eb b o hb e) f0 f1 f3 f4 f5⟩
 self:=fun _ _ _ _ _ st h=>wpAny_pyIter_listiter st h
theorem z6X {P:Program}{w:World}{K:z4}{tg:Expr}(a it:Addr):Turn P w K tg (Itt K a) [it] it (fun i h=>h.IsTupleIter it a i) where
 mem:=by simp
 obj:=fun i h st b hb=>by
  have e:b=it:=by simpa using hb
  subst e
  obtain ⟨o,e,c,d⟩:=st
  exact ⟨o,e,fun v z=>by rw [d] at z;cases z⟩
 keep:=fun i h h' st k=>st.at fun o e=>k it (by simp) o e
 item:=by
  intro X hP hw hK hc i pins s σ H E I hf st hg
  subst hP hw hK
  obtain ⟨xs,x,hq,hx⟩:=hg
  obtain ⟨its,rv,p,hz⟩:=I.tuple hq
  obtain ⟨u,hu,ru⟩:=rv.get hx
  obtain ⟨f0,f1,f2,f3,f4,f5⟩:=hf it (by simp)
  refine wpAny_pyNext_tuple_item st (show s.heap.IsTuple a its.toArray from p) (x:=u) (by simpa using hu) fun h' st' sb=>?_
  have I1:Inv X pins σ H { s with heap:=h' }:=I.turned (t':=s.toks) (fun b o hb e=>(sb.2 b hb).trans e) f0 f1 f3 f4 f5
  obtain ⟨o,e,c,d⟩:=id st'
  exact ⟨u,rfl,go_of (s:={ s with heap:=h' }) e c d (by decide) ⟨x,H,I1,ru,⟨rfl,fun ys hy=>by rw [I.tuple_inj hy hq];exact hx⟩,st',fun b hb=>(hf b hb).1⟩⟩
 done:=by
  intro X hP hw hK hc i pins s σ H E I hf st hg
  subst hP hw hK
  obtain ⟨xs,hq,hx⟩:=hg
  obtain ⟨its,rv,p,hz⟩:=I.tuple hq
  obtain ⟨f0,f1,f2,f3,f4,f5⟩:=hf it (by simp)
  have hl:=rv.length
  exact wpAny_pyNext_tuple_end (I.ok.hd hc) st (show s.heap.IsTuple a its.toArray from p) (by simp;omega) fun h' eb=>⟨rfl,I.turned (t':=s.toks) (fun b o hb e=>eb b o hb e) f0 f1 f3 f4 f5⟩
 self:=fun _ _ _ _ _ st h=>wpAny_pyIter_tupleiter st h
theorem z6Y {P:Program}{w:World}{K:z4}{tg:Expr}(it:Addr)(lo:Int)(n:Nat):Turn P w K tg (Itr lo n) [it] it (fun i h=>IsRangeIter h it (lo+(i:Nat) * 1) ((n:Int) - (i:Nat)) 1) where
 mem:=by simp
 obj:=fun i h st b hb=>by
  have e:b=it:=by simpa using hb
  subst e
  exact ⟨_,st,fun v z=>by
   have z':Data.fields _=Data.cell v:=z
   cases z'⟩
 keep:=fun i h h' st k=>k it (by simp) _ st
 item:=by
  intro X hP hw hK hc i pins s σ H E I hf st hg
  subst hP hw hK
  obtain ⟨f0,f1,f2,f3,f4,f5⟩:=hf it (by simp)
  have W:=Walks.range (prog:=X.prog) (w:=X.w) (I.ok.hd hc) it lo 1 n
  refine W.item i s _ _ hg st fun v h' tk hv st' kk=>?_
  obtain ⟨t,rfl⟩:=hv
  have I1:Inv X pins σ H { s with heap:=h',toks:=tk }:=I.turned (fun b o hb e=>kk b o (by simpa using hb) e) f0 f1 f3 f4 f5
  refine ⟨_,rfl,go_of (s:={ s with heap:=h',toks:=tk }) (n:="range_iterator") st' rfl rfl (by decide) ⟨.int (lo+i),H,I1,⟨t,?_⟩,⟨rfl,rfl⟩,st',fun b hb=>(hf b hb).1⟩⟩
  rw [Int.mul_one]
 done:=by
  intro X hP hw hK hc i pins s σ H E I hf st hg
  subst hP hw hK
  obtain ⟨f0,f1,f2,f3,f4,f5⟩:=hf it (by simp)
  exact wpAny_pyNext_range_end (I.ok.hd hc) st (by have:n≤i:=hg;omega) fun h' eb=>⟨rfl,I.turned (t':=s.toks) (fun b o hb e=>eb b o hb e) f0 f1 f3 f4 f5⟩
 self:=fun _ _ _ _ _ st h=>wpAny_pyIter_rangeiter st h
end L2
namespace L2
open PySem PySem.Spec PyProof.Rows
section
variable {X:Cx}{tg:Expr}
inductive iLst (K:z4)(R:It→Hp→Prop)(x:V)(H:Hp):Prop | mk (a:Addr) (_:x=.ref a) (_:∃xs,SqL K H a xs) (_:R (Itl K a) H)
def iList (K:z4)(tl:TE):TI:=fun σ H R=>tl σ H (iLst K R)
inductive iTpl (K:z4)(R:It→Hp→Prop)(x:V)(H:Hp):Prop | mk (a:Addr) (_:x=.ref a) (_:∃xs,SqT K H a xs) (_:R (Itt K a) H)
def iTup (K:z4)(tl:TE):TI:=fun σ H R=>tl σ H (iTpl K R)
theorem j7 {l:Expr}{tl:TE}(hl:PE X l tl):PI X tg l (iList X.K tl):=by
 intro pins s σ H R I h
 refine thn (hl pins s σ H _ I h) fun v s1 ⟨x,H1,I1,r1,q1⟩=>?_
 obtain ⟨a,e,⟨xs,hq⟩,q⟩:=q1
 subst e
 cases r1
 obtain ⟨its,rv,p,hz⟩:=I1.list hq
 refine wpAny_pyIter_list p.isList ?_
 refine ⟨s1.heap.objs.size,[s1.heap.objs.size],_,_,H1,rfl,I1.kept (t':=s1.toks) fun b o e=>ze _ e,z9b a _,⟨_,yd _ rfl,rfl,rfl⟩,fun b hb=>?_,q⟩
 have e:b=s1.heap.objs.size:=by simpa using hb
 subst e
 exact I1.fpOk (zb _) (I1.hok.fresh (zb _))
theorem pi_tup {l:Expr}{tl:TE}(hl:PE X l tl):PI X tg l (iTup X.K tl):=by
 intro pins s σ H R I h
 refine thn (hl pins s σ H _ I h) fun v s1 ⟨x,H1,I1,r1,q1⟩=>?_
 obtain ⟨a,e,⟨xs,hq⟩,q⟩:=q1
 subst e
 cases r1
 obtain ⟨its,rv,p,hz⟩:=I1.tuple hq
 refine wpAny_pyIter_tuple (show s1.heap.IsTuple a its.toArray from p) ?_
 refine ⟨s1.heap.objs.size,[s1.heap.objs.size],_,_,H1,rfl,I1.kept (t':=s1.toks) fun b o e=>ze _ e,z6X a _,⟨_,yd _ rfl,rfl,rfl⟩,fun b hb=>?_,q⟩
 have e:b=s1.heap.objs.size:=by simpa using hb
 subst e
 exact I1.fpOk (zb _) (I1.hok.fresh (zb _))
theorem z5R {pins:List (Addr×Obj)}{σ:St}{H:Hp}{s:Shared}{R:It→Hp→Prop}{E:Value→Shared→Prop}{lo hi:Int}{t u v:Tok}{tk:Nat}(I:Inv X pins σ H s)(h1:-(2 ^ 62)≤lo)(h2:lo<2 ^ 62)(h3:-(2 ^ 62)≤hi)(h4:hi<2 ^ 62)
  (q:R (Itr lo (hi - lo).toNat) H):wpAny (model X.prog X.w) X.A (pyIter (.ref s.heap.objs.size)) (PIE X pins σ tg R) E { s with heap:=s.heap.push { cls:=.type "range",data:=.fields #[.int lo t,.int hi u,.int 1 v] },toks:=tk }:=by
 refine wpAny_pyIter_range (IsRange.new ..) (small_one h1 h2 h3 h4) ?_
 have I1:Inv X pins σ H { s with heap:=s.heap.push { cls:=.type "range",data:=.fields #[.int lo t,.int hi u,.int 1 v] },toks:=tk }:=I.kept fun b o e=>ze _ e
 refine ⟨(s.heap.push { cls:=.type "range",data:=.fields #[.int lo t,.int hi u,.int 1 v] }).objs.size,[(s.heap.push { cls:=.type "range",data:=.fields #[.int lo t,.int hi u,.int 1 v] }).objs.size],_,_,H,rfl,
  I1.kept (t':=tk) fun b o e=>ze _ e,z6Y _ lo (hi - lo).toNat,?_,fun b hb=>?_,q⟩
 ·have e1:lo+((0:Nat):Int) * 1=lo:=by simp
  have e2:(((hi - lo).toNat:Nat):Int) - ((0:Nat):Int)=z1O lo hi 1:=by rw [rangeSize_one];split <;> omega
  show IsRangeIter _ _ (lo+((0:Nat):Int) * 1) ((((hi - lo).toNat:Nat):Int) - ((0:Nat):Int)) 1
  rw [e1,e2]
  exact yd _ rfl
 ·have e:b=(s.heap.push { cls:=.type "range",data:=.fields #[.int lo t,.int hi u,.int 1 v] }).objs.size:=by simpa using hb
  subst e
  exact I1.fpOk (zb _) (I1.hok.fresh (zb _))
inductive iRg1 (R:It→Hp→Prop)(vs:List V)(H:Hp):Prop | mk (j:Int) (_:vs=[.int j]) (_:-(2 ^ 62)≤j) (_:j<2 ^ 62) (_:R (Itr 0 j.toNat) H)
def iRng1 (ta:TA):TI:=fun σ H R=>ta σ H (iRg1 R)
inductive iRg2 (R:It→Hp→Prop)(vs:List V)(H:Hp):Prop | mk (i j:Int) (_:vs=[.int i,.int j]) (_:-(2 ^ 62)≤i∧i<2 ^ 62∧-(2 ^ 62)≤j∧j<2 ^ 62) (_:R (Itr i (j - i).toNat) H)
def iRng2 (ta:TA):TI:=fun σ H R=>ta σ H (iRg2 R)
theorem VH {a:Expr}{ta:TA}{p pos:Pos}(hg:Gl X "range")(hm:X.mg "range"=none)(ha:PA X [a] ta)(hs:starEach [a] X.env=[(false,eval a X.env)]:=by rfl):PI X tg (.Call (.Name "range" p) [a] [] pos) (iRng1 ta):=by
 intro pins s σ H R I h
 refine Call_ (VW I hg hm boot_range (j0 (thn (ha pos pins s σ H _ I h) fun us s1 ⟨vs,H1,I1,r1,q1⟩=>?_) hs rfl))
 obtain ⟨j,e,q1,q2,q⟩:=q1
 subst e
 cases r1 with
 | cons r rr=>
  cases rr
  obtain ⟨t,rfl⟩:=r
  exact call_range_1 (z5R I1 (by omega) (by omega) q1 q2 (by simpa using q))
theorem z9p {a b:Expr}{ta:TA}{p pos:Pos}(hg:Gl X "range")(hm:X.mg "range"=none)(ha:PA X [a,b] ta)(hs:starEach [a,b] X.env=[(false,eval a X.env),(false,eval b X.env)]:=by rfl)(hs2:starEach [b] X.env=[(false,eval b X.env)]:=by rfl) :
  PI X tg (.Call (.Name "range" p) [a,b] [] pos) (iRng2 ta):=by
 intro pins s σ H R I h
 refine Call_ (VW I hg hm boot_range (j0 (thn (ha pos pins s σ H _ I h) fun us s1 ⟨vs,H1,I1,r1,q1⟩=>?_) (by rw [hs,hs2]) (by rw [hs2];rfl)))
 obtain ⟨i,j,e,⟨q1,q2,q3,q4⟩,q⟩:=q1
 subst e
 cases r1 with
 | cons r rr=>
  cases rr with
  | cons r' rr=>
   cases rr
   obtain ⟨t,rfl⟩:=r
   obtain ⟨t',rfl⟩:=r'
   exact call_range_2 (z5R I1 q1 q2 q3 q4 q)
inductive ForN (g:TG)(tb:TS)(D:GN)(J:It)(W:Nat→Nat→St→Hp→Prop)(i m:Nat)(σ:St)(H:Hp):Prop | mk (N:St→Hp→Prop) (_:∀σ' H',N σ' H'→∃m',m'<m∧W (i+1) m' σ' H') (_:∀x H',J.yld i H x H'→g x σ H' fun σ2 H2=>tb { D with nx:=N,ct:=N,bk:=D.nx } σ2 H2)
inductive ForK (g:TG)(tb:TS)(D:GN)(σ:St)(J:It)(H:Hp):Prop | mk (W:Nat→Nat→St→Hp→Prop) (_:∃m,W 0 m σ H) (_:∀i m σ H,W i m σ H→(J.stop i H∧D.nx σ H)∨(J.go i H∧ForN g tb D J W i m σ H))
def tFor (wi:TI)(g:TG)(tb:TS):TS:=fun D σ H=>wi σ H (ForK g tb D σ)
def z17 (fp:List Addr)(h:Heap):List (Addr×Obj):=fp.filterMap fun b=>(h.get? b).map fun o=>(b,o)
theorem GA {fp:List Addr}{h:Heap}{b:Addr}{o:Obj}(hb:b∈fp)(e:h.get? b=some o):(b,o)∈z17 fp h:=JG.mpr ⟨b,hb,by rw [e];rfl⟩
theorem z9D {fp:List Addr}{h:Heap}{p:Addr×Obj}(hp:p∈z17 fp h):p.1∈fp∧h.get? p.1=some p.2:=by
 obtain ⟨b,hb,e⟩:=JG.mp hp
 cases q:h.get? b with
 | none=>rw [q] at e;cases e
 | some o=>
  rw [q] at e
  have e':(b,o)=p:=zG e
  subst e'
  exact ⟨hb,q⟩
theorem Inv.pinned {pins:List (Addr×Obj)}{σ:St}{H:Hp}{s:Shared}{fp:List Addr}(I:Inv X pins σ H s)(hf:∀b∈fp,VF X pins H b)(ho:∀b∈fp,∃o,s.heap.get? b=some o∧∀v,o.data≠.cell v):Inv X (pins++z17 fp s.heap) σ H s:=
 I.pins_of fun p hp=>(zQ.mp hp).elim (fun z=>I.pin p (zq _ z)) fun z=>by
  obtain ⟨hb,e⟩:=z9D z
  obtain ⟨f0,f1,f2,_⟩:=hf p.1 hb
  obtain ⟨o,e',d⟩:=ho p.1 hb
  rw [e] at e';cases e'
  exact ⟨e,f0,f1,f2,d⟩
theorem Inv.unpinned {pins pl:List (Addr×Obj)}{σ:St}{H:Hp}{s:Shared}(I:Inv X (pins++pl) σ H s):Inv X pins σ H s:=I.pins_of fun p hp=>I.pin p (zq _ (zY _ hp))
theorem Vo {iter:Expr}{body:List Stmt}{wi:TI}{g:TG}{tb:TS}{pos:Pos}(hp:PassesOwn (model X.prog X.w) X.A X.env X.xe)(hc:X.calm=true)(hi:PI X tg iter wi)(hg:PG X tg g)(hb:PSs X body tb)
  (hs:∀x,foldedSetIterable iter X.env x=pure x:=by intro _;rfl):PS X (.For tg iter body [] pos) (tFor wi g tb):=by
 intro pins s σ H D I h
 refine wpAny_For (thn (hi pins s σ H _ I h) fun v s1 h1=>thn h1 fun itv s2 h2=>?_) hs
 obtain ⟨it,fp,tn,J,H2,e,I2,T,st2,f2,W,⟨m0,w0⟩,turn⟩:=h2
 subst e
 have stat:∀{H':Hp},(∀b∈fp,H' b=none)→∀b∈fp,VF X pins H' b:=fun hn b hb=>⟨hn b hb,(f2 b hb).2⟩
 refine codeAny_forLoop_any (fun n s'=>∃i σ' H',Inv X pins σ' H' s'∧tn i s'.heap∧(∀b∈fp,H' b=none)∧W i n σ' H') ?_ m0 ⟨0,σ,H2,I2,st2,fun b hb=>(f2 b hb).1,w0⟩
 rintro n s3 ⟨i,σ3,H3,I3,st3,fr3,w3⟩
 rcases turn i n σ3 H3 w3 with ⟨stop,qn⟩ | ⟨go,N,hN,step⟩
 ·refine wpAny_passesOwn hp (thn (T.done X rfl rfl rfl hc i pins s3 σ3 H3 X.xe I3 (stat fr3) st3 stop) fun r s4 ⟨hr,I4⟩=>?_)
  subst hr
  exact wpAny_execs_nil ⟨σ3,H3,I4,qn⟩
 ·refine wpAny_passesOwn hp (thn (T.item X rfl rfl rfl hc i pins s3 σ3 H3 X.xe I3 (stat fr3) st3 go) fun r s4 ⟨u,hr,h4⟩=>?_)
  subst hr
  refine wpAny_passesOwn hp (thn h4 fun _ s5 ⟨x,H5,I5,r5,y5,st5,fr5⟩=>?_)
  have I5':=I5.pinned (stat fr5) (T.obj _ _ st5)
  refine wpAny_passesOwn hp (thn (hg _ s5 σ3 H5 x u _ I5' r5 (step x H5 y5)) fun _ s6 ⟨σ6,H6,I6,q6⟩=>?_)
  refine wpAny_passesOwn hp (thn (hb _ s6 σ6 H6 _ I6 q6) fun f s7 q7=>?_)
  have again:∀{σ7:St} {H7:Hp},Inv X (pins++z17 fp s5.heap) σ7 H7 s7→N σ7 H7→∃m,m<n∧∃i σ' H',Inv X pins σ' H' s7∧tn i s7.heap∧(∀b∈fp,H' b=none)∧W i m σ' H':=fun {σ7 H7} I7 n7=>by
   obtain ⟨m',hm,w7⟩:=hN σ7 H7 n7
   refine ⟨m',hm,i+1,σ7,H7,I7.unpinned,T.keep _ _ _ st5 fun b hb o e=>(I7.pin (b,o) (zq _ (zq _ (GA hb e)))).1,fun b hb=>?_,w7⟩
   obtain ⟨o,e,d⟩:=T.obj _ _ st5 b hb
   exact (I7.pin (b,o) (zq _ (zq _ (GA hb e)))).2.1
  cases f with
  | next=>obtain ⟨σ7,H7,I7,n7⟩:=q7;exact again I7 n7
  | cont=>obtain ⟨σ7,H7,I7,n7⟩:=q7;exact again I7 n7
  | brk=>obtain ⟨σ7,H7,I7,q7⟩:=q7;exact ⟨σ7,H7,I7.unpinned,q7⟩
  | ret v=>obtain ⟨x7,σ7,H7,I7,r7,q7⟩:=q7;exact ⟨x7,σ7,H7,I7.unpinned,r7,q7⟩
end
theorem Vd {K:z4}{a:Addr}{xs:List V}{g:TG}{tb:TS}{D:GN}{σ:St}{H:Hp}(Pv:Nat→St→Hp→Prop)(h0:Pv 0 σ H)(hl:∀i σ H,i≤xs.length→Pv i σ H→SqL K H a xs)
  (hs:∀i x σ H,xs[i]?=some x→Pv i σ H→g x σ H fun σ2 H2=>tb { D with nx:=Pv (i+1),ct:=Pv (i+1),bk:=D.nx } σ2 H2) (hd:∀σ H,Pv xs.length σ H→D.nx σ H) :
  ForK g tb D σ (Itl K a) H:=by
 refine ⟨fun i m σ H=>m=xs.length - i∧i≤xs.length∧Pv i σ H,⟨xs.length,by simp,zk _,h0⟩,?_⟩
 rintro i m σ H ⟨rfl,hi,p⟩
 have q:=hl i σ H hi p
 by_cases hlt:i<xs.length
 ·refine .inr ⟨⟨xs,xs[i],q,by simp [hlt]⟩,Pv (i+1),fun σ' H' p'=>⟨xs.length - (i+1),by omega,rfl,hlt,p'⟩,fun x H' y=>?_⟩
  obtain ⟨e,y⟩:=y
  subst e
  exact hs i x σ _ (y xs q) p
 ·have e:i=xs.length:=by omega
  subst e
  exact .inl ⟨⟨xs,q,zb _⟩,hd σ H p⟩
theorem for_tup {K:z4}{a:Addr}{xs:List V}{g:TG}{tb:TS}{D:GN}{σ:St}{H:Hp}(Pv:Nat→St→Hp→Prop)(h0:Pv 0 σ H)(hl:∀i σ H,i≤xs.length→Pv i σ H→SqT K H a xs)
  (hs:∀i x σ H,xs[i]?=some x→Pv i σ H→g x σ H fun σ2 H2=>tb { D with nx:=Pv (i+1),ct:=Pv (i+1),bk:=D.nx } σ2 H2) (hd:∀σ H,Pv xs.length σ H→D.nx σ H) :
  ForK g tb D σ (Itt K a) H:=by
 refine ⟨fun i m σ H=>m=xs.length - i∧i≤xs.length∧Pv i σ H,⟨xs.length,by simp,zk _,h0⟩,?_⟩
 rintro i m σ H ⟨rfl,hi,p⟩
 have q:=hl i σ H hi p
 by_cases hlt:i<xs.length
 ·refine .inr ⟨⟨xs,xs[i],q,by simp [hlt]⟩,Pv (i+1),fun σ' H' p'=>⟨xs.length - (i+1),by omega,rfl,hlt,p'⟩,fun x H' y=>?_⟩
  obtain ⟨e,y⟩:=y
  subst e
  exact hs i x σ _ (y xs q) p
 ·have e:i=xs.length:=by omega
  subst e
  exact .inl ⟨⟨xs,q,zb _⟩,hd σ H p⟩
theorem z1f {lo:Int}{n:Nat}{g:TG}{tb:TS}{D:GN}{σ:St}{H:Hp}(Pv:Nat→St→Hp→Prop)(h0:Pv 0 σ H)
  (hs:∀i σ H,i<n→Pv i σ H→g (.int (lo+i)) σ H fun σ2 H2=>tb { D with nx:=Pv (i+1),ct:=Pv (i+1),bk:=D.nx } σ2 H2) (hd:∀σ H,Pv n σ H→D.nx σ H) :
  ForK g tb D σ (Itr lo n) H:=by
 refine ⟨fun i m σ H=>m=n - i∧i≤n∧Pv i σ H,⟨n,by simp,zk _,h0⟩,?_⟩
 rintro i m σ H ⟨rfl,hi,p⟩
 by_cases hlt:i<n
 ·refine .inr ⟨hlt,Pv (i+1),fun σ' H' p'=>⟨n - (i+1),by omega,rfl,hlt,p'⟩,fun x H' y=>?_⟩
  obtain ⟨e,y⟩:=y
  subst e y
  exact hs i σ _ hlt p
 ·have e:i=n:=by omega
  subst e
  exact .inl ⟨zb _,hd σ H p⟩
end L2
namespace L2
open PySem PySem.Spec PyProof.Rows
abbrev R2:=V→V→Hp→VK→Prop
def OpR (X:Cx)(f:Value→Value→Sem Value)(r:R2):Prop:=
 ∀(pins:List (Addr×Obj)) (s:Shared) (σ:St) (H:Hp) (x y:V) (v u:Value) (Q:VK),Inv X pins σ H s→jW x v→jW y u→r x y H Q→
  wpAny (model X.prog X.w) X.A (f v u) (EP X pins σ Q) X.xe s
def UnR (X:Cx)(f:Value→Sem Value)(r:V→Hp→VK→Prop):Prop:=
 ∀(pins:List (Addr×Obj)) (s:Shared) (σ:St) (H:Hp) (x:V) (v:Value) (Q:VK),Inv X pins σ H s→jW x v→r x H Q→
  wpAny (model X.prog X.w) X.A (f v) (EP X pins σ Q) X.xe s
def z1A (X:Cx)(f:Value)(r:List V→Hp→VK→Prop):Prop:=
 ∀(pins:List (Addr×Obj)) (s:Shared) (σ:St) (H:Hp) (xs:List V) (us:List Value) (Q:VK),Inv X pins σ H s→yO xs us→r xs H Q→
  wpAny (model X.prog X.w) X.A (call f us) (EP X pins σ Q) X.xe s
def tOp (r:R2)(ta tb:TE):TE:=fun σ H Q=>ta σ H fun x H1=>tb σ H1 fun y H2=>r x y H2 Q
def tUn (r:V→Hp→VK→Prop)(ta:TE):TE:=fun σ H Q=>ta σ H fun x H1=>r x H1 Q
inductive rI (C:Int→Int→Prop)(g:Int→Int→V)(x y:V)(H:Hp)(Q:VK):Prop | mk (i j:Int) (_:x=.int i) (_:y=.int j) (_:C i j) (_:Q (g i j) H)
inductive rI0 (g:Int→Int→V)(x y:V)(H:Hp)(Q:VK):Prop | mk (i j:Int) (_:x=.int i) (_:y=.int j) (_:Q (g i j) H)
inductive rU (g:Int→V)(x:V)(H:Hp)(Q:VK):Prop | mk (i:Int) (_:x=.int i) (_:Q (g i) H)
section
variable {X:Cx}{a b c:Expr}{ta tb tc:TE}{pos:Pos}
theorem binT (ha:PE X a ta)(hb:PE X b tb){pins:List (Addr×Obj)}{s:Shared}{σ:St}{H:Hp}{R:V→V→Hp→Prop}(I:Inv X pins σ H s)
  (h:ta σ H fun x H1=>tb σ H1 fun y H2=>R x y H2) {Q:Value→Shared→Prop} {f:Value→Value→Sem Value}
  (hf:∀v u s2 x y H2,Inv X pins σ H2 s2→jW x v→jW y u→R x y H2→wpAny (model X.prog X.w) X.A (f v u) Q X.xe s2) :
  wpAny (model X.prog X.w) X.A (eval a X.env) (fun v s₁=>wpAny (model X.prog X.w) X.A (eval b X.env) (fun u s₂=>wpAny (model X.prog X.w) X.A (f v u) Q X.xe s₂) X.xe s₁) X.xe s:=by
 refine thn (ha pins s σ H _ I h) fun v s1 ⟨x,H1,I1,r1,q1⟩=>?_
 refine thn (hb pins s1 σ H1 _ I1 q1) fun u s2 ⟨y,H2,I2,r2,q2⟩=>?_
 exact hf v u s2 x y H2 I2 r1 r2 q2
theorem jr {op:Operator}{r:R2}(ho:OpR X (binaryOp op) r)(ha:PE X a ta)(hb:PE X b tb):PE X (.BinOp a op b pos) (tOp r ta tb):=by
 intro pins s σ H Q I h
 exact wpAny_BinOp (binT ha hb I h fun v u s2 x y H2 I2 rx ry q=>ho pins s2 σ H2 x y v u Q I2 rx ry q)
theorem pe_un {op:UnaryOp}{r:V→Hp→VK→Prop}(ho:UnR X (unaryOp op) r)(ha:PE X a ta):PE X (.UnaryOp op a pos) (tUn r ta):=by
 intro pins s σ H Q I h
 exact UnaryOp_ (thn (ha pins s σ H _ I h) fun v s1 ⟨x,H1,I1,r1,q1⟩=>ho pins s1 σ H1 x v Q I1 r1 q1)
theorem opI {f:Value→Value→Sem Value}{C:Int→Int→Prop}{g:Int→Int→Int}
  (rule:∀(i j:Int) (t u:Tok) (s:Shared) (Q:Value→Shared→Prop) (E:Value→Shared→Prop),C i j→Q (.int (g i j) s.toks) { s with toks:=s.toks+1 }→wpAny (model X.prog X.w) X.A (f (.int i t) (.int j u)) Q E s) :
  OpR X f (rI C fun i j=>.int (g i j)):=by
 intro pins s σ H x y v u Q I rx ry h
 obtain ⟨i,j,rfl,rfl,hc,q⟩:=h
 obtain ⟨t,rfl⟩:=rx
 obtain ⟨t',rfl⟩:=ry
 exact rule i j t t' s _ _ hc ⟨.int (g i j),H,I.tok _,⟨_,rfl⟩,q⟩
theorem opI0 {f:Value→Value→Sem Value}{g:Int→Int→Int}
  (rule:∀(i j:Int) (t u:Tok) (s:Shared) (Q:Value→Shared→Prop) (E:Value→Shared→Prop),Q (.int (g i j) s.toks) { s with toks:=s.toks+1 }→wpAny (model X.prog X.w) X.A (f (.int i t) (.int j u)) Q E s) :
  OpR X f (rI0 fun i j=>.int (g i j)):=by
 intro pins s σ H x y v u Q I rx ry h
 obtain ⟨i,j,rfl,rfl,q⟩:=h
 obtain ⟨t,rfl⟩:=rx
 obtain ⟨t',rfl⟩:=ry
 exact rule i j t t' s _ _ ⟨.int (g i j),H,I.tok _,⟨_,rfl⟩,q⟩
theorem opB0 {f:Value→Value→Sem Value}{g:Int→Int→Bool}
  (rule:∀(i j:Int) (t u:Tok) (s:Shared) (Q:Value→Shared→Prop) (E:Value→Shared→Prop),Q (.bool (g i j)) s→wpAny (model X.prog X.w) X.A (f (.int i t) (.int j u)) Q E s) :
  OpR X f (rI0 fun i j=>.bl (g i j)):=by
 intro pins s σ H x y v u Q I rx ry h
 obtain ⟨i,j,rfl,rfl,q⟩:=h
 obtain ⟨t,rfl⟩:=rx
 obtain ⟨t',rfl⟩:=ry
 exact rule i j t t' s _ _ ⟨.bl (g i j),H,I,rfl,q⟩
def CMul (i j:Int):Prop:=(-(2 ^ 64)<i∧i<2 ^ 64)∨(-(2 ^ 64)<j∧j<2 ^ 64)
theorem CMul.ok {i j:Int}(h:CMul i j):IntMulOk i j:=by
 rcases h with ⟨h1,h2⟩ | ⟨h1,h2⟩
 ·exact .of_left (intBits_le_64 h1 h2)
 ·exact .of_right (intBits_le_64 h1 h2)
theorem Yd:OpR X (binaryOp .Add) (rI0 fun i j=>.int (i+j)):=opI0 fun _ _ _ _ _ _ _ q=>add_int q
theorem z18:OpR X (binaryOp .Sub) (rI0 fun i j=>.int (i - j)):=opI0 fun _ _ _ _ _ _ _ q=>sub_int q
theorem Qw:OpR X (binaryOp .Mult) (rI CMul fun i j=>.int (i * j)):=opI fun _ _ _ _ _ _ _ hc q=>mul_int q hc.ok
theorem unI {f:Value→Sem Value}{g:Int→Int}
  (rule:∀(i:Int) (t:Tok) (s:Shared) (Q:Value→Shared→Prop) (E:Value→Shared→Prop),Q (.int (g i) s.toks) { s with toks:=s.toks+1 }→wpAny (model X.prog X.w) X.A (f (.int i t)) Q E s) :
  UnR X f (rU fun i=>.int (g i)):=by
 intro pins s σ H x v Q I rx h
 obtain ⟨i,rfl,q⟩:=h
 obtain ⟨t,rfl⟩:=rx
 exact rule i t s _ _ ⟨.int (g i),H,I.tok _,⟨_,rfl⟩,q⟩
theorem zab:UnR X (unaryOp .USub) (rU fun i=>.int (-i)):=unI fun _ _ _ _ _ q=>neg_int q
end
def scal:V→V→Bool
 | .non,.non=>true | .non,.int _=>true | .int _,.non=>true | .non,.bl _=>true | .bl _,.non=>true | .non,.str _=>true | .str _,.non=>true
 | .int _,.int _=>true | .bl _,.bl _=>true | .str _,.str _=>true | .byt _,.byt _=>true
 | .int _,.str _=>true | .str _,.int _=>true | .bl _,.str _=>true | .str _,.bl _=>true
 | _,_=>false
def rEq:R2:=fun x y H Q=>scal x y=true∧Q (.bl (decide (x=y))) H
def rNe:R2:=fun x y H Q=>scal x y=true∧Q (.bl (!decide (x=y))) H
theorem z8T {i j:Int}:decide (V.int i=V.int j)=(i==j):=by
 rw [y8]
 simp
theorem zb1 {i j:Bool}:decide (V.bl i=V.bl j)=(i==j):=by
 rw [y8]
 simp
theorem z8S {i j:Str}:decide (V.str i=V.str j)=(i==j):=by
 rw [y8]
 simp
theorem z8U {i j:Array UInt8}:decide (V.byt i=V.byt j)=(i.toList==j.toList):=by
 rw [y8]
 cases i
 cases j
 simp
section
variable {X:Cx}{a b c:Expr}{ta tb tc:TE}{pos:Pos}
theorem jB {pins:List (Addr×Obj)}{σ:St}{H:Hp}{s:Shared}{Q:VK}{k k':Bool}(I:Inv X pins σ H s)(q:Q (.bl k) H)(e:k=k'):EP X pins σ Q (.bool k') s:=by
 subst e
 exact ⟨.bl k,H,I,rfl,q⟩
theorem Zz:OpR X (compareOp .Eq) rEq:=by
 intro pins s σ H x y v u Q I rx ry h
 obtain ⟨hs,q⟩:=h
 cases x with
 | non=>
  cases rx
  cases y with
  | non=>cases ry;exact PySem.EqNone.eq_none_none (jB I q (by simp))
  | bl j=>cases ry;exact PySem.EqNone.eq_none_bool (jB I q (by simp))
  | int j=>obtain ⟨t',rfl⟩:=ry;exact PySem.EqNone.eq_none_int (jB I q (by simp))
  | str j=>obtain ⟨t',rfl⟩:=ry;exact PySem.EqNone.eq_none_str (jB I q (by simp))
  | _=>exact absurd (show false=true from hs) zR
 | bl i=>
  cases rx
  cases y with
  | non=>cases ry;exact PySem.EqNone.eq_bool_none (jB I q (by simp))
  | bl j=>cases ry;exact eq_bool (jB I q zb1)
  | str j=>obtain ⟨t',rfl⟩:=ry;exact PySem.EqMixed.eq_bool_str (jB I q (by simp))
  | _=>exact absurd (show false=true from hs) zR
 | int i=>
  obtain ⟨t,rfl⟩:=rx
  cases y with
  | non=>cases ry;exact PySem.EqNone.eq_int_none (jB I q (by simp))
  | int j=>obtain ⟨t',rfl⟩:=ry;exact eq_int (jB I q z8T)
  | str j=>obtain ⟨t',rfl⟩:=ry;exact PySem.EqMixed.eq_int_str (jB I q (by simp))
  | _=>exact absurd (show false=true from hs) zR
 | str i=>
  obtain ⟨t,rfl⟩:=rx
  cases y with
  | non=>cases ry;exact PySem.EqNone.eq_str_none (jB I q (by simp))
  | bl j=>cases ry;exact PySem.EqMixed.eq_str_bool (jB I q (by simp))
  | int j=>obtain ⟨t',rfl⟩:=ry;exact PySem.EqMixed.eq_str_int (jB I q (by simp))
  | str j=>obtain ⟨t',rfl⟩:=ry;exact eq_str (jB I q z8S)
  | _=>exact absurd (show false=true from hs) zR
 | byt i=>
  obtain ⟨t,rfl⟩:=rx
  cases y with
  | byt j=>obtain ⟨t',rfl⟩:=ry;exact PySem.W.eq_bytes (jB I q z8U)
  | _=>exact absurd (show false=true from hs) zR
 | _=>cases y <;> exact absurd (show false=true from hs) zR
theorem op_ne:OpR X (compareOp .NotEq) rNe:=by
 intro pins s σ H x y v u Q I rx ry h
 obtain ⟨hs,q⟩:=h
 cases x with
 | non=>
  cases rx
  cases y with
  | non=>cases ry;exact PySem.EqNone.ne_none_none (jB I q (by simp))
  | bl j=>cases ry;exact PySem.EqNone.ne_none_bool (jB I q (by simp))
  | int j=>obtain ⟨t',rfl⟩:=ry;exact PySem.EqNone.ne_none_int (jB I q (by simp))
  | str j=>obtain ⟨t',rfl⟩:=ry;exact PySem.EqNone.ne_none_str (jB I q (by simp))
  | _=>exact absurd (show false=true from hs) zR
 | bl i=>
  cases rx
  cases y with
  | non=>cases ry;exact PySem.EqNone.ne_bool_none (jB I q (by simp))
  | bl j=>cases ry;exact ne_bool (jB I q (congrArg not zb1))
  | str j=>obtain ⟨t',rfl⟩:=ry;exact PySem.EqMixed.ne_bool_str (jB I q (by simp))
  | _=>exact absurd (show false=true from hs) zR
 | int i=>
  obtain ⟨t,rfl⟩:=rx
  cases y with
  | non=>cases ry;exact PySem.EqNone.ne_int_none (jB I q (by simp))
  | int j=>obtain ⟨t',rfl⟩:=ry;exact ne_int (jB I q (congrArg not z8T))
  | str j=>obtain ⟨t',rfl⟩:=ry;exact PySem.EqMixed.ne_int_str (jB I q (by simp))
  | _=>exact absurd (show false=true from hs) zR
 | str i=>
  obtain ⟨t,rfl⟩:=rx
  cases y with
  | non=>cases ry;exact PySem.EqNone.ne_str_none (jB I q (by simp))
  | bl j=>cases ry;exact PySem.EqMixed.ne_str_bool (jB I q (by simp))
  | int j=>obtain ⟨t',rfl⟩:=ry;exact PySem.EqMixed.ne_str_int (jB I q (by simp))
  | str j=>obtain ⟨t',rfl⟩:=ry;exact ne_str (jB I q (congrArg not z8S))
  | _=>exact absurd (show false=true from hs) zR
 | byt i=>
  obtain ⟨t,rfl⟩:=rx
  cases y with
  | byt j=>obtain ⟨t',rfl⟩:=ry;exact PySem.W.ne_bytes (jB I q (congrArg not z8U))
  | _=>exact absurd (show false=true from hs) zR
 | _=>cases y <;> exact absurd (show false=true from hs) zR
theorem VT:OpR X (compareOp .Lt) (rI0 fun i j=>.bl (decide (i<j))):=opB0 fun _ _ _ _ _ _ _ q=>lt_int q
theorem z2N:OpR X (compareOp .LtE) (rI0 fun i j=>.bl (decide (i≤j))):=opB0 fun _ _ _ _ _ _ _ q=>le_int q
theorem Up:OpR X (compareOp .Gt) (rI0 fun i j=>.bl (decide (j<i))):=opB0 fun _ _ _ _ _ _ _ q=>gt_int q
theorem z5Y:OpR X (compareOp .GtE) (rI0 fun i j=>.bl (decide (j≤i))):=opB0 fun _ _ _ _ _ _ _ q=>ge_int q
theorem zax:OpR X (compareOp .Is) (fun x y H Q=>y=.non∧Q (.bl (decide (x=.non))) H):=by
 intro pins s σ H x y v u Q I rx ry h
 obtain ⟨rfl,q⟩:=h
 cases ry
 refine is_none_gen (jB I q ?_)
 cases x <;> first
  | (cases rx;rfl)
  | (obtain ⟨t,rfl⟩:=rx;rfl)
theorem op_notN:OpR X (compareOp .IsNot) (fun x y H Q=>y=.non∧Q (.bl (!decide (x=.non))) H):=by
 intro pins s σ H x y v u Q I rx ry h
 obtain ⟨rfl,q⟩:=h
 cases ry
 refine isnot_none_gen (jB I q ?_)
 cases x <;> first
  | (cases rx;rfl)
  | (obtain ⟨t,rfl⟩:=rx;rfl)
theorem yj (b:Expr){op:CmpOp}(h:op≠.In:=by decide)(h2:op≠.NotIn:=by decide):behindInMarks op b=false:=by
 have e1:(op==CmpOp.In)=false:=by cases op <;> first | rfl | exact absurd rfl h
 have e2:(op==CmpOp.NotIn)=false:=by cases op <;> first | rfl | exact absurd rfl h2
 cases b <;> simp [behindInMarks,e1,e2]
theorem ZJ {op:CmpOp}{r:R2}(ho:OpR X (compareOp op) r)(ha:PE X a ta)(hb:PE X b tb)(hm:behindInMarks op b=false):PE X (.Compare a [op] [b] pos) (tOp r ta tb):=by
 intro pins s σ H Q I h
 exact wpAny_Compare1 (binT ha hb I h fun v u s2 x y H2 I2 rx ry q=>ho pins s2 σ H2 x y v u Q I2 rx ry q) hm
def z2i (t:TE):TT:=fun σ H Q=>t σ H (IsB Q)
theorem zZ {op:CmpOp}{r:R2}(ho:OpR X (compareOp op) r)(ha:PE X a ta)(hb:PE X b tb)(hm:behindInMarks op b=false):PT X (.Compare a [op] [b] pos) (z2i (tOp r ta tb)):=by
 intro pins s σ H Q I h
 refine wpAny_isTrue_Compare1 (thn (ha pins s σ H _ I h) fun v s1 ⟨x,H1,I1,r1,q1⟩=>thn (hb pins s1 σ H1 _ I1 q1) fun u s2 ⟨y,H2,I2,r2,q2⟩=>
  thn (ho pins s2 σ H2 x y v u _ I2 r1 r2 q2) fun c s3 ⟨z,H3,I3,r3,k,e,q3⟩=>?_) hm
 subst e
 cases r3
 exact wpAny_truthy_bool ⟨H3,I3,q3⟩
def tChain (r r':R2)(ta tb tc:TE):TE:=fun σ H Q=>ta σ H fun x H1=>tb σ H1 fun y H2=>r x y H2 (IsB fun k H3=>if k=true then tc σ H3 fun w' H4=>r' y w' H4 Q else Q (.bl false) H3)
theorem zaw {op op':CmpOp}{r r':R2}(ho:OpR X (compareOp op) r)(ho':OpR X (compareOp op') r')(ha:PE X a ta)(hb:PE X b tb)(hc:PE X c tc)
  (hm:lastMarks [op,op'] [b,c]=false:=by with_unfolding_all rfl):PE X (.Compare a [op,op'] [b,c] pos) (tChain r r' ta tb tc):=by
 intro pins s σ H Q I h
 refine Compare_chain (thn (ha pins s σ H _ I h) fun v s1 ⟨x,H1,I1,r1,q1⟩=>chain_link (thn (hb pins s1 σ H1 _ I1 q1) fun u s2 ⟨y,H2,I2,r2,q2⟩=>
  thn (ho pins s2 σ H2 x y v u _ I2 r1 r2 q2) fun d s3 ⟨z,H3,I3,r3,k,e,q3⟩=>?_)) hm
 subst e
 cases r3
 refine wpAny_truthy_bool ?_
 cases k with
 | false=>exact ite_ff ⟨.bl false,H3,I3,rfl,q3⟩
 | true=>exact ite_tt (chain_last (thn (hc pins s3 σ H3 _ I3 q3) fun w' s4 ⟨z',H4,I4,r4,q4⟩=>ho' pins s4 σ H4 y z' u w' Q I4 r2 r4 q4))
theorem z85:(sizeLine:Nat)<2 ^ 63:=by rw [sizeLine_eq];decide
theorem z2e {x:V}{us:List Value}(r:yO [x] us):∃u,us=[u]∧jW x u:=by
 cases r with
 | cons r1 r2=>cases r2;exact ⟨_,rfl,r1⟩
theorem vals2 {x y:V}{us:List Value}(r:yO [x,y] us):∃u w',us=[u,w']∧jW x u∧jW y w':=by
 cases r with
 | cons r1 r2=>
  cases r2 with
  | cons r3 r4=>cases r4;exact ⟨_,_,rfl,r1,r3⟩
theorem z9U (hc:X.calm=true):z1A X (.builtin "min") (fun xs H Q=>∃i j,xs=[.int i,.int j]∧Q (.int (if j<i then j else i)) H):=by
 intro pins s σ H xs us Q I r h
 obtain ⟨i,j,rfl,q⟩:=h
 obtain ⟨u,w',rfl,⟨t,rfl⟩,⟨t',rfl⟩⟩:=vals2 r
 refine min_two_ints (I.ok.hd hc) fun h' tk k=>⟨_,H,I.kept k,?_,q⟩
 by_cases hj:j<i
 ·rw [if_pos hj,if_pos hj];exact ⟨_,rfl⟩
 ·rw [if_neg hj,if_neg hj];exact ⟨_,rfl⟩
end
end L2
namespace L2
open PySem PySem.Spec PyProof.Rows
structure ObjM (h:Heap)(x dx C:Addr)(mA:Str→Option Value):Prop where
 obj:h.get? x=some (ZM C dx)
 ns:h.Ns1 dx mA
 ne:dx≠x
theorem z9F {h:Heap}{dx:Addr}{mA:Str→Option Value}(n:h.Ns1 dx mA):∃od,h.get? dx=some od∧∀name,qy name od=some (mA name):=by
 obtain ⟨o,es,ep,ho,hd,hk,_,hm⟩:=n
 refine ⟨o,ho,fun name=>?_⟩
 have e:=hm name
 unfold nsFind findBy at e
 rw [←Array.find?_toList] at e
 unfold qy
 rw [hd]
 dsimp only
 split
 ·rename_i y q
  rw [q] at e
  exact congrArg some e
 ·rename_i q
  rw [q] at e
  have a:es.toList.any (·.refKey)=false:=by
   rw [List.any_eq_false]
   intro y hy
   obtain ⟨z,t,hkey⟩:=hk y (Array.mem_toList_iff.mp hy)
   simp [DictEntry.refKey,hkey]
  have a':¬es.toList.any (·.refKey)=true:=by rw [a];exact zR
  rw [if_neg a']
  exact congrArg some e
theorem ObjM.look {h:Heap}{x dx C:Addr}{mA:Str→Option Value}(I:ObjM h x dx C mA):∃od,PySem.W.InstAt h x (ZM C dx) C (some od)∧∀name,qy name od=some (mA name):=
 let ⟨od,ho,hl⟩:=z9F I.ns
 ⟨od,⟨I.obj,rfl,rfl,ho⟩,hl⟩
section
variable {prog:Program}{w:World}{A:Around}{E:Value→Shared→Prop}{s:Shared}{K:z4}{x dx C f:Addr}{mA:Str→Option Value}{name:Str}{v:Value}
theorem get_map {expr:Bool}{Q:Value→Shared→Prop}(X:K.In s.heap)(I:ObjM s.heap x dx C mA)(hg:Gc K C name=true)(hh:z0B K C=true)
  (ha:Zw K (.ref C) name=some none) (hv:mA name=some v) (hv':PySem.W.handedIn v=true) (h:Q v { s with toks:=s.toks+1 }) :
  wpAny (model prog w) A (getAttr (.ref x) name expr) Q E s:=by
 obtain ⟨od,J,hl⟩:=I.look
 exact PySem.W.get_value X J (qR hg).1 (PySem.W.findObj_own hh ha rfl (by rw [hl,hv])) hv' h
theorem zaW {pl:Sem Bool}{Q:Value×List Value→Shared→Prop}(X:K.In s.heap)(I:ObjM s.heap x dx C mA)(hg:Gc K C name=true)
  (hf:Zw K (.ref C) name=some (some (.ref f))) (ht:z5n K (.ref f)=true) (hv:mA name=none) (h:Q (.ref f,[.ref x]) s) :
  wpAny (model prog w) A (getMethod (.ref x) name pl) Q E s:=by
 obtain ⟨od,J,hl⟩:=I.look
 exact PySem.W.method_fn X J (qR hg).1 (qR hg).2 hf (beq_iff_eq.mp ht) (by show (qy name od).map (·.isSome)=some false;rw [hl,hv];rfl) h
theorem set_map {ns:List Str}{Q:Unit→Shared→Prop}(X:K.In s.heap)(I:ObjM s.heap x dx C mA)
  (hs:Zw K (.ref C) "__setattr__"=some (some (.builtin "object.__setattr__"))) (hp:za1 K C=true) (ht:z25 K C name=some none) (hh:z0B K C=true)
  (hw:z6M mA ns) (hsz:ns.length≤sizeLine)
  (h:∀h',ObjM h' x dx C (fun y=>if y=name then some v else mA y)→z1N dx s.heap h'→Q () { s with heap:=h',toks:=s.toks+2 }) :
  wpAny (model prog w) A (setAttr (.ref x) name v) Q E s:=by
 obtain ⟨od,J,hl⟩:=I.look
 refine PySem.W.set_plain X J hs (PySem.W.osa_open (s:={ s with toks:=s.toks+1 }) (r:=none) X J hp ht fun b=>?_)
 obtain ⟨cd,hc,hd'⟩:=PySem.W.any_some hh
 have hx:s.heap.get? x=some ⟨.ref C,some dx,.plain,#[]⟩:=I.obj
 refine wpAny_bind (wpAny_pure (wpAny_bind (wpAny_bind (wpAny_loadPart hx (wpAny_bind (PySem.W.Looks.here (s:={ s with toks:=s.toks+1 }) (PySem.W.looks_clsIn X hc) ?_))))))
 rw [hd']
 refine wpAny_pure (a:=some dx) (wpAny_bind (wpAny_pure (wpAny_bind ?_)))
 refine wpAny_nsSet1 (s:={ s with toks:=s.toks+1 }) I.ns fun h' hn2 hs2=>?_
 obtain ⟨oD,esD,epD,hoD,hdD,hcD⟩:=hn2.count (z6M.cons name v hw)
 refine wpAny_bind (wpAny_lookBehind hoD (by rw [hdD];exact pastItsLine_dict (zd hcD (by rw [zu];omega))) ?_)
 exact wpAny_pure (h _ ⟨(hs2.2 _ (j1 I.ne)).trans I.obj,hn2,I.ne⟩ hs2)
theorem zaK {R:Result→Shared→Prop}{vs:List Value}{kw:List (Str×Value)}(X:K.In s.heap)(hm:PySem.W.makesIn K C=true)
  (hi:Zw K (.ref C) "__init__"=some (some (.ref f))) (hf:PySem.W.typeIn K (.ref f)=some (.type "function"))
  (h:codeAny (model prog w) (A.under (.builtin "type.__call__" ⟨.ref C::vs,kw⟩)) (.call (.ref f) ⟨.ref (s.heap.objs.size+1)::vs,kw⟩) (PySem.W.InitBack (s.heap.objs.size+1) R)
   { s with heap:=(s.heap.push jV).push (ZM C s.heap.objs.size) }) :
  codeAny (model prog w) A (.call (.ref C) ⟨vs,kw⟩) R s:=by
 obtain ⟨hh,g,d,t,os⟩:=s
 exact PySem.W.make_core (PySem.W.makes_of X hm) (PySem.W.looks_findIn X hi) (fun self=>PySem.W.bind_fn X self hf) (.inl rfl) h
end
def Jt (f:Str)(v:V):List (Str×V)→List (Str×V)
 | []=>[(f,v)]
 | (g,x)::r=>if g=f then (g,v)::r else (g,x)::Jt f v r
theorem z1r (f g:Str)(v:V):∀fs:List (Str×V),(Jt f v fs).lookup g=if g=f then some v else fs.lookup g
 | []=>by
  show JJ g [(f,v)]=_
  by_cases h:g=f
  ·have hb:(g==f)=true:=beq_iff_eq.mpr h
   simp only [JJ,hb,if_pos h]
  ·have hb:(g==f)=false:=beq_eq_false_iff_ne.mpr h
   simp only [JJ,hb,if_neg h]
 | (k,x)::r=>by
  have ih:=z1r f g v r
  rw [show Jt f v ((k,x)::r)=(if k=f then (k,v)::r else (k,x)::Jt f v r) from rfl]
  by_cases hk:k=f
  ·rw [if_pos hk]
   by_cases h:g=k
   ·have hb:(g==k)=true:=beq_iff_eq.mpr h
    simp only [JJ,hb,if_pos (h.trans hk)]
   ·have hb:(g==k)=false:=beq_eq_false_iff_ne.mpr h
    simp only [JJ,hb,if_neg (fun e:g=f=>h (e.trans hk.symm))]
  ·rw [if_neg hk]
   by_cases h:g=k
   ·have hb:(g==k)=true:=beq_iff_eq.mpr h
    simp only [JJ,hb,if_neg (fun e:g=f=>hk (h.symm.trans e))]
   ·have hb:(g==k)=false:=beq_eq_false_iff_ne.mpr h
    simp only [JJ,hb]
    exact ih
theorem z1e (f:Str)(v:V):∀fs:List (Str×V),f∈(Jt f v fs).map (·.1)∧∀g,g∈fs.map (·.1)→g∈(Jt f v fs).map (·.1)
 | []=>⟨by simp [Jt],fun g h=>by simp at h⟩
 | (k,x)::r=>by
  obtain ⟨i1,i2⟩:=z1e f v r
  rw [show Jt f v ((k,x)::r)=(if k=f then (k,v)::r else (k,x)::Jt f v r) from rfl]
  by_cases hk:k=f
  ·rw [if_pos hk]
   subst hk
   exact ⟨by simp,fun g h=>by simpa using h⟩
  ·rw [if_neg hk]
   refine ⟨?_,fun g h=>?_⟩
   ·rw [zJ]
    exact zg _ i1
   ·rw [zJ] at h ⊢
    rcases zx.mp h with e | e
    ·exact zx.mpr (.inl e)
    ·exact zg _ (i2 g e)
theorem z1t (f:Str)(v:V):∀fs:List (Str×V),(Jt f v fs).length≤fs.length+1
 | []=>by simp [Jt]
 | (k,x)::r=>by
  have ih:=z1t f v r
  rw [show Jt f v ((k,x)::r)=(if k=f then (k,v)::r else (k,x)::Jt f v r) from rfl]
  by_cases hk:k=f
  ·rw [if_pos hk,zu,zu];omega
  ·rw [if_neg hk,zu,zu];omega
theorem z3v.some_of {v:V}{o:Option Value}(r:z3v (some v) o):∃u,o=some u∧jW v u:=by
 cases o with
 | none=>exact (show False from r).elim
 | some u=>exact ⟨u,rfl,r⟩
theorem z3v.none_of {o:Option Value}(r:z3v none o):o=none:=by
 cases o with
 | none=>rfl
 | some u=>exact (show False from r).elim
theorem z9O {v:V}{u:Value}(r:jW v u):PySem.W.handedIn u=true:=by
 cases v with
 | non=>cases (show u=GY from r);rfl
 | bl b=>cases (show u=Vj b from r);rfl
 | int i=>obtain ⟨t,e⟩:=(show ∃t,u=W7 i t from r);cases e;rfl
 | str x=>obtain ⟨t,e⟩:=(show ∃t,u=Value.str x t from r);cases e;rfl
 | byt b=>obtain ⟨t,e⟩:=(show ∃t,u=Value.bytes b t from r);cases e;rfl
 | flt b=>obtain ⟨t,e⟩:=(show ∃t,u=Value.float b t from r);cases e;rfl
 | ref a=>cases (show u=yU a from r);rfl
 | ty n=>cases (show u=Yr n from r);rfl
section
variable {P:Program}{w:World}{H H':Hp}{h h':Heap}{a C dx:Addr}{fs fs':List (Str×V)}
theorem z56 (hok:HOk P w H h)(e:H a=some (.ins C dx fs)):∃mA,ObjM h a dx C mA∧(∀f,z3v (fs.lookup f) (mA f))∧z6M mA (fs.map (·.1))∧fs.length≤1000∧H dx=some (.own a):=by
 obtain ⟨d,z,ne,ob,mA,n,r,q⟩:=(show YS P w H h a (.ins C dx fs) from hok a _ e)
 exact ⟨mA,⟨ob,n,ne⟩,r,q,z,d⟩
end
structure Cls (K:z4)(C:Addr):Prop where
 pg:Gc K C Str.empty=true
 hd:z0B K C=true
 po:za1 K C=true
 sa:Zw K (.ref C) "__setattr__"=some (some (.builtin "object.__setattr__"))
theorem Cls.get {K:z4}{C:Addr}(c:Cls K C)(f:Str):Gc K C f=true:=c.pg
def GM (K:z4)(C:Addr)(f:Str):Prop:=Zw K (.ref C) f=some none
theorem GM.taker {K:z4}{C:Addr}{f:Str}(n:GM K C f):z25 K C f=some none:=by
 unfold z25
 rw [show Zw K (.ref C) f=some none from n]
 rfl
structure Meth (K:z4)(C:Addr)(m:Str)(f:Addr):Prop where
 at_:Zw K (.ref C) m=some (some (.ref f))
 fn:z5n K (.ref f)=true
 kp:YG K (.ref f)=true
section
variable {X:Cx}{pins:List (Addr×Obj)}{σ:St}{H:Hp}{s:Shared}{a C dx:Addr}{fs:List (Str×V)}{f:Str}{v:V}{A:Around}{E:Value→Shared→Prop}
theorem z30 {b:Bool}{Q:Value→Shared→Prop}(I:Inv X pins σ H s)(e:H a=some (.ins C dx fs))(c:Cls X.K C)(n:GM X.K C f)(l:fs.lookup f=some v)
  (h:∀u s',Inv X pins σ H s'→jW v u→Q u s'):wpAny (model X.prog X.w) A (getAttr (.ref a) f b) Q E s:=by
 obtain ⟨mA,O,r,_,_,_⟩:=z56 I.hok e
 obtain ⟨u,hu,ru⟩:=z3v.some_of (v:=v) (o:=mA f) (by rw [←l];exact r f)
 exact get_map I.kIn O (c.get f) c.hd n hu (z9O ru) (h u _ (I.tok _) ru)
theorem z2Z {m:Str}{g:Addr}{pl:Sem Bool}{Q:Value×List Value→Shared→Prop}(I:Inv X pins σ H s)(e:H a=some (.ins C dx fs))(c:Cls X.K C)(k:Meth X.K C m g)(l:fs.lookup m=none)
  (h:Q (.ref g,[.ref a]) s):wpAny (model X.prog X.w) A (getMethod (.ref a) m pl) Q E s:=by
 obtain ⟨mA,O,r,_,_,_⟩:=z56 I.hok e
 have hn:mA m=none:=z3v.none_of (by rw [←l];exact r m)
 exact zaW I.kIn O (c.get m) k.at_ k.fn hn h
theorem z2r {y:V}{u:Value}{Q:Unit→Shared→Prop}(I:Inv X pins σ H s)(e:H a=some (.ins C dx fs))(c:Cls X.K C)(n:GM X.K C f)(hl:fs.length<1000)(ry:jW y u)
  (h:∀s',Inv X pins σ (upd H a (.ins C dx (Jt f y fs))) s'→Q () s'):wpAny (model X.prog X.w) A (setAttr (.ref a) f u) Q E s:=by
 obtain ⟨mA,O,r,wi,_,ho⟩:=z56 I.hok e
 have hz:(fs.map (·.1)).length≤sizeLine:=by rw [z0,sizeLine_eq];omega
 refine set_map I.kIn O c.sa c.po n.taker c.hd wi hz fun h' O' sb=>h _ ?_
 have hd:∃o,h'.get? dx=some o:=let ⟨o,_,_,e',_⟩:=O'.ns;⟨o,e'⟩
 refine I.write (x:=a) (e:=dx) (by rw [e];exact UJ) (.inr ho) (fun b q hb z=>(sb.2 b hb).trans z) hd ?_
 refine ⟨by rw [zl O.ne];exact ho,?_,O.ne,O'.obj,_,O'.ns,fun g=>?_,fun g hg=>?_⟩
 ·have:=z1t f y fs;omega
 ·show z3v ((Jt f y fs).lookup g) (if g=f then some u else mA g)
  rw [z1r]
  by_cases q:g=f
  ·rw [if_pos q,if_pos q];exact ry
  ·rw [if_neg q,if_neg q];exact r g
 ·by_cases q:g=f
  ·rw [q];exact (z1e f y fs).1
  ·refine (z1e f y fs).2 g (wi g fun z=>hg ?_)
   show (if g=f then some u else mA g)=none
   rw [if_neg q];exact z
theorem Inv.made (I:Inv X pins σ H s):Inv X pins σ (upd (upd H s.heap.objs.size (.own (s.heap.objs.size+1))) (s.heap.objs.size+1) (.ins C s.heap.objs.size []))
  { s with heap:=(s.heap.push jV).push (ZM C s.heap.objs.size) }:=by
 have e1:(s.heap.push jV).get? s.heap.objs.size=some jV:=yd s.heap rfl
 have e2:((s.heap.push jV).push (ZM C s.heap.objs.size)).get? (s.heap.objs.size+1)=some (ZM C s.heap.objs.size):=by
  have:=yd (s.heap.push jV) (o:=ZM C s.heap.objs.size) rfl
  rwa [yN] at this
 have e3:(s.heap.push jV).Ns s.heap.objs.size (fun _=>none):=⟨jV,#[],_,e1,rfl,(fun e he=>absurd he (by simp)),fun _=>rfl⟩
 have I1:=I.laid (a:=s.heap.objs.size) (o:=.own (s.heap.objs.size+1)) (h':=s.heap.push jV) (t':=s.toks) (fun b u q=>ze _ q) (zb _) ⟨_,e1⟩
 refine I1.laid (a:=s.heap.objs.size+1) (o:=.ins C s.heap.objs.size []) (t':=s.toks) (fun b u q=>ze _ q) (Wt (yN _ _)) ?_
 have ne:s.heap.objs.size≠s.heap.objs.size+1:=yF (Yi _)
 refine ⟨by rw [zl ne,z5],zk _,ne,e2,fun _=>none,(Heap.Ns1.of_empty e3).at fun o q=>ze _ q,fun _=>UJ,fun y hy=>absurd rfl hy⟩
theorem attr_of {prog:Program}{w:World}{env:Env}{e:Expr}{f:Str}{pos:Pos}{s:Shared}{Q:Value→Shared→Prop}(hb:attributeBase e f env (eval e env)=eval e env)
  (h:wpAny (model prog w) A (eval e env) (fun o s₁=>wpAny (model prog w) A (getAttr o f true) Q E s₁) E s):wpAny (model prog w) A (eval (.Attribute e f pos) env) Q E s:=
 Attribute_any_ h (by rw [arm_eval_Attribute,hb])
end
inductive FldK (K:z4)(f:Str)(Q:VK)(x:V)(H:Hp):Prop | mk (a C dx:Addr) (fs:List (Str×V)) (v:V) (_:x=.ref a) (_:H a=some (.ins C dx fs)) (_:Cls K C) (_:GM K C f) (_:fs.lookup f=some v) (_:Q v H)
def V5 (K:z4)(ta:TE)(f:Str):TE:=fun σ H Q=>ta σ H (FldK K f Q)
inductive FldS (K:z4)(f:Str)(y:V)(Q:Hp→Prop)(x:V)(H:Hp):Prop | mk (a C dx:Addr) (fs:List (Str×V)) (_:x=.ref a) (_:H a=some (.ins C dx fs)) (_:Cls K C) (_:GM K C f) (_:fs.length<1000) (_:Q (upd H a (.ins C dx (Jt f y fs))))
def sFld (K:z4)(ta tv:TE)(f:Str):TS:=fun D σ H=>tv σ H fun y H1=>ta σ H1 (FldS K f y (D.nx σ))
def InOp (X:Cx)(op:Operator)(rd:V→V→Hp→VK→Prop):Prop:=
 ∀(pins:List (Addr×Obj)) (s:Shared) (σ:St) (H:Hp) (x y:V) (u v:Value) (Q:VK),Inv X pins σ H s→jW x u→jW y v→rd x y H Q→wpAny (model X.prog X.w) X.A (inplaceOp op u v) (EP X pins σ Q) X.xe s
inductive FldB (K:z4)(f:Str)(Q:Addr→Addr→V→Prop)(x:V)(H:Hp):Prop | mk (a C dx:Addr) (fs:List (Str×V)) (v:V) (_:x=.ref a) (_:H a=some (.ins C dx fs)) (_:Cls K C) (_:GM K C f) (_:fs.lookup f=some v) (_:Q a C v)
inductive FldC (f:Str)(Q:Hp→Prop)(a C:Addr)(z:V)(H:Hp):Prop | mk (dx:Addr) (fs:List (Str×V)) (_:H a=some (.ins C dx fs)) (_:fs.length<1000) (_:Q (upd H a (.ins C dx (Jt f z fs))))
def sFldAug (K:z4)(ta tv:TE)(rd:V→V→Hp→VK→Prop)(f:Str):TS:=fun D σ H=>ta σ H fun x H1=>FldB K f (fun a C v=>tv σ H1 fun y H2=>rd v y H2 (FldC f (D.nx σ) a C)) x H1
section
variable {X:Cx}{o e value:Expr}{f:Str}{pos pos' tpos:Pos}{ta tv:TE}
theorem zm (he:PE X e ta)(hb:attributeBase e f X.env (eval e X.env)=eval e X.env):PE X (.Attribute e f pos) (V5 X.K ta f):=by
 intro pins s σ H Q I h
 refine attr_of hb (thn (he pins s σ H _ I h) fun u s1 ⟨x,H1,I1,rx,a,C,dx,fs,v,ex,ea,c,n,l,q⟩=>?_)
 subst ex
 obtain rfl:u=yU a:=rx
 exact z30 I1 ea c n l fun u' s2 I2 ru=>⟨v,H1,I2,ru,q⟩
theorem jk (ha:PE X o ta)(hv:PE X value tv)(hs:swapsWith value (some (.Attribute o f pos')) pos.line X.env=pure false):PS X (.Assign [.Attribute o f pos'] value pos) (sFld X.K ta tv f):=by
 intro pins s σ H D I h
 refine plainObj_wpAny_Assign_Attribute (thn (hv pins s σ H _ I h) fun u s1 ⟨y,H1,I1,ry,q⟩=>thn (ha pins s1 σ H1 _ I1 q) fun ov s2 ⟨x,H2,I2,rx,a,C,dx,fs,ex,ea,c,n,l,q2⟩=>?_) hs
 subst ex
 obtain rfl:ov=yU a:=rx
 exact z2r I2 ea c n l ry fun s3 I3=>⟨σ,_,I3,q2⟩
theorem z9n {op:Operator}{rd:V→V→Hp→VK→Prop}(ha:PE X o ta)(hv:PE X value tv)(hop:InOp X op rd):PS X (.AugAssign (.Attribute o f tpos) op value pos) (sFldAug X.K ta tv rd f):=by
 intro pins s σ H D I h
 refine wpAny_AugAssign_AttributeAny (thn (ha pins s σ H _ I h) fun ov s1 ⟨x,H1,I1,rx,a,C,dx,fs,v,ex,ea,c,n,l,q⟩=>?_)
 subst ex
 obtain rfl:ov=yU a:=rx
 refine z30 I1 ea c n l fun u s2 I2 ru=>thn (hv pins s2 σ H1 _ I2 q) fun w3 s3 ⟨y,H2,I3,ry,q3⟩=>thn (hop pins s3 σ H2 v y u w3 _ I3 ru ry q3) fun w4 s4 ⟨z,H3,I4,rz,dx',fs',ea',l',q4⟩=>?_
 exact z2r I4 ea' c n l' rz fun s5 I5=>⟨σ,_,I5,q4⟩
inductive rAdd (x y:V)(H:Hp)(Q:VK):Prop | mk (i j:Int) (_:x=.int i) (_:y=.int j) (_:Q (.int (i+j)) H)
theorem in_add:InOp X .Add rAdd:=by
 rintro pins s σ H x y u v Q I rx ry ⟨i,j,rfl,rfl,q⟩
 obtain ⟨t,rfl⟩:=(show ∃t,u=W7 i t from rx)
 obtain ⟨t',rfl⟩:=(show ∃t',v=W7 j t' from ry)
 exact PyProof.Rows.iadd_int ⟨.int (i+j),H,I.tok _,⟨_,rfl⟩,q⟩
end
end L2
namespace L2
open PySem PySem.Spec PyProof.Rows
structure Yu (k:Nat)(A:Around):Prop where
 hd:A.handled=none
 dp:A.depth+3 * k+5<recursionLimit
 un:A.units+16 * k+200<cLine
theorem Yu.mono {j k:Nat}{A:Around}(r:Yu k A)(h:j≤k):Yu j A:=⟨r.hd,by have:=r.dp;omega,by have:=r.un;omega⟩
theorem Yu.deeper {k:Nat}{A:Around}(r:Yu (k+1) A)(env:Env):Yu k (A.deeper env):=
 ⟨r.hd,by have:=r.dp;show A.depth+1+3 * k+5<_;omega,by have:=r.un;show A.units+3+16 * k+200<_;omega⟩
theorem z84 {A:Around}{C:Addr}{us:List Value}{kw:List (Str×Value)}:(A.under (.builtin "type.__call__" ⟨.ref C::us,kw⟩)).depth=A.depth+1:=by
 first | rfl | simp [z6K,Code.weight,Code.isCreation,Code.isGuard,Code.isCaller,Code.frames,z8r,guardIds]
theorem z83 {A:Around}{C:Addr}{us:List Value}{kw:List (Str×Value)}:(A.under (.builtin "type.__call__" ⟨.ref C::us,kw⟩)).units=A.units+1:=by
 first | rfl | simp [z6K,Code.cUnits,Code.frames,z8r]
theorem Yu.make {k:Nat}{A:Around}(r:Yu (k+1) A)(C:Addr)(us:List Value)(kw:List (Str×Value)):Yu k (A.under (.builtin "type.__call__" ⟨.ref C::us,kw⟩)):=
 ⟨r.hd,by have:=r.dp;rw [z84];omega,by have:=r.un;rw [z83];omega⟩
theorem Yu.depth {k:Nat}{A:Around}(r:Yu k A):A.depth<recursionLimit:=by have:=r.dp;omega
theorem Yu.units {k:Nat}{A:Around}(r:Yu k A):A.units+64<cLine:=by have:=r.un;omega
def Yl:TA:=fun _ H Q=>Q [] H
def j6 (ta:TE)(tr:TA):TA:=fun σ H Q=>ta σ H fun x H1=>tr σ H1 fun xs H2=>Q (x::xs) H2
section
variable {X:Cx}{e:Expr}{es:List Expr}{te:TE}{t:TA}{pos:Pos}
theorem z7:PA X [] Yl:=fun _ _ _ _ H Q I h=>z1C ⟨[],H,I,.nil,h⟩
theorem z3 (ha:PE X e te)(hr:PA X es t)(hs:starEach (e::es) X.env=(false,eval e X.env)::starEach es X.env:=by rfl):PA X (e::es) (j6 te t):=by
 intro pos pins s σ H Q I h
 rw [hs]
 show wpAny _ _ (spliced ((false,eval e X.env)::backTo pos (starEach es X.env))) _ _ s
 refine z0C (thn (ha pins s σ H _ I h) fun u s1 ⟨x,H1,I1,r1,q1⟩=>?_)
 exact thn (hr pos pins s1 σ H1 _ I1 q1) fun us s2 ⟨xs,H2,I2,r2,q2⟩=>⟨x::xs,H2,I2,.cons r1 r2,q2⟩
def tTup (t:TA):TE:=fun σ H Q=>t σ H fun xs H1=>xs.length≤sizeLine∧∀p,H1 p=none→Q (.ref p) (upd H1 p (.tup xs))
def z4d (t:TA):TE:=fun σ H Q=>t σ H fun xs H1=>xs.length≤sizeLine∧∀p,H1 p=none→Q (.ref p) (upd H1 p (.lst xs))
theorem z4D {x1}(h:PA X es t):PE X (.Tuple es x1 pos) (tTup t):=by
 intro pins s σ H Q I hq
 refine wpAny_Tuple_spliced (thn (h pos pins s σ H _ I hq) fun us s1 ⟨xs,H1,I1,r,z,q⟩=>⟨by rw [←r.length];exact z,?_⟩)
 have hf:H1 s1.heap.objs.size=none:=I1.hok.fresh (zb _)
 refine ⟨.ref s1.heap.objs.size,upd H1 s1.heap.objs.size (.tup xs),I1.laid (t':=s1.toks) (fun b u e=>ze _ e) (zb _) ?_,rfl,q _ hf⟩
 exact ⟨z,us,r,⟨_,yd _ rfl,rfl,_,rfl⟩⟩
theorem yy (h:PA X es t):PE X (.List es pos) (z4d t):=by
 intro pins s σ H Q I hq
 refine wpAny_List_spliced (thn (h pos pins s σ H _ I hq) fun us s1 ⟨xs,H1,I1,r,z,q⟩=>⟨by rw [←r.length];exact z,?_⟩)
 have hf:H1 s1.heap.objs.size=none:=I1.hok.fresh (zb _)
 refine ⟨.ref s1.heap.objs.size,upd H1 s1.heap.objs.size (.lst xs),I1.laid (t':=s1.toks) (fun b u e=>ze _ e) (zb _) ?_,rfl,q _ hf⟩
 exact ⟨z,us,0,r,yd _ rfl⟩
end
abbrev Sp:=List V→Hp→VK→XK→Prop
abbrev CXT:=List Env→Hp→Shared→XK→Value→Shared→Prop
structure Env0 (P:Program)(w:World)(K:z4)(mg:Str→Option Value)(base:Heap)(A:Around)(outer:List Env)(s:Shared)(H:Hp):Prop where
 frames:A.frames=some outer
 mod:Mod K mg base
 bs:∀b o,base.get? b=some o→s.heap.get? b=some o∧H b=none
 bsz:base.objs.size≤s.heap.objs.size
 funs:s.heap.FunFrames base outer
 frf:∀b∈frs outer,H b=none
 hok:HOk P w H s.heap
 bare:AllBare s.gens
inductive CE (outer:List Env)(P:Program)(w:World)(H:Hp)(s:Shared)(Q:VK)(u:Value)(s':Shared):Prop | mk (v:V) (H':Hp) (_:s'.os=s.os) (_:AllBare s'.gens) (_:Un (frs outer) [] H H' s.heap s'.heap) (_:HOk P w H' s'.heap) (_:jW v u) (_:Q v H')
def CR (CX:CXT)(outer:List Env)(P:Program)(w:World)(H:Hp)(s:Shared)(Q:VK)(E:XK)(r:Result)(s':Shared):Prop:=
 match r with
 | .ok (.ret u)=>CE outer P w H s Q u s'
 | .ok _=>False
 | .error e=>CX outer H s E e s'
structure GX (P:Program)(w:World)(K:z4)(mg:Str→Option Value)(base:Heap)(CX:CXT)(k:Nat)(f:Addr)(fd:FuncData)(ps:List Str)(sp:Sp):Prop where
 len:∀vs H Q E,sp vs H Q E→vs.length=ps.length
 run:∀(A:Around) (outer:List Env) (s:Shared) (H:Hp) (args:Args) (us:List Value) (vs:List V) (Q:VK) (E:XK),Yu k A→Env0 P w K mg base A outer s H→BindsTo s fd args (ps.zip us)→yO vs us→sp vs H Q E→
  codeAny (model P w) A (.call (.ref f) args) (CR CX outer P w H s Q E) s
theorem GX.mono {P:Program}{w:World}{K:z4}{mg:Str→Option Value}{base:Heap}{CX:CXT}{j k:Nat}{f:Addr}{fd:FuncData}{ps:List Str}{sp:Sp}(F:GX P w K mg base CX j f fd ps sp)(h:j≤k) :
 GX P w K mg base CX k f fd ps sp:=⟨F.len,fun A outer s H args us vs Q E hr=>F.run A outer s H args us vs Q E (hr.mono h)⟩
theorem Env0.make {P:Program}{w:World}{K:z4}{mg:Str→Option Value}{base:Heap}{A:Around}{outer:List Env}{s:Shared}{H:Hp}(e:Env0 P w K mg base A outer s H)(C:Addr)(us:List Value)(kw:List (Str×Value)) :
 Env0 P w K mg base (A.under (.builtin "type.__call__" ⟨.ref C::us,kw⟩)) outer s H:=⟨by first | exact e.frames | (simpa [z6K,Code.envs,z8r,pushEnvs] using e.frames),e.mod,e.bs,e.bsz,e.funs,e.frf,e.hok,e.bare⟩
section
variable {X:Cx}{pins:List (Addr×Obj)}{σ:St}{H:Hp}{s s':Shared}
theorem Inv.env0 (I:Inv X pins σ H s):Env0 X.prog X.w X.K X.mg X.base X.A X.stack s H:=
 ⟨I.ok.frames,I.ok.mod,I.bs,zd I.ok.bsz I.sz,I.stack,I.stkFree,I.hok,I.bare⟩
theorem Inv.after {Q:VK}{u:Value}(I:Inv X pins σ H s)(h:CE X.stack X.prog X.w H s Q u s'):EP X pins σ Q u s':=by
 obtain ⟨v,H',os,bare,un,hok,r,q⟩:=h
 obtain ⟨hh,g,d,t,os'⟩:=s'
 obtain rfl:os'=s.os:=os
 exact ⟨v,H',I.call (h':=hh) (g':=g) (d':=d) (t':=t) (ch:=[]) un hok bare (fun b z=>absurd z (by simp)),r,q⟩
end
def tCall (sp:Sp)(dvs:List V)(E:XK)(t:TA):TE:=fun σ H Q=>t σ H fun vs H1=>sp (vs++dvs) H1 Q E
inductive MetK (C:Addr)(m:Str)(x:V)(H:Hp)(R:Prop):Prop | mk (a dx:Addr) (fs:List (Str×V)) (_:x=.ref a) (_:H a=some (.ins C dx fs)) (_:fs.lookup m=none) (_:R)
def z8v (C:Addr)(m:Str)(sp:Sp)(dvs:List V)(E:XK)(ta:TE)(t:TA):TE:=fun σ H Q=>ta σ H fun x H1=>MetK C m x H1 (t σ H1 fun vs H2=>sp (x::(vs++dvs)) H2 Q E)
def z8w (C:Addr)(sp:Sp)(dvs:List V)(E:XK)(t:TA):TE:=fun σ H Q=>t σ H fun vs H1=>∀x dx,H1 x=none→H1 dx=none→dx≠x→
 sp (.ref x::(vs++dvs)) (upd (upd H1 dx (.own x)) x (.ins C dx [])) (fun v H2=>v=.non∧Q (.ref x) H2) E
def GT (K:z4)(fd:FuncData)(ps:List Str)(ds:List Value):Prop:=
 ∀(s:Shared) (us:List Value),K.In s.heap→(us++ds).length=ps.length→BindsTo s fd ⟨us,[]⟩ (ps.zip (us++ds))
theorem GT.all {K:z4}{fd:FuncData}{ps:List Str}(h:∀us:List Value,us.length=ps.length→bindArgs fd ⟨us,[]⟩=pure (ps.zip us)):GT K fd ps []:=fun s us _ hl=>by
 rw [jn] at hl ⊢
 exact .of_eq (h us hl)
def JD (CX:CXT)(X:Cx)(E:XK):Prop:=∀(pins:List (Addr×Obj)) (σ:St) (H:Hp) (s:Shared) (e:Value) (s':Shared),Inv X pins σ H s→CX X.stack H s E e s'→X.xe e s'
section
variable {X:Cx}{CX:CXT}{k:Nat}{f C:Addr}{fd:FuncData}{ps:List Str}{sp:Sp}{dvs:List V}{ds:List Value}{E:XK}{x m:Str}{p pos apos:Pos}{e o:Expr}{es:List Expr}{ta:TE}{t:TA}
theorem z7o {pins:List (Addr×Obj)}{σ:St}{H:Hp}{s:Shared}{Q:VK}{us:List Value}{vs:List V}(F:GX X.prog X.w X.K X.mg X.base CX k f fd ps sp)(hr:Yu k X.A)(hb:GT X.K fd ps ds)(hd:yO dvs ds)(hx:JD CX X E)
  (I:Inv X pins σ H s) (r:yO vs us) (h:sp (vs++dvs) H Q E):wpAny (model X.prog X.w) X.A (call (.ref f) us) (EP X pins σ Q) X.xe s:=by
 have r2:yO (vs++dvs) (us++ds):=r.append hd
 have hl:(us++ds).length=ps.length:=by rw [←r2.length];exact F.len _ _ _ _ h
 refine wpAny_call (codeAny_mono (F.run X.A X.stack s H ⟨us,[]⟩ (us++ds) (vs++dvs) Q E hr I.env0 (hb s us I.kIn hl) r2 h) fun r s' hq=>?_)
 cases r with
 | error e=>exact hx pins σ H s e s' I hq
 | ok fl=>
  cases fl with
  | ret u=>exact I.after hq
  | next=>exact Z0 hq
  | brk=>exact Z0 hq
  | cont=>exact Z0 hq
theorem pe_call (F:GX X.prog X.w X.K X.mg X.base CX k f fd ps sp)(hr:Yu k X.A)(hg:Gl X x)(hm:X.mg x=some (.ref f))(hk:YG X.K (.ref f)=true)(hb:GT X.K fd ps ds)(hd:yO dvs ds)(hx:JD CX X E)
  (ha:PA X (e::es) t) (hdb:(x==("__debug__":Str))=false:=by decide) (he:starEach (e::es) X.env=(false,eval e X.env)::starEach es X.env:=by rfl) (hpl:(backTo pos (starEach es X.env)).any (·.1)=false:=by rfl) :
  PE X (.Call (.Name x p) (e::es) [] pos) (tCall sp dvs E t):=by
 intro pins s σ H Q I h
 refine wpAny_Call_Name_kw (qh I hg hm ?_ hdb)
 refine QO (h₀:=X.base) I.ok.mod.kin hk (thn (ha pos pins s σ H _ I h) fun us s1 ⟨vs,H1,I1,r,q⟩=>⟨I1.kIn,?_⟩) he hpl
 exact z7o F hr hb hd hx I1 r q
theorem pe_meth {pl:Sem Bool}(he:PE X o ta)(c:Cls X.K C)(hm:Meth X.K C m f)(F:GX X.prog X.w X.K X.mg X.base CX k f fd ps sp)(hr:Yu k X.A)(hb:GT X.K fd ps ds)(hd:yO dvs ds)(hx:JD CX X E)(ha:PA X (e::es) t)
  (hst:starEach (e::es) X.env=(false,eval e X.env)::starEach es X.env:=by rfl) (hpl:(backTo pos (starEach es X.env)).any (·.1)=false:=by rfl)
  (ht:eval (.Call (.Attribute o m apos) (e::es) [] pos) X.env=(do
   let ov ←eval o X.env
   standAt apos.atName
   let (f,first) ←holding [ov] (getMethod ov m pl)
   callWith pos f first (backTo pos (starEach (e::es) X.env)) (backToKw pos (keywordEach [] X.env))):=by rfl) :
  PE X (.Call (.Attribute o m apos) (e::es) [] pos) (z8v C m sp dvs E ta t):=by
 intro pins s σ H Q I h
 refine z6I (pl:=pl) (thn (he pins s σ H _ I h) fun u s1 ⟨x,H1,I1,rx,a,dx,fs,ex,ea,l,q⟩=>?_) ht
 subst ex
 obtain rfl:u=yU a:=rx
 refine z2Z I1 ea c hm l ?_
 refine QO (first:=[.ref a]) (h₀:=X.base) I.ok.mod.kin hm.kp (thn (ha pos pins s1 σ H1 _ I1 q) fun us s2 ⟨vs,H2,I2,r,q2⟩=>⟨I2.kIn,?_⟩) hst hpl
 exact z7o (us:=.ref a::us) (vs:=.ref a::vs) F hr hb hd hx I2 (.cons rfl r) q2
theorem zau {pl:Sem Bool}(he:PE X o ta)(c:Cls X.K C)(hm:Meth X.K C m f)(F:GX X.prog X.w X.K X.mg X.base CX k f fd ps sp)(hr:Yu k X.A)(hb:GT X.K fd ps ds)(hd:yO dvs ds)(hx:JD CX X E)
  (ht:eval (.Call (.Attribute o m apos) [] [] pos) X.env=(do
   let ov ←eval o X.env
   standAt apos.atName
   let (f,first) ←holding [ov] (getMethod ov m pl)
   callWith pos f first (backTo pos (starEach [] X.env)) (backToKw pos (keywordEach [] X.env))):=by rfl) :
  PE X (.Call (.Attribute o m apos) [] [] pos) (z8v C m sp dvs E ta Yl):=by
 intro pins s σ H Q I h
 refine z6I (pl:=pl) (thn (he pins s σ H _ I h) fun u s1 ⟨x,H1,I1,rx,a,dx,fs,ex,ea,l,q⟩=>?_) ht
 subst ex
 obtain rfl:u=yU a:=rx
 refine z2Z I1 ea c hm l ?_
 exact z8l (first:=[.ref a]) I1.kIn hm.kp (z7o (us:=[.ref a]) (vs:=[.ref a]) F hr hb hd hx I1 (.cons rfl .nil) q)
structure Mk (K:z4)(C f:Addr):Prop where
 makes:PySem.W.makesIn K C=true
 init:Zw K (.ref C) "__init__"=some (some (.ref f))
 fn:z5n K (.ref f)=true
 kp:YG K (.ref C)=true
theorem z5K {pins:List (Addr×Obj)}{σ:St}{H:Hp}{s:Shared}{Q:VK}{us:List Value}{vs:List V}(M:Mk X.K C f)(F:GX X.prog X.w X.K X.mg X.base CX k f fd ps sp)(hr:Yu (k+1) X.A)(hb:GT X.K fd ps ds)(hd:yO dvs ds)
  (hx:JD CX X E) (I:Inv X pins σ H s) (r:yO vs us)
  (h:∀x dx,H x=none→H dx=none→dx≠x→sp (.ref x::(vs++dvs)) (upd (upd H dx (.own x)) x (.ins C dx [])) (fun v H2=>v=.non∧Q (.ref x) H2) E) :
  wpAny (model X.prog X.w) X.A (call (.ref C) us) (EP X pins σ Q) X.xe s:=by
 have hq:=h (s.heap.objs.size+1) s.heap.objs.size (I.hok.fresh (QQ _)) (I.hok.fresh (zb _)) (yF (Yi _))
 have I2:=Inv.made (C:=C) I
 have r2:yO (V.ref (s.heap.objs.size+1)::(vs++dvs)) (yU (s.heap.objs.size+1)::(us++ds)):=.cons rfl (r.append hd)
 have hl:(yU (s.heap.objs.size+1)::us++ds).length=ps.length:=by
  have e:=r2.length
  rw [F.len _ _ _ _ hq] at e
  exact e.symm
 refine wpAny_call (zaK (f:=f) I.kIn M.makes M.init (beq_iff_eq.mp M.fn) (codeAny_mono (F.run _ X.stack _ _ ⟨yU (s.heap.objs.size+1)::us,[]⟩ (yU (s.heap.objs.size+1)::(us++ds)) _ _ E (hr.make C us [])
  (I2.env0.make C us []) (hb _ (yU (s.heap.objs.size+1)::us) I2.kIn hl) r2 hq) fun r s' hq'=>?_))
 cases r with
 | error e=>exact hx pins σ _ _ e s' I2 hq'
 | ok fl=>
  cases fl with
  | ret u=>
   obtain ⟨v,H',I3,rv,ev,q3⟩:=I2.after hq'
   subst ev
   exact ⟨rv,⟨V.ref (s.heap.objs.size+1),H',I3,rfl,q3⟩⟩
  | next=>exact Z0 hq'
  | brk=>exact Z0 hq'
  | cont=>exact Z0 hq'
theorem pe_make (M:Mk X.K C f)(F:GX X.prog X.w X.K X.mg X.base CX k f fd ps sp)(hr:Yu (k+1) X.A)(hg:Gl X x)(hm:X.mg x=some (.ref C))(hb:GT X.K fd ps ds)(hd:yO dvs ds)(hx:JD CX X E)
  (ha:PA X (e::es) t) (hdb:(x==("__debug__":Str))=false:=by decide) (he:starEach (e::es) X.env=(false,eval e X.env)::starEach es X.env:=by rfl) (hpl:(backTo pos (starEach es X.env)).any (·.1)=false:=by rfl) :
  PE X (.Call (.Name x p) (e::es) [] pos) (z8w C sp dvs E t):=by
 intro pins s σ H Q I h
 refine wpAny_Call_Name_kw (qh I hg hm ?_ hdb)
 refine QO (h₀:=X.base) I.ok.mod.kin M.kp (thn (ha pos pins s σ H _ I h) fun us s1 ⟨vs,H1,I1,r,q⟩=>⟨I1.kIn,?_⟩) he hpl
 exact z5K M F hr hb hd hx I1 r q
theorem zav (M:Mk X.K C f)(F:GX X.prog X.w X.K X.mg X.base CX k f fd ps sp)(hr:Yu (k+1) X.A)(hg:Gl X x)(hm:X.mg x=some (.ref C))(hb:GT X.K fd ps ds)(hd:yO dvs ds)(hx:JD CX X E)
  (hdb:(x==("__debug__":Str))=false:=by decide):PE X (.Call (.Name x p) [] [] pos) (z8w C sp dvs E Yl):=by
 intro pins s σ H Q I h
 refine wpAny_Call_Name_kw (qh I hg hm ?_ hdb)
 exact z8l I.kIn M.kp (z5K (us:=[]) M F hr hb hd hx I .nil h)
end
def PK (X:Cx)(kws:List Keyword)(t:TA):Prop:=
 ∀(pos:Pos) (pins:List (Addr×Obj)) (s:Shared) (σ:St) (H:Hp) (Q:List V→Hp→Prop),Inv X pins σ H s→t σ H Q→wpAny (model X.prog X.w) X.A (evalAll ((backToKw pos (keywordEach kws X.env)).map (·.2))) (AP X pins σ Q) X.xe s
section
variable {X:Cx}{CX:CXT}{k:Nat}{f C:Addr}{fd:FuncData}{ps ks:List Str}{sp:Sp}{E:XK}{x m:Str}{p pos apos kpos:Pos}{e o:Expr}{es:List Expr}{kws:List Keyword}{te ta:TE}{t tk:TA}{nm:Option Str}
theorem zas:PK X [] Yl:=fun _ _ _ _ H Q I h=>wpAny_evalAll_nil ⟨[],H,I,.nil,h⟩
theorem z8F (ha:PE X e te)(hr:PK X kws t):PK X (⟨nm,e,kpos⟩::kws) (j6 te t):=by
 intro pos pins s σ H Q I h
 show wpAny _ _ (evalAll ((do let v ←eval e X.env;standAt pos;pure v)::(backToKw pos (keywordEach kws X.env)).map (·.2))) _ _ s
 refine wpAny_evalAll_cons (wpAny_bind (thn (ha pins s σ H _ I h) fun u s1 ⟨x,H1,I1,r1,q1⟩=>wpAny_bind (wpAny_standAt (wpAny_pure ?_))))
 exact thn (hr pos pins s1 σ H1 _ I1 q1) fun us s2 ⟨xs,H2,I2,r2,q2⟩=>⟨x::xs,H2,I2,.cons r1 r2,q2⟩
variable {g:List Value→List Value→List Value}{gV:List V→List V→List V}
end
structure zy (N P:List Str)(sc:Scope):Prop where
 kind:sc.kind=.function
 co:sc.isCoroutine=false
 gen:sc.isGenerator=false
 nd:N.Nodup
 pre:N.take P.length=P
 par:∀x∈P,sc.names.lookup x=some .local∨sc.names.lookup x=some .cell
 nofree:∀y∈sc.names,y.2≠.free
theorem z40 {kindOf:Str→Option NameKind}{x:Str}:∀{binds:List (Str×Value)}{m:Str→Option Value},(∀v,(x,v) ∉ binds)→bindL kindOf binds m x=m x
 | [],_,_=>rfl
 | (n,v)::r,m,h=>by
  unfold bindL
  rw [z40 fun w hw=>h w (zg _ hw)]
  split
  ·have:x≠n:=by rintro rfl;exact h v zn
   simp [this]
  ·rfl
theorem z42 {kindOf:Str→Option NameKind}{x:Str}:∀{binds:List (Str×Value)}{m:Str→Option Value},(∀v,(x,v) ∉ binds)→bindC kindOf binds m x=m x
 | [],_,_=>rfl
 | (n,v)::r,m,h=>by
  unfold bindC
  rw [z42 fun w hw=>h w (zg _ hw)]
  split
  ·rfl
  ·have:x≠n:=by rintro rfl;exact h v zn
   simp [this]
theorem z41 {kindOf:Str→Option NameKind}{x:Str}{v:Value}:∀{P:List Str}{vs:List Value}{i:Nat}{m:Str→Option Value},P.Nodup→P[i]?=some x→vs[i]?=some v→kindOf x=some .local→
  bindL kindOf (P.zip vs) m x=some v
 | [],_,_,_,_,h,_,_=>by simp at h
 | _::_,[],_,_,_,_,h,_=>by simp at h
 | p::P,w::vs,0,m,nd,h1,h2,hk=>by
  simp at h1 h2;subst h1;subst h2
  show bindL kindOf ((p,w)::P.zip vs) m p=_
  unfold bindL
  rw [z40 fun v hv=>(qE.mp nd).1 (z3A hv).1,if_pos hk]
  simp
 | p::P,w::vs,i+1,m,nd,h1,h2,hk=>by
  show bindL kindOf ((p,w)::P.zip vs) m x=_
  unfold bindL
  exact z41 (i:=i) (qE.mp nd).2 (by simpa using h1) (by simpa using h2) hk
theorem z43 {kindOf:Str→Option NameKind}{x:Str}{v:Value}:∀{P:List Str}{vs:List Value}{i:Nat}{m:Str→Option Value},P.Nodup→P[i]?=some x→vs[i]?=some v→kindOf x≠some .local→
  bindC kindOf (P.zip vs) m x=some v
 | [],_,_,_,_,h,_,_=>by simp at h
 | _::_,[],_,_,_,_,h,_=>by simp at h
 | p::P,w::vs,0,m,nd,h1,h2,hk=>by
  simp at h1 h2;subst h1;subst h2
  show bindC kindOf ((p,w)::P.zip vs) m p=_
  unfold bindC
  rw [z42 fun v hv=>(qE.mp nd).1 (z3A hv).1,if_neg hk]
  simp
 | p::P,w::vs,i+1,m,nd,h1,h2,hk=>by
  show bindC kindOf ((p,w)::P.zip vs) m x=_
  unfold bindC
  exact z43 (i:=i) (qE.mp nd).2 (by simpa using h1) (by simpa using h2) hk
def start (N:List Str)(vs:List V):St:=vs.map some++List.replicate (N.length - vs.length) none
def GW (CX:CXT)(P:Program)(w:World)(K:z4)(mg:Str→Option Value)(base:Heap)(N:List Str)(qual:Str)(scope:Scope)(f:Addr)(cd:Value)(A:Around)(outer:List Env)(s:Shared)(H:Hp)(E:XK):Cx where
 prog:=P
 w:=w
 K:=K
 mg:=mg
 base:=base
 A:=A.deeper (envOfC qual scope s.heap.objs.size f cd)
 N:=N
 s_0:=s
 H_0:=H
 env:=envOfC qual scope s.heap.objs.size f cd
 outer:=outer
 stack:=envOfC qual scope s.heap.objs.size f cd::outer
 ex:=[]
 calm:=true
 fn:=fun _=>true
 pn:=[]
 xe:=fun e s'=>wpAny (model P w) (A.deeper (envOfC qual scope s.heap.objs.size f cd)) (leaving (envOfC qual scope s.heap.objs.size f cd) e) (fun _ s''=>CX outer H s E e s'') (fun e' s''=>CX outer H s E e' s'') s'
theorem z6x {sc:Scope}{n:Nat}{x:Str}(h:sc.names.lookup x=some .cell):∃c,(cellsFrom n sc.names []).lookup x=some c:=by
 have q:=z5o sc.names n [] (.inl h)
 exact jI.mp q
theorem z9K {CX:CXT}{P:Program}{w:World}{K:z4}{mg:Str→Option Value}{base:Heap}{N ps:List Str}{qual:Str}{scope:Scope}{f:Addr}{cd:Value}{A:Around}{outer:List Env}{s s1:Shared}{H:Hp}{E:XK}{us:List Value}{vs:List V}
  (S:zy N ps scope) (hd:A.handled=none) (e0:Env0 P w K mg base A outer s H) (hl:vs.length=ps.length) (r:yO vs us)
  (x:InCallC s s.heap.objs.size (bindL (envOfC qual scope s.heap.objs.size f cd).kindOf (ps.zip us) fun _=>none) (cellsFrom (s.heap.objs.size+1) scope.names []) (bindC (envOfC qual scope s.heap.objs.size f cd).kindOf (ps.zip us) fun _=>none) s1) :
  Inv (GW CX P w K mg base N qual scope f cd A outer s H E) [] (start N vs) H s1:=by
 have hpl:ps.length≤N.length:=by have:=congrArg JK S.pre;rw [Zx] at this;omega
 obtain ⟨h1,tk,rfl,hk⟩:=x.done
 have noA:∀b:Addr,b ∉ (GW CX P w K mg base N qual scope f cd A outer s H E).ex:=fun b z=>absurd (show b∈([]:List Addr) from z) (by simp)
 refine ⟨⟨e0.mod,S.kind,rfl,rfl,zb _,fun y z c h1 h2=>?_,fun y hy=>?_,fun y c _ h=>?_,fun _=>hd,z8s e0.frames,.inr ⟨rfl,rfl⟩,fun b z=>absurd z (noA b),e0.bs,e0.bsz,fun b _ _=>noA b,fun b z=>absurd z (noA b),e0.funs,e0.frf⟩,
  rfl,e0.bare,Un.kept hk,⟨_,x.toInCall.ns,fun i y v h1 h2 h3=>?_⟩,fun y c h=>⟨_,x.cell y c h⟩,e0.hok.fresh (zb _),fun y c h=>?_,fun p hp=>absurd (show p∈([]:List (Addr×Obj)) from hp) (by simp),e0.hok.kept hk,?_⟩
 ·exact name_of_addr x.apart (zM h1) (zM h2)
 ·have hy:scope.names.lookup y=some .cell∨scope.names.lookup y=some .free:=hy
  rcases hy with hy | hy
  ·exact z6x hy
  ·exact absurd rfl (S.nofree _ (zM hy))
 ·exact J8 (x.above y c (zM h))
 ·have hi:i<vs.length:=by
   unfold start at h2
   by_cases hi:i<vs.length
   ·exact hi
   ·rw [ZB (by simpa using hi)] at h2
    rw [List.getElem?_replicate] at h2
    split at h2 <;> cases h2
  have ha:vs[i]?=some v:=by
   unfold start at h2
   rw [jx (by simpa using hi),zB] at h2
   cases e:vs[i]? with
   | none=>rw [e] at h2;cases h2
   | some a=>rw [e] at h2;cases h2;rfl
  obtain ⟨u,hu,rv⟩:=r.get ha
  have hp:ps[i]?=some y:=by
   rw [←S.pre,List.getElem?_take_of_lt (by omega)];exact h1
  have ndP:ps.Nodup:=by rw [←S.pre];exact S.nd.sublist (List.take_sublist _ _)
  refine ⟨u,rv,?_⟩
  rcases S.par y (zt hp) with k | k
  ·exact .inl ⟨k,z41 ndP hp hu k⟩
  ·obtain ⟨c,e⟩:=z6x (n:=s.heap.objs.size+1) k
   refine .inr ⟨.inl k,c,e,?_⟩
   have q:=x.cell y c e
   rw [z43 ndP hp hu (by show scope.names.lookup y≠_;rw [k];decide)] at q
   exact q
 ·exact e0.hok.fresh (J8 (x.above y c (zM h)))
 ·unfold start
  show _=N.length
  rw [za,z0,List.length_replicate]
  omega
theorem z8P {CX:CXT}{P:Program}{w:World}{K:z4}{mg:Str→Option Value}{base:Heap}{k:Nat}{f:Addr}{name qual:Str}{params:Arguments}{body:List Stmt}{scope:Scope}{dV kV doc pm cdv ct oc:Value}{an od:Option Addr}
  {osl:Array (Option Value)} {N ps:List Str} {sp:Sp} (lk:K.lookup f=some ⟨oc,od,.func (jU name qual params body scope dV kV doc pm an cdv ct),osl⟩) (hcd:Y2 K cdv qual=true) (S:zy N ps scope)
  (len:∀vs H Q E,sp vs H Q E→vs.length=ps.length)
  (hbody:∀(A:Around) (outer:List Env) (s:Shared) (H:Hp) (vs:List V) (Q:VK) (E:XK),Yu k (A.deeper (envOfC qual scope s.heap.objs.size f cdv))→sp vs H Q E→
   ∃t,PSs (GW CX P w K mg base N qual scope f cdv A outer s H E) body t∧t { nx:=fun _ H'=>Q .non H',rt:=Q } (start N vs) H) :
  GX P w K mg base CX (k+1) f (jU name qual params body scope dV kV doc pm an cdv ct) ps sp:=by
 refine ⟨len,fun A outer s H args us vs Q E hr e0 hb r hsp=>?_⟩
 have hl:=len _ _ _ _ hsp
 have KX:K.In s.heap:=e0.mod.kin.keeps fun b o e=>(e0.bs b o e).1
 have lim:s.heap.NoLimit:=e0.mod.nolimit.keeps fun b o e=>(e0.bs b o e).1
 have hkind:∀y∈ps.zip us,scope.names.lookup y.1=some .local∨(scope.names.lookup y.1=some .cell∧((cellsFrom (s.heap.objs.size+1) scope.names []).lookup y.1).isSome=true):=fun ⟨n,v⟩ hy=>by
  rcases S.par n (z3A hy).1 with q | q
  ·exact .inl q
  ·exact .inr ⟨q,z5o _ _ _ (.inl q)⟩
 refine codeAny_call_function hr.depth (KX _ _ lk) rfl S.co S.gen rfl (PySem.W.codeRec_of KX hcd) (hb _ _ _ _ ?_)
 refine wpAny_newFunctionEnv_cells S.kind hkind fun env he s1 x=>?_
 subst he
 refine ⟨lim.keeps x.toInCall.keep,codeAny_func ?_⟩
 obtain ⟨t,ht,hq⟩:=hbody A outer s H vs Q E (hr.deeper _) hsp
 have I:Inv (GW CX P w K mg base N qual scope f cdv A outer s H E) [] (start N vs) H s1:=z9K S hr.hd e0 hl r x
 refine wpAny_mono (ht [] s1 (start N vs) H _ I hq) (fun fl s' hs=>?_) fun e s' hs=>hs
 have fin:∀{σ':St} {H':Hp} {v:V} {u:Value},Inv (GW CX P w K mg base N qual scope f cdv A outer s H E) [] σ' H' s'→jW v u→Q v H'→CE outer P w H s Q u s':=
  fun {σ' H' v u} J rv q=>⟨v,H',J.os,J.bare,J.base,J.hok,rv,q⟩
 cases fl with
 | ret u=>
  obtain ⟨v,σ',H',J,rv,q⟩:=hs
  exact fin J rv q
 | next=>
  obtain ⟨σ',H',J,q⟩:=hs
  exact fin (v:=V.non) (u:=GY) J rfl q
 | brk=>
  obtain ⟨_,_,_,q⟩:=hs
  exact Z0 q
 | cont=>
  obtain ⟨_,_,_,q⟩:=hs
  exact Z0 q
end L2
namespace L2
open PySem PySem.Spec PyProof.Rows
section
variable {X:Cx}{x:Str}{p pos:Pos}{e:Expr}{es:List Expr}{t:TA}{id T:String}{r:List V→Hp→VK→Prop}
def tCB (r:List V→Hp→VK→Prop)(t:TA):TE:=fun σ H Q=>t σ H fun vs H1=>r vs H1 Q
theorem yq (hc:z1A X (.builtin id) r)(hg:Gl X x)(hm:X.mg x=none)(hv:bootBuiltins x=some (.builtin id))(ha:PA X (e::es) t)(hn:x≠"__name__":=by decide)(hdb:(x==("__debug__":Str))=false:=by decide)
  (he:starEach (e::es) X.env=(false,eval e X.env)::starEach es X.env:=by rfl) (hpl:(backTo pos (starEach es X.env)).any (·.1)=false:=by rfl):PE X (.Call (.Name x p) (e::es) [] pos) (tCB r t):=by
 intro pins s σ H Q I h
 refine wpAny_Call_Name_kw (VW I hg hm hv ?_ hn hdb)
 exact PyProof.Rows.callWith_builtin1 (thn (ha pos pins s σ H _ I h) fun us s1 ⟨vs,H1,I1,r1,q1⟩=>hc pins s1 σ H1 vs us Q I1 r1 q1) he hpl
end
end L2
namespace HT
open PySem PyProof.Rows
def lexLt:List Int→List Int→Bool
 | [],[]=>false
 | [],_::_=>true
 | _::_,[]=>false
 | x::xs,y::ys=>if x=y then lexLt xs ys else decide (x<y)
theorem lexLt_cons (x y:Int)(xs ys:List Int):lexLt (x::xs) (y::ys)=if x=y then lexLt xs ys else decide (x<y):=rfl
theorem lexLt_nil_nil:lexLt [] []=false:=rfl
theorem eqAt_int (A:Around)(s:Shared)(a:Int)(t:Tok)(c:Int)(u:Tok):∃e,SeqAt.EqAt A s (.int a t) (.int c u) e∧(e=true↔a=c):=
 ⟨(a==c),z6H a t c u,by simp⟩
theorem rcLt_int (A:Around)(s:Shared)(a:Int)(t:Tok)(c:Int)(u:Tok)(prog:Program)(w:World)(E:Value→Shared→Prop)(Q:Value→Shared→Prop)(h:Q (.bool (decide (a<c))) s) :
  wpAny (model prog w) A (richCompare .Lt (.int a t) (.int c u)) Q E s:=
 (PyProof.Rows.lt_int h:wpAny (model prog w) A (compareOp .Lt (.int a t) (.int c u)) Q E s)
section
variable {prog:Program}{w:World}{A:Around}{E:Value→Shared→Prop}{s:Shared}
def sIx (n d:Nat):Option Int→Nat
 | none=>d
 | some v=>if v<0 then (v+(n:Int)).toNat else min v.toNat n
theorem sIx_none (n d:Nat):sIx n d none=d:=rfl
theorem sIx_nat (n d k:Nat):sIx n d (some (k:Int))=min k n:=by
 show (if (k:Int)<0 then ((k:Int)+(n:Int)).toNat else min (k:Int).toNat n)=min k n
 rw [if_neg (by omega),ZT]
end
end HT
namespace L2
open PySem PySem.Spec PyProof.Rows
abbrev TO:=St→Hp→(Option Int→Hp→Prop)→Prop
def PO (X:Cx)(e:Option Expr)(t:TO):Prop:=
 ∀(pins:List (Addr×Obj)) (s:Shared) (σ:St) (H:Hp) (Q:Option Int→Hp→Prop),Inv X pins σ H s→t σ H Q→
  wpAny (model X.prog X.w) X.A (evalPart e X.env) (fun u s'=>∃o H',Inv X pins σ H' s'∧IsPart u o∧Q o H') X.xe s
def z8u:TO:=fun _ H Q=>Q none H
inductive IsI (Q:Option Int→Hp→Prop)(x:V)(H:Hp):Prop | mk (i:Int) (_:x=.int i) (_:Q (some i) H)
def tPart (t:TE):TO:=fun σ H Q=>t σ H (IsI Q)
section
variable {X:Cx}{e:Expr}{te:TE}{lo hi:Option Expr}{tl th:TO}{pos p2:Pos}
theorem z4B:PO X none z8u:=by
 intro pins s σ H Q I h
 rw [evalPart_none]
 exact wpAny_pure ⟨none,H,I,.none,h⟩
theorem z07 (h:PE X e te):PO X (some e) (tPart te):=by
 intro pins s σ H Q I hw
 rw [evalPart_some]
 refine thn (h pins s σ H _ I hw) fun u s1 ⟨x,H1,I1,r1,q1⟩=>?_
 obtain ⟨i,rfl,q⟩:=q1
 obtain ⟨t,rfl⟩:=r1
 exact ⟨some i,H1,I1,.int i t,q⟩
def SlR (X:Cx)(r:V→Option Int→Option Int→Hp→VK→Prop):Prop:=
 ∀(pins:List (Addr×Obj)) (s:Shared) (σ:St) (H:Hp) (x:V) (v vl vu:Value) (lo hi:Option Int) (sl:Addr) (Q:VK),Inv X pins σ H s→jW x v→s.heap.IsSliceOf sl vl vu .none→IsPart vl lo→IsPart vu hi→r x lo hi H Q→
  ∃T id,typeLookup (.type T) "__getitem__"=pure (some (.builtin id))∧s.TypeIs v T∧wpAny (model X.prog X.w) X.A (getItem v (.ref sl)) (EP X pins σ Q) X.xe s
def tSl (r:V→Option Int→Option Int→Hp→VK→Prop)(te:TE)(tl th:TO):TE:=fun σ H Q=>te σ H fun x H1=>tl σ H1 fun l H2=>th σ H2 fun u H3=>r x l u H3 Q
theorem z08 {r:V→Option Int→Option Int→Hp→VK→Prop}(hr:SlR X r)(he:PE X e te)(hl:PO X lo tl)(hu:PO X hi th):PE X (.Subscript e (.Slice lo hi none p2) pos) (tSl r te tl th):=by
 intro pins s σ H Q I h
 refine Subscript_ (thn (he pins s σ H _ I h) fun v s1 ⟨x,H1,I1,r1,q1⟩=>?_)
 refine wpAny_Slice (thn (hl pins s1 σ H1 _ I1 q1) fun vl s2 ⟨l,H2,I2,pl,q2⟩=>thn (hu pins s2 σ H2 _ I2 q2) fun vu s3 ⟨u,H3,I3,pu,q3⟩=>?_)
 rw [evalPart_none]
 refine wpAny_pure ?_
 have I4:Inv X pins σ H3 { s3 with heap:=s3.heap.push { cls:=.type "slice",data:=.fields #[vl,vu,.none] } }:=I3.kept (t':=s3.toks) fun b ob q=>ze _ q
 obtain ⟨T,id,hT,ht,hg⟩:=hr pins { s3 with heap:=s3.heap.push { cls:=.type "slice",data:=.fields #[vl,vu,.none] } } σ H3 x v vl vu l u s3.heap.objs.size Q I4 r1 (Heap.IsSliceOf.new ..) pl pu q3
 show wpAny (model X.prog X.w) X.A (subscriptTail e (.Slice lo hi none p2) v (.ref s3.heap.objs.size)) (EP X pins σ Q) X.xe { s3 with heap:=s3.heap.push { cls:=.type "slice",data:=.fields #[vl,vu,.none] } }
 exact tail_any (ops:=[.ref s3.heap.objs.size,v]) ht hT hg (by with_unfolding_all rfl)
def z1i (xs:List V)(lo hi:Option Int):List V:=(xs.drop (HT.sIx xs.length 0 lo)).take (HT.sIx xs.length xs.length hi - HT.sIx xs.length 0 lo)
theorem z1w (xs:List V)(lo hi:Option Int):(z1i xs lo hi).length≤xs.length:=by
 unfold z1i
 rw [Zx,Vs]
 omega
end
end L2
namespace L2
open PySem PySem.Spec PyProof.Rows
def ixN (n:Nat)(i:Int):Option Nat:=if 0≤i then (if i<n then some i.toNat else none) else if -(n:Int)≤i then some (i+n).toNat else none
def atI {α:Type}(xs:List α)(i:Int):Option α:=(ixN xs.length i).bind fun j=>xs[j]?
theorem ixN_seq {n:Nat}{i:Int}{j:Nat}(h:ixN n i=some j):seqIndex? i n=some j∧j<n∧-(n:Int)≤i∧i<n:=by
 unfold ixN at h
 by_cases h0:0≤i
 ·rw [if_pos h0] at h
  by_cases h1:i<n
  ·rw [if_pos h1] at h
   have e:i.toNat=j:=zG h
   exact ⟨by rw [seqIndex_of h0 h1,e],by omega,by omega,h1⟩
  ·rw [if_neg h1] at h;cases h
 ·rw [if_neg h0] at h
  by_cases h1:-(n:Int)≤i
  ·rw [if_pos h1] at h
   have e:(i+n).toNat=j:=zG h
   exact ⟨by rw [seqIndex_neg (by omega) h1,e],by omega,h1,by omega⟩
  ·rw [if_neg h1] at h;cases h
theorem z8X {α:Type}{xs:List α}{i:Int}{v:α}(h:atI xs i=some v):∃j,seqIndex? i xs.length=some j∧xs[j]?=some v∧j<xs.length∧-(xs.length:Int)≤i∧i<xs.length:=by
 unfold atI at h
 cases e:ixN xs.length i with
 | none=>rw [e] at h;cases h
 | some j=>
  rw [e] at h
  obtain ⟨h1,h2,h3,h4⟩:=ixN_seq e
  exact ⟨j,h1,h,h2,h3,h4⟩
theorem qv {α:Type}{xs:List α}{j:Nat}{v:α}(h:xs[j]?=some v):atI xs (j:Int)=some v:=by
 have hj:j<xs.length:=(zo.mp h).1
 have e:ixN xs.length (j:Int)=some j:=by
  unfold ixN
  rw [if_pos (by omega),if_pos (by omega)];simp
 unfold atI;rw [e];exact h
theorem z6z {α:Type}(xs:List α)(v:α):atI (xs++[v]) (-1)=some v:=by
 have hl:(xs++[v]).length=xs.length+1:=by simp
 have e:ixN (xs++[v]).length (-1)=some xs.length:=by
  unfold ixN
  rw [hl,if_neg (by decide),if_pos (by omega)]
  congr 1
  omega
 unfold atI
 rw [e]
 show (xs++[v])[xs.length]?=some v
 simp
def PlainIx (b:Expr):Prop:=∀o i,subscripted b false o i=operate [o,i] (getItem o i)
def IxR (X:Cx)(r:R2):Prop:=
 ∀(value slice:Expr) (pins:List (Addr×Obj)) (s:Shared) (σ:St) (H:Hp) (x y:V) (v u:Value) (Q:VK),Inv X pins σ H s→jW x v→jW y u→r x y H Q→
  subscripted slice false v u=operate [v,u] (getItem v u)→wpAny (model X.prog X.w) X.A (subscriptTail value slice v u) (EP X pins σ Q) X.xe s
def MtR (X:Cx)(id:String)(r:V→List V→Hp→VK→Prop):Prop:=
 ∀(pins:List (Addr×Obj)) (s:Shared) (σ:St) (H:Hp) (x:V) (xs:List V) (v:Value) (us:List Value) (Q:VK),Inv X pins σ H s→jW x v→yO xs us→r x xs H Q→
  wpAny (model X.prog X.w) X.A (call (.builtin id) (v::us)) (EP X pins σ Q) X.xe s
section
variable {X:Cx}{a b:Expr}{ta tb:TE}{pos:Pos}
theorem Zt {r:R2}(hr:IxR X r)(ha:PE X a ta)(hb:PE X b tb)(hs:PlainIx b):PE X (.Subscript a b pos) (tOp r ta tb):=by
 intro pins s σ H Q I h
 exact Subscript_ (binT ha hb I h fun v u s2 x y H2 I2 rx ry q=>hr a b pins s2 σ H2 x y v u Q I2 rx ry q (hs _ _))
inductive rIxL (K:z4)(x y:V)(H:Hp)(Q:VK):Prop | mk (p:Addr) (xs:List V) (i:Int) (v:V) (_:x=.ref p) (_:y=.int i) (_:SqL K H p xs) (_:atI xs i=some v) (_:Q v H)
inductive rIxT (K:z4)(x y:V)(H:Hp)(Q:VK):Prop | mk (p:Addr) (xs:List V) (i:Int) (v:V) (_:x=.ref p) (_:y=.int i) (_:SqT K H p xs) (_:atI xs i=some v) (_:Q v H)
theorem jl:IxR X (rIxL X.K):=by
 intro value slice pins s σ H x y v u Q I rx ry h hs
 obtain ⟨p,xs,i,z,rfl,rfl,hq,he,q⟩:=h
 cases rx
 obtain ⟨t,rfl⟩:=ry
 obtain ⟨its,r,pl,hz⟩:=I.list hq
 obtain ⟨j,h1,h2,h3,h4,h5⟩:=z8X he
 obtain ⟨w,ew,rw'⟩:=r.get h2
 have hl:=r.length
 have hn:=z85
 have fin:EP X pins σ Q w s:=⟨z,H,I,rw',q⟩
 by_cases h0:0≤i
 ·have hj:i.toNat=j:=by
   rw [seqIndex_of h0 h5] at h1
   exact zG h1
  exact item_listR pl.isList h0 (by omega) (by rw [hj];simpa using ew) fin hs
 ·have hj:(i+(its.toArray.size:Int)).toNat=j:=by
   rw [seqIndex_neg (by omega) h4] at h1
   rw [zO,←hl]
   exact zG h1
  exact subscriptTail_builtinR (x:=w) pl.isList.typeIs slot_list_getitem.lookup
   (wpAny_getItem_list_neg (Q:=fun r s'=>r=w∧EP X pins σ Q r s') pl.isList (by omega) (by rw [zO] <;> omega) (by omega) (by rw [hj];simpa using ew) ⟨rfl,fin⟩) hs
theorem ix_tup:IxR X (rIxT X.K):=by
 intro value slice pins s σ H x y v u Q I rx ry h hs
 obtain ⟨p,xs,i,z,rfl,rfl,hq,he,q⟩:=h
 cases rx
 obtain ⟨t,rfl⟩:=ry
 obtain ⟨its,r,pl,hz⟩:=I.tuple hq
 obtain ⟨j,h1,h2,h3,h4,h5⟩:=z8X he
 obtain ⟨w,ew,rw'⟩:=r.get h2
 have hl:=r.length
 have hn:=z85
 have fin:EP X pins σ Q w s:=⟨z,H,I,rw',q⟩
 exact subscriptTail_builtinR (x:=w) pl.typeIs slot_tuple_getitem.lookup
  (getItem_tuple (j:=j) (Q:=fun r s'=>r=w∧EP X pins σ Q r s') pl (by omega) (by omega) (by rw [zO,←hl];exact h1) (by simpa using ew) ⟨rfl,fin⟩) hs
theorem z4k (lo hi:Option Int)(n:Nat):(sliceBounds lo hi none n).1=((HT.sIx n 0 lo:Nat):Int)∧(sliceBounds lo hi none n).2.1=((HT.sIx n n hi:Nat):Int)∧(sliceBounds lo hi none n).2.2=1:=by
 refine ⟨?_,?_,rfl⟩
 ·cases lo with
  | none=>simp [sliceBounds,HT.sIx]
  | some i=>
   simp only [sliceBounds,HT.sIx,Option.getD_none,show (1:Int) > 0 by decide,if_true]
   by_cases h:i<0
   ·simp only [h,if_true] <;> omega
   ·simp only [h,if_false] <;> omega
 ·cases hi with
  | none=>simp [sliceBounds,HT.sIx]
  | some i=>
   simp only [sliceBounds,HT.sIx,Option.getD_none,show (1:Int) > 0 by decide,if_true]
   by_cases h:i<0
   ·simp only [h,if_true] <;> omega
   ·simp only [h,if_false] <;> omega
theorem z3n (its:List Value)(lo hi:Option Int):slicePick its.toArray lo hi none=((its.drop (HT.sIx its.length 0 lo)).take (HT.sIx its.length its.length hi - HT.sIx its.length 0 lo)).toArray:=by
 obtain ⟨h1,h2,h3⟩:=z4k lo hi its.toArray.size
 unfold slicePick
 rw [h1,h2,h3]
 simp only [sliceRange_one,pick_run,zO] <;> rfl
inductive rSlL (K:z4)(x:V)(lo hi:Option Int)(H:Hp)(Q:VK):Prop | mk (a:Addr) (xs:List V) (_:x=.ref a) (_:SqL K H a xs) (_:∀p,H p=none→Q (.ref p) (upd H p (.lst (z1i xs lo hi))))
theorem z1T:SlR X (rSlL X.K):=by
 intro pins s σ H x v vl vu lo hi sl Q I rx hs pl pu h
 obtain ⟨a,xs,rfl,hx,q⟩:=h
 cases rx
 obtain ⟨its,r,ht,hz⟩:=I.list hx
 have hlen:=r.length
 refine ⟨"list",_,slot_list_getitem.lookup,ht.isList.typeIs,?_⟩
 refine wpAny_getItem_list_slice ht.isList hs pl pu .none (by simp) ?_ (by rw [zO] <;> omega)
 rw [z3n,←hlen]
 refine ⟨.ref s.heap.objs.size,_,I.laid (t':=s.toks) (o:=.lst (z1i xs lo hi)) (fun b ob q=>ze _ q) (zb _) ?_,rfl,q _ (I.hok.fresh (zb _))⟩
 exact ⟨zd (z1w xs lo hi) hz,_,0,(r.drop (HT.sIx xs.length 0 lo)).take (HT.sIx xs.length xs.length hi - HT.sIx xs.length 0 lo),yd _ rfl⟩
def Ve:V→Bool
 | .non=>true
 | .bl _=>true
 | .int _=>true
 | .str _=>true
 | _=>false
def eqV:V→V→Bool
 | .non,.non=>true
 | .bl a,.bl b=>a==b
 | .bl a,.int b=>(if a then 1 else 0)==b
 | .int a,.bl b=>a==(if b then 1 else 0)
 | .int a,.int b=>a==b
 | .str a,.str b=>a==b
 | _,_=>false
theorem eqAt_V {A:Around}{s:Shared}{y x:V}{u v:Value}(ry:jW y u)(rx:jW x v)(fy:Ve y=true)(fx:Ve x=true):SeqAt.EqAt A s u v (eqV y x):=by
 cases y with
 | non=>
  cases ry
  cases x with
  | non=>cases rx;exact SeqAt.EqAt.same _
  | bl b=>cases rx;exact SeqAt.EqAt.none_bool b
  | int b=>obtain ⟨t,rfl⟩:=rx;exact SeqAt.EqAt.none_int b t
  | str b=>obtain ⟨t,rfl⟩:=rx;exact SeqAt.EqAt.none_str b t
  | _=>exact absurd (show false=true from fx) zR
 | bl a=>
  cases ry
  cases x with
  | non=>cases rx;exact SeqAt.EqAt.bool_none a
  | bl b=>cases rx;exact SeqAt.EqAt.bool_bool a b
  | int b=>obtain ⟨t,rfl⟩:=rx;exact SeqAt.EqAt.bool_int a b t
  | str b=>obtain ⟨t,rfl⟩:=rx;exact SeqAt.EqAt.bool_str a b t
  | _=>exact absurd (show false=true from fx) zR
 | int a=>
  obtain ⟨t',rfl⟩:=ry
  cases x with
  | non=>cases rx;exact SeqAt.EqAt.int_none a t'
  | bl b=>cases rx;exact SeqAt.EqAt.int_bool a t' b
  | int b=>obtain ⟨t,rfl⟩:=rx;exact z6H a t' b t
  | str b=>obtain ⟨t,rfl⟩:=rx;exact z6G a t' b t
  | _=>exact absurd (show false=true from fx) zR
 | str a=>
  obtain ⟨t',rfl⟩:=ry
  cases x with
  | non=>cases rx;exact SeqAt.EqAt.str_none a t'
  | bl b=>cases rx;exact SeqAt.EqAt.str_bool a t' b
  | int b=>obtain ⟨t,rfl⟩:=rx;exact z6F a t' b t
  | str b=>obtain ⟨t,rfl⟩:=rx;exact SeqAt.EqAt.str_str a t' b t
  | _=>exact absurd (show false=true from fx) zR
 | _=>exact absurd (show false=true from fy) zR
def eqU (x:V)(u:Value):Bool:=match u with
 | .none=>eqV .non x
 | .bool b=>eqV (.bl b) x
 | .int i _=>eqV (.int i) x
 | .str z _=>eqV (.str z) x
 | _=>false
theorem z8b {x y:V}{u:Value}(r:jW y u)(f:Ve y=true):eqU x u=eqV y x:=by
 cases y with
 | non=>cases r;rfl
 | bl b=>cases r;rfl
 | int i=>obtain ⟨t,rfl⟩:=r;rfl
 | str z=>obtain ⟨t,rfl⟩:=r;rfl
 | _=>exact absurd (show false=true from f) zR
theorem z0s {x:V}:∀{xs:List V}{us:List Value},yO xs us→xs.all Ve=true→us.any (eqU x)=xs.any fun y=>eqV y x
 | _,_,.nil,_=>rfl
 | y::xs,u::us,.cons r t,f=>by
  rw [Vz,ye] at f
  rw [Vy,Vy,z8b r f.1,z0s t f.2]
theorem G2 {A:Around}{s:Shared}{x:V}{v:Value}(rx:jW x v)(fx:Ve x=true):∀{xs:List V}{us:List Value},yO xs us→xs.all Ve=true→∀u∈us,SeqAt.EqAt A s u v (eqU x u)
 | _,_,.nil,_=>fun u hu=>by cases hu
 | y::xs,u::us,.cons r t,f=>fun u' hu=>by
  rw [Vz,ye] at f
  rcases zx.mp hu with rfl | hu
  ·rw [z8b r f.1];exact eqAt_V r rx f.1 fx
  ·exact G2 rx fx t f.2 u' hu
def inV (x:V)(xs:List V):Bool:=xs.any fun y=>eqV y x
inductive rIn (K:z4)(neg:Bool)(x y:V)(H:Hp)(Q:VK):Prop | mk (p:Addr) (xs:List V) (_:y=.ref p) (_:SqL K H p xs∨SqT K H p xs) (_:Ve x=true) (_:xs.all Ve=true) (_:Q (.bl (if neg then !inV x xs else inV x xs)) H)
theorem YM:OpR X (compareOp .In) (rIn X.K false):=by
 intro pins s σ H x y v u Q I rx ry h
 obtain ⟨p,xs,rfl,hq,fx,fs,q⟩:=h
 cases ry
 rcases hq with hq | hq
 ·obtain ⟨its,r,pl,hz⟩:=I.list hq
  refine SeqAt.in_listAt (eqU x) pl.isList (fun w hw=>G2 rx fx r fs w (by simpa using hw)) ⟨.bl _,H,I,rfl,?_⟩
  rw [show its.toArray.any (eqU x)=its.any (eqU x) by simp,z0s r fs]
  exact q
 ·obtain ⟨its,r,pl,hz⟩:=I.tuple hq
  refine SeqAt.in_tupleAt (eqU x) pl (fun w hw=>G2 rx fx r fs w (by simpa using hw)) ⟨.bl _,H,I,rfl,?_⟩
  rw [show its.toArray.any (eqU x)=its.any (eqU x) by simp,z0s r fs]
  exact q
theorem z0b:OpR X (compareOp .NotIn) (rIn X.K true):=by
 intro pins s σ H x y v u Q I rx ry h
 obtain ⟨p,xs,rfl,hq,fx,fs,q⟩:=h
 cases ry
 rcases hq with hq | hq
 ·obtain ⟨its,r,pl,hz⟩:=I.list hq
  refine SeqAt.notIn_listAt (eqU x) pl.isList (fun w hw=>G2 rx fx r fs w (by simpa using hw)) ⟨.bl _,H,I,rfl,?_⟩
  rw [show its.toArray.any (eqU x)=its.any (eqU x) by simp,z0s r fs]
  exact q
 ·obtain ⟨its,r,pl,hz⟩:=I.tuple hq
  refine SeqAt.notIn_tupleAt (eqU x) pl (fun w hw=>G2 rx fx r fs w (by simpa using hw)) ⟨.bl _,H,I,rfl,?_⟩
  rw [show its.toArray.any (eqU x)=its.any (eqU x) by simp,z0s r fs]
  exact q
inductive rLen (K:z4)(vs:List V)(H:Hp)(Q:VK):Prop | mk (p:Addr) (ys:List V) (_:vs=[.ref p]) (_:SqL K H p ys∨SqT K H p ys) (_:Q (.int ys.length) H)
theorem y6:z1A X (.builtin "len") (rLen X.K):=by
 intro pins s σ H xs us Q I r h
 obtain ⟨p,ys,rfl,hq,q⟩:=h
 obtain ⟨u,rfl,rx⟩:=z2e r
 cases rx
 have hn:=z85
 rcases hq with hq | hq
 ·obtain ⟨its,r',pl,hz⟩:=I.list hq
  have hlen:=r'.length
  exact Calls.call_len_list pl.isList (by simp only [zO] <;> omega) ⟨.int ys.length,H,I.tok _,⟨s.toks+1,by rw [zO,hlen]⟩,q⟩
 ·obtain ⟨its,r',pl,hz⟩:=I.tuple hq
  have hlen:=r'.length
  exact len_tuple pl (by simp only [zO] <;> omega) ⟨.int ys.length,H,I.tok _,⟨s.toks+1,by rw [zO,hlen]⟩,q⟩
def tyV (K:z4)(T:String)(x:V)(H:Hp):Prop:=match x with
 | .str _=>T="str"
 | .int _=>T="int"
 | .ref p=>(T="list"∧∃xs,SqL K H p xs)∨(T="tuple"∧∃o,K.lookup p=some o∧o.cls=.type "tuple"∧o.dict=none)∨
  (T="dict"∧((∃kvs,H p=some (.dK kvs))∨∃kvs,H p=some (.dT kvs)))∨(T="set"∧∃S n,H p=some (.set S n))
 | _=>False
theorem zac {pins:List (Addr×Obj)}{σ:St}{H:Hp}{s:Shared}{T:String}{x:V}{v:Value}(I:Inv X pins σ H s)(r:jW x v)(ty:tyV X.K T x H) :
  s.TypeIs v T∧∀a,v=.ref a→∃ob,s.heap.get? a=some ob∧ob.dict=none:=by
 cases x with
 | str z=>
  obtain ⟨t,rfl⟩:=r
  cases (show T="str" from ty)
  exact ⟨typeIs_str s z t,fun _ e=>nomatch e⟩
 | int i=>
  obtain ⟨t,rfl⟩:=r
  cases (show T="int" from ty)
  exact ⟨typeIs_int s i t,fun _ e=>nomatch e⟩
 | ref p=>
  cases r
  rcases ty with ⟨rfl,xs,hq⟩ | ⟨rfl,o,hk,hc,hd⟩ | ⟨rfl,hk⟩ | ⟨rfl,S,n,hk⟩
  ·obtain ⟨its,_,pl,_⟩:=I.list hq
   refine ⟨pl.isList.typeIs,fun a e=>?_⟩
   cases e
   obtain ⟨o,n,e,c,hd,_⟩:=pl
   exact ⟨o,e,hd⟩
  ·refine ⟨⟨o,I.kIn p o hk,hc⟩,fun a e=>?_⟩
   cases e
   exact ⟨o,I.kIn _ o hk,hd⟩
  ·have z:∃o,s.heap.get? p=some o∧o.ExactDict:=by
    rcases hk with ⟨kvs,hk⟩ | ⟨kvs,hk⟩
    ·obtain ⟨_,_,_,_,o,_,_,e,ex,_⟩:=I.hok p _ hk
     exact ⟨o,e,ex⟩
    ·obtain ⟨_,_,_,_,o,_,_,e,ex,_⟩:=I.hok p _ hk
     exact ⟨o,e,ex⟩
   obtain ⟨o,e,ex⟩:=z
   refine ⟨⟨o,e,ex.1⟩,fun a e2=>?_⟩
   cases e2
   exact ⟨o,e,ex.2.1⟩
  ·obtain ⟨o,_,_,_,e,ex,_⟩:=I.hok p _ hk
   refine ⟨⟨o,e,ex.1⟩,fun a e2=>?_⟩
   cases e2
   exact ⟨o,e,ex.2.1⟩
 | _=>exact Z0 ty
def tBM0 (K:z4)(T:String)(r:V→List V→Hp→VK→Prop)(to:TE):TE:=fun σ H Q=>to σ H fun x H1=>tyV K T x H1∧r x [] H1 Q
def tBM (K:z4)(T:String)(r:V→List V→Hp→VK→Prop)(to:TE)(t:TA):TE:=fun σ H Q=>to σ H fun x H1=>tyV K T x H1∧t σ H1 fun xs H2=>r x xs H2 Q
variable {o e:Expr}{es:List Expr}{to:TE}{t:TA}{name:Str}{apos cpos:Pos}{T id:String}{r:V→List V→Hp→VK→Prop}
theorem z7w (pa:PlainAttrs T)(slot:Slot T name id)(hty:typeOf (.builtin id)=pure (.type "method_descriptor"))(hm:MtR X id r)(ho:PE X o to)
  (hbase:attributeBase o name X.env (eval o X.env)=eval o X.env:=by rfl) (hline:(apos.endLine==cpos.line)=true:=by rfl):PE X (.Call (.Attribute o name apos) [] [] cpos) (tBM0 X.K T r to):=by
 intro pins s σ H Q I h
 refine wpAny_Call_method0_late hbase hline (thn (ho pins s σ H _ I h) fun v s1 ⟨x,H1,I1,r1,ty,q1⟩=>?_)
 obtain ⟨h1,h2⟩:=zac I1 r1 ty
 exact ⟨T,id,pa,slot,hty,h1,h2,z6Q rfl (PySem.evalArgs_none (hm pins s1 σ H1 x [] v [] Q I1 r1 .nil q1))⟩
theorem Ju (pa:PlainAttrs T)(slot:Slot T name id)(hty:typeOf (.builtin id)=pure (.type "method_descriptor"))(hm:MtR X id r)(ho:PE X o to)(ha:PA X (e::es) t)
  (hbase:attributeBase o name X.env (eval o X.env)=eval o X.env:=by rfl)
  (hfew:((backTo cpos (starEach (e::es) X.env)).all (fun x=>!x.1)&&(backToKw cpos (keywordEach [] X.env)).all (fun x=>x.1.isSome)
   && decide ((e::es).length+([]:List Keyword).length+(if ([]:List Keyword).isEmpty then 0 else 1)<30))=true:=by rfl)
  (hline:(apos.endLine==cpos.line)=true:=by rfl) (hs:starEach (e::es) X.env=(false,eval e X.env)::starEach es X.env:=by rfl) (hplain:(backTo cpos (starEach es X.env)).any (·.1)=false:=by rfl) :
  PE X (.Call (.Attribute o name apos) (e::es) [] cpos) (tBM X.K T r to t):=by
 intro pins s σ H Q I h
 refine wpAny_Call_method_late hbase hfew hline rfl (thn (ho pins s σ H _ I h) fun v s1 ⟨x,H1,I1,r1,ty,q1⟩=>?_)
 obtain ⟨h1,h2⟩:=zac I1 r1 ty
 refine ⟨T,id,pa,slot,hty,h1,h2,?_⟩
 have hA:=ha cpos pins s1 σ H1 _ I1 q1
 rw [hs] at hA ⊢
 refine z6Q (by show (false||(backTo cpos (starEach es X.env)).any (·.1))=false;rw [hplain] <;> rfl) (Calls.evalArgs_plain ?_)
 exact thn hA fun us s2 ⟨vs,H2,I2,r2,q2⟩=>hm pins s2 σ H2 x vs v us Q I2 r1 r2 q2
end
end L2
namespace L2
open PySem PySem.Spec PyProof.Rows
def MtM (X:Cx)(id:String)(r:V→List V→Hp→VK→Prop):Prop:=
 ∀(pins:List (Addr×Obj)) (s:Shared) (σ:St) (H:Hp) (x:V) (xs:List V) (v:Value) (us:List Value) (Q:VK),Inv X pins σ H s→jW x v→yO xs us→r x xs H Q→
  wpAny (model X.prog X.w) X.A (call (.builtin id) (v::us)) (EP X pins σ Q) X.xe s
theorem yO.one:∀{x:V}{us:List Value},yO [x] us→∃u,us=[u]∧jW x u
 | _,_,.cons r .nil=>⟨_,rfl,r⟩
theorem yO.zero:∀{us:List Value},yO [] us→us=[]
 | _,.nil=>rfl
theorem yO.dropLast {xs:List V}{us:List Value}(h:yO xs us):yO xs.dropLast us.dropLast:=by
 induction h with
 | nil=>exact .nil
 | cons r t ih=>
  cases t with
  | nil=>exact .nil
  | cons q t'=>exact .cons r ih
theorem yO.reverse {xs:List V}{us:List Value}(h:yO xs us):yO xs.reverse us.reverse:=by
 induction h with
 | nil=>exact .nil
 | cons r t ih=>rw [List.reverse_cons,List.reverse_cons];exact yO.append ih (.cons r .nil)
theorem z8a {α:Type}(l:List α):l.eraseIdx (l.length - 1)=l.dropLast:=by
 induction l with
 | nil=>rfl
 | cons a r ih=>
  cases r with
  | nil=>rfl
  | cons b r=>
   have e:(a::b::r).length - 1=((b::r).length - 1)+1:=by
    have h1:(a::b::r).length=r.length+2:=rfl
    have h2:(b::r).length=r.length+1:=rfl
    omega
   rw [e,List.eraseIdx_cons_succ,ih]
   all_goals rfl
section
variable {X:Cx}{pins:List (Addr×Obj)}{σ:St}{H:Hp}{s:Shared}{l b:Addr}{xs ys zs:List V}
theorem Inv.lset {its its':List Value}{n:Nat}{f:Array Value→Array Value}{t':Nat}(I:Inv X pins σ H s)(hH:H l=some (.lst xs))
  (e:s.heap.get? l=some { cls:=.type "list",data:=.seq its.toArray n }) (hf:f its.toArray=its'.toArray) (hv:yO ys its') (hz:ys.length≤sizeLine) :
  Inv X pins σ (upd H l (.lst ys)) { s with heap:=s.heap.update l (yW f),toks:=t' }:=by
 have q:=PySem.IsL.update e f
 rw [hf] at q
 refine I.write (x:=l) (e:=l) (by rw [hH];exact trivial) (.inl rfl) (fun b' u hb hu=>(yV s.heap (yW f) (j1 hb)).trans hu) ⟨_,q⟩ ?_
 exact ⟨hz,its',_,hv,q⟩
theorem Inv.lnew {its:List Value}{t':Nat}(I:Inv X pins σ H s)(hv:yO ys its)(hz:ys.length≤sizeLine) :
  Inv X pins σ (upd H s.heap.objs.size (.lst ys)) { s with heap:=s.heap.push { cls:=.type "list",data:=.seq its.toArray },toks:=t' }:=
 I.laid (fun _ _ q=>ze _ q) (zb _) ⟨hz,its,0,hv,yd _ rfl⟩
theorem Inv.fresh (I:Inv X pins σ H s):H s.heap.objs.size=none:=I.hok.fresh (zb _)
theorem Inv.lstM (I:Inv X pins σ H s)(hH:H l=some (.lst xs)):xs.length≤sizeLine∧∃(its:List Value) (n:Nat),yO xs its∧xs.length=its.length∧s.heap.get? l=some { cls:=.type "list",data:=.seq its.toArray n }:=by
 obtain ⟨z,its,n,r,e⟩:=I.hok l _ hH
 exact ⟨z,its,n,r,r.length,e⟩
theorem zaH {n:Nat}(h:n≤sizeLine):W0 n=false:=by
 unfold W0
 exact decide_eq_false (by omega)
end
section
variable {X:Cx}
inductive z8A (x:V)(vs:List V)(H:Hp)(Q:VK):Prop | mk (l:Addr) (xs:List V) (y:V) (_:x=.ref l) (_:vs=[y]) (_:H l=some (.lst xs)) (_:xs.length<sizeLine) (_:Q .non (upd H l (.lst (xs++[y]))))
theorem ZX:MtM X "list.append" z8A:=by
 intro pins s σ H x vs v us Q I rx rv h
 obtain ⟨l,xs,y,rfl,rfl,hH,hz,q⟩:=h
 cases rx
 obtain ⟨u,rfl,ru⟩:=rv.one
 obtain ⟨z,its,n,r,hl,e⟩:=I.lstM hH
 refine call_meets F.slot_list_append ⟨_,e,rfl⟩ F.entry_list_append (F.args_list_append_2 _ _) (PySem.list_append l its.toArray n u (by rw [zO];omega)) ⟨e,?_⟩
 refine ⟨.non,_,I.lset (its':=its++[u]) hH e (by simp) (r.append (.cons ru .nil)) ?_,rfl,q⟩
 rw [za,List.length_singleton]
 omega
inductive rExtend (x:V)(vs:List V)(H:Hp)(Q:VK):Prop | mk (l b:Addr) (xs zs:List V) (_:x=.ref l) (_:vs=[.ref b]) (_:H l=some (.lst xs)) (_:H b=some (.lst zs)) (_:xs.length+zs.length≤sizeLine) (_:Q .non (upd H l (.lst (xs++zs))))
theorem JY:MtM X "list.extend" rExtend:=by
 intro pins s σ H x vs v us Q I rx rv h
 obtain ⟨l,b,xs,zs,rfl,rfl,hH,hB,hz,q⟩:=h
 cases rx
 obtain ⟨u,rfl,ru⟩:=rv.one
 cases ru
 obtain ⟨z,its,n,r,hl,e⟩:=I.lstM hH
 obtain ⟨z2,its2,n2,r2,hl2,e2⟩:=I.lstM hB
 have hsz:its.toArray.size+its2.toArray.size≤sizeLine:=by rw [zO,zO];omega
 have hlong:¬(!its.toArray.isEmpty&&W0 (its.toArray.size+its2.toArray.size))=true:=by
  rw [zaH hsz,QJ]
  exact zR
 refine call_meets F.slot_list_extend ⟨_,e,rfl⟩ F.entry_list_extend (F.args_list_extend_2 _ _)
  (AutoSeq1.list_extend_list_list_0 l its.toArray n b its2.toArray n2 hlong (by rw [zO];omega) (by omega)) ⟨e,e2,?_⟩
 refine ⟨.non,_,I.lset (its':=its++its2) hH e (by simp) (r.append r2) ?_,rfl,q⟩
 rw [za]
 omega
inductive rPop (x:V)(vs:List V)(H:Hp)(Q:VK):Prop | mk (l:Addr) (xs:List V) (y:V) (_:x=.ref l) (_:vs=[]) (_:H l=some (.lst xs)) (_:xs[xs.length - 1]?=some y) (_:Q y (upd H l (.lst xs.dropLast)))
theorem z82:MtM X "list.pop" rPop:=by
 intro pins s σ H x vs v us Q I rx rv h
 obtain ⟨l,xs,y,rfl,rfl,hH,hy,q⟩:=h
 cases rx
 have hus:=rv.zero
 subst hus
 obtain ⟨z,its,n,r,hl,e⟩:=I.lstM hH
 obtain ⟨u,hu,ru⟩:=r.get hy
 have hy':its.toArray[its.toArray.size - 1]?=some u:=by
  show its.toArray[its.length - 1]?=some u
  rw [←qF,←hl]
  exact hu
 refine call_meets F.slot_list_pop ⟨_,e,rfl⟩ F.entry_list_pop (F.args_list_pop_1 _) (MeetsSeq.list_pop_last l its.toArray n u hy' (by rw [zO];omega)) ⟨e,?_⟩
 refine ⟨y,_,I.lset (its':=its.dropLast) hH e ?_ r.dropLast ?_,ru,q⟩
 ·show its.toArray.eraseIdxIfInBounds (its.toArray.size - 1)=its.dropLast.toArray
  rw [zO,List.eraseIdxIfInBounds_toArray,z8a]
 ·rw [List.length_dropLast]
  omega
inductive rCat (x y:V)(H:Hp)(Q:VK):Prop | mk (l b:Addr) (xs zs:List V) (_:x=.ref l) (_:y=.ref b) (_:H l=some (.lst xs)) (_:H b=some (.lst zs)) (_:xs.length+zs.length≤sizeLine) (_:∀p,H p=none→Q (.ref p) (upd H p (.lst (xs++zs))))
theorem Jv:OpR X (binaryOp .Add) rCat:=by
 intro pins s σ H x y v u Q I rx ry h
 obtain ⟨l,b,xs,zs,rfl,rfl,hH,hB,hz,q⟩:=h
 cases rx
 cases ry
 obtain ⟨z,its,n,r,hl,e⟩:=I.lstM hH
 obtain ⟨z2,its2,n2,r2,hl2,e2⟩:=I.lstM hB
 refine PySem.P.add_list e e2 ?_ (by rw [zO,zO];omega)
 have ea:its.toArray++its2.toArray=(its++its2).toArray:=by simp
 rw [ea]
 exact ⟨.ref _,_,I.lnew (t':=s.toks) (r.append r2) (by rw [za];omega),rfl,q _ I.fresh⟩
end
end L2
namespace L2
open PySem PySem.Spec PyProof.Rows
theorem yO.ints:∀{ns:List Int}{us:List Value},yO (ns.map V.int) us→IntsAre us ns
 | [],us,h=>by
  rw [z8o] at h
  cases h
  exact IntsAre.nil
 | n::ns,us,h=>by
  rw [zJ] at h
  cases h with
  | cons r t=>
   obtain ⟨k,rfl⟩:=r
   exact IntsAre.cons n k (yO.ints t)
theorem yO.bls:∀{bs:List Bool}{us:List Value},yO (bs.map V.bl) us→us=bs.map Vj
 | [],us,h=>by
  rw [z8o] at h
  cases h
  rfl
 | b::bs,us,h=>by
  rw [zJ] at h
  cases h with
  | cons r t=>
   cases r
   rw [yO.bls t,zJ]
theorem yO.ref1 {a:Addr}{us:List Value}(r:yO [V.ref a] us):us=[yU a]:=by
 cases r with
 | cons r t=>
  cases t
  cases r
  rfl
section
variable {prog:Program}{w:World}{A:Around}{E:Value→Shared→Prop}{s:Shared}{l:Addr}{its:List Value}{ns:List Int}{Q:Value→Shared→Prop}
theorem sum_raw (hh:A.handled=none)(hl:s.heap.IsList l its.toArray)(hi:IntsAre its ns)
  (h:∀h' tk t',(∀b o,s.heap.get? b=some o→h'.get? b=some o)→Q (.int ns.sum t') { s with heap:=h',toks:=tk }):wpAny (model prog w) A (call (.builtin "sum") [.ref l]) Q E s:=by
 obtain ⟨xs,e⟩:=hi.allInts.items
 have hn:numsOf (intItems xs).toList=ns:=by rw [←e];exact hi.numsOf
 rw [nums_intItems] at hn
 rw [e] at hl
 refine PySem.sum_intListG hh hl fun h' tk t' hk=>?_
 have:=h h' tk t' hk
 rw [preSum_eq,Zu (by simp),hn];exact this
theorem max_raw (hh:A.handled=none)(hl:s.heap.IsList l its.toArray)(hi:IntsAre its ns)(hne:0<ns.length)
  (h:∀h' tk M t',(∀b o,s.heap.get? b=some o→h'.get? b=some o)→M∈ns→(∀a,a∈ns→a≤M)→Q (.int M t') { s with heap:=h',toks:=tk }):wpAny (model prog w) A (call (.builtin "max") [.ref l]) Q E s:=by
 obtain ⟨xs,e⟩:=hi.allInts.items
 have hn:numsOf (intItems xs).toList=ns:=by rw [←e];exact hi.numsOf
 rw [nums_intItems] at hn
 subst hn
 rw [e] at hl
 have hsz:0<xs.size:=by simpa using hne
 refine PySem.max_intList hh hl hsz fun v h' tk hv hk=>?_
 obtain ⟨t,rfl⟩:=intItems_at hv
 obtain ⟨h1,h2⟩:=argBest_gt (numAt xs) (xs.size - 1)
 refine h h' tk _ t hk ?_ fun a ha=>?_
 ·rw [numAt_eq];exact z48 (by rw [z0,yh];omega)
 ·obtain ⟨j,hj,rfl⟩:=mem_getD ha
  rw [z0,yh] at hj
  rw [←numAt_eq];exact h2 j (by omega)
theorem min_raw (hh:A.handled=none)(hl:s.heap.IsList l its.toArray)(hi:IntsAre its ns)(hne:0<ns.length)
  (h:∀h' tk M t',(∀b o,s.heap.get? b=some o→h'.get? b=some o)→M∈ns→(∀a,a∈ns→M≤a)→Q (.int M t') { s with heap:=h',toks:=tk }):wpAny (model prog w) A (call (.builtin "min") [.ref l]) Q E s:=by
 obtain ⟨xs,e⟩:=hi.allInts.items
 have hn:numsOf (intItems xs).toList=ns:=by rw [←e];exact hi.numsOf
 rw [nums_intItems] at hn
 subst hn
 rw [e] at hl
 have hsz:0<xs.size:=by simpa using hne
 refine PySem.min_intList hh hl hsz fun v h' tk hv hk=>?_
 obtain ⟨t,rfl⟩:=intItems_at hv
 obtain ⟨h1,h2⟩:=argBest_lt (numAt xs) (xs.size - 1)
 refine h h' tk _ t hk ?_ fun a ha=>?_
 ·rw [numAt_eq];exact z48 (by rw [z0,yh];omega)
 ·obtain ⟨j,hj,rfl⟩:=mem_getD ha
  rw [z0,yh] at hj
  rw [←numAt_eq];exact h2 j (by omega)
end
section
variable {X:Cx}
inductive rSum (K:z4)(vs:List V)(H:Hp)(Q:VK):Prop | mk (a:Addr) (ns:List Int) (_:vs=[V.ref a]) (_:SqL K H a (ns.map V.int)) (_:Q (.int ns.sum) H)
inductive rMin (K:z4)(vs:List V)(H:Hp)(Q:VK):Prop | mk (a:Addr) (ns:List Int) (_:vs=[V.ref a]) (_:SqL K H a (ns.map V.int)) (_:0<ns.length) (_:∀m,m∈ns→(∀y,y∈ns→m≤y)→Q (.int m) H)
theorem z5c (hc:X.calm=true):z1A X (.builtin "sum") (rSum X.K):=by
 intro pins s σ H vs us Q I r h
 obtain ⟨a,ns,rfl,hs,q⟩:=h
 obtain ⟨its,rv,hl,_⟩:=I.list hs
 rw [yO.ref1 r]
 exact sum_raw (I.ok.hd hc) hl.isList rv.ints fun h' tk t' hk=>⟨.int _,H,I.kept hk,⟨_,rfl⟩,q⟩
theorem zb4 (hc:X.calm=true):z1A X (.builtin "min") (rMin X.K):=by
 intro pins s σ H vs us Q I r h
 obtain ⟨a,ns,rfl,hs,hne,q⟩:=h
 obtain ⟨its,rv,hl,_⟩:=I.list hs
 rw [yO.ref1 r]
 exact min_raw (I.ok.hd hc) hl.isList rv.ints hne fun h' tk m t' hk h1 h2=>⟨.int _,H,I.kept hk,⟨_,rfl⟩,q m h1 h2⟩
end
theorem z6n {prog:Program}{w:World}{A:Around}{E:Value→Shared→Prop}{s:Shared}{l:Addr}{items:Array Value}{Q:Value→Shared→Prop}(hl:s.heap.IsList l items)
  (h:∀s₂:Shared,s₂={ s with heap:=s.heap.push { cls:=.type "list_iterator",data:=.fields #[.ref l,.int 0 0] } }→
   (s₂.heap.IsListIter s.heap.objs.size l 0∧s₂.heap.IsList l items)→l≠s.heap.objs.size→Q (.ref s.heap.objs.size) s₂):wpAny (model prog w) A (pyIter (.ref l)) Q E s:=by
 have hlt:l<s.heap.objs.size:=by obtain ⟨_,e,_⟩:=hl;exact zC e
 exact wpAny_pyIter_list hl (h _ rfl ⟨⟨_,yd _ rfl,rfl,rfl⟩,hl.push _⟩ (yF hlt))
theorem z1m {prog:Program}{w:World}{A:Around}{bs:List Bool}{its:List Value}(e:its=bs.map Vj) :
  TruthOf prog w A (fun i v=>its.toArray[i]?=some v) (fun i=>bs.getD i false):=fun i v s Q E hv hq=>by
 have hv':its[i]?=some v:=by simpa using hv
 rw [e,zB] at hv'
 obtain ⟨b,hb,rfl⟩:=Option.map_eq_some_iff.mp hv'
 have hg:bs.getD i false=b:=by rw [yE,hb] <;> rfl
 have hq':Q (bs.getD i false) s:=hq
 rw [hg] at hq'
 exact wpAny_truthy_bool hq'
theorem z44:∀bs:List Bool,(zf bs.length).any (fun i=>bs.getD i false)=bs.any id
 | []=>rfl
 | b::bs=>by
  rw [zu,z8n,Vy,List.any_map,Vy,←z44 bs]
  all_goals rfl
theorem z45:∀bs:List Bool,(zf bs.length).all (fun i=>bs.getD i false)=bs.all id
 | []=>rfl
 | b::bs=>by
  rw [zu,z8n,Vz,z8q,Vz,←z45 bs]
  all_goals rfl
section
variable {X:Cx}
inductive rAny (K:z4)(vs:List V)(H:Hp)(Q:VK):Prop | mk (a:Addr) (bs:List Bool) (_:vs=[V.ref a]) (_:SqL K H a (bs.map V.bl)) (_:Q (.bl (bs.any id)) H)
inductive rAll (K:z4)(vs:List V)(H:Hp)(Q:VK):Prop | mk (a:Addr) (bs:List Bool) (_:vs=[V.ref a]) (_:SqL K H a (bs.map V.bl)) (_:Q (.bl (bs.all id)) H)
theorem cr_any (hc:X.calm=true):z1A X (.builtin "any") (rAny X.K):=by
 intro pins s σ H vs us Q I r h
 obtain ⟨a,bs,rfl,hs,q⟩:=h
 obtain ⟨its,rv,hl,_⟩:=I.list hs
 rw [yO.ref1 r]
 have hb:=rv.bls
 refine call_any_walk (z6n hl.isList fun s₂ e2 st hne=>?_)
 subst e2
 refine ⟨_,_,_,_,_,_,_,rfl,Walks.list (A:=X.A.in1) (I.ok.hd hc) _ a hne its.toArray,st,z1m hb,fun h' tk hk=>?_⟩
 refine ⟨.bl _,H,I.kept fun b o eo=>hk b o (fun hmem=>?_) (ze _ eo),?_,q⟩
 ·rcases zx.mp hmem with e1 | hmem
  ·exact absurd (e1 ▸ zC eo) (yY _)
  ·cases hmem
 ·show Vj _=Vj _
  rw [←z44,hb,zO,z0]
theorem zb5 (hc:X.calm=true):z1A X (.builtin "all") (rAll X.K):=by
 intro pins s σ H vs us Q I r h
 obtain ⟨a,bs,rfl,hs,q⟩:=h
 obtain ⟨its,rv,hl,_⟩:=I.list hs
 rw [yO.ref1 r]
 have hb:=rv.bls
 refine call_all_walk (z6n hl.isList fun s₂ e2 st hne=>?_)
 subst e2
 refine ⟨_,_,_,_,_,_,_,rfl,Walks.list (A:=X.A.in1) (I.ok.hd hc) _ a hne its.toArray,st,z1m hb,fun h' tk hk=>?_⟩
 refine ⟨.bl _,H,I.kept fun b o eo=>hk b o (fun hmem=>?_) (ze _ eo),?_,q⟩
 ·rcases zx.mp hmem with e1 | hmem
  ·exact absurd (e1 ▸ zC eo) (yY _)
  ·cases hmem
 ·show Vj _=Vj _
  rw [←z45,hb,zO,z0]
end
mutual
inductive Dp (K:z4)(H:Hp):V→PyData→Prop
 | non:Dp K H .non .none
 | bl (b:Bool):Dp K H (.bl b) (.bool b)
 | int (i:Int):Dp K H (.int i) (.int i)
 | str (x:Str):Dp K H (.str x) (.str x)
 | lst {a:Addr} {xs:List V} {ds:List PyData}:SqL K H a xs→z3c K H xs ds→Dp K H (.ref a) (.list ds)
 | tup {a:Addr} {xs:List V} {ds:List PyData}:SqT K H a xs→z3c K H xs ds→Dp K H (.ref a) (.tuple ds)
inductive z3c (K:z4)(H:Hp):List V→List PyData→Prop
 | nil:z3c K H [] []
 | cons {v:V} {vs:List V} {d:PyData} {ds:List PyData}:Dp K H v d→z3c K H vs ds→z3c K H (v::vs) (d::ds)
end
section
variable {X:Cx}{pins:List (Addr×Obj)}{σ:St}{H:Hp}{s:Shared}
mutual
theorem Dp.reads (I:Inv X pins σ H s):∀(d:PyData) (v:V) (u:Value),Dp X.K H v d→jW v u→∃as,Reads s.heap u d as
 | .none,_,_,h,r=>by
  cases h
  cases r
  exact ⟨_,Reads.none⟩
 | .bool b,_,_,h,r=>by
  cases h
  cases r
  exact ⟨_,Reads.bool b⟩
 | .int i,_,_,h,r=>by
  cases h
  obtain ⟨t,rfl⟩:=r
  exact ⟨_,Reads.int i t⟩
 | .str x,_,_,h,r=>by
  cases h
  obtain ⟨t,rfl⟩:=r
  exact ⟨_,Reads.str x t⟩
 | .list ds,_,_,h,r=>by
  cases h with
  | lst hs ha=>
   cases r
   obtain ⟨its,rv,⟨o,n,ho,hc,_,hd⟩,_⟩:=I.list hs
   obtain ⟨as,hr⟩:=Dp.readsAll I ds _ its ha rv
   exact ⟨_,Reads.list ho hc hd hr⟩
 | .tuple ds,_,_,h,r=>by
  cases h with
  | tup hs ha=>
   cases r
   obtain ⟨its,rv,⟨o,ho,hc,n,hd⟩,_⟩:=I.tuple hs
   obtain ⟨as,hr⟩:=Dp.readsAll I ds _ its ha rv
   exact ⟨_,Reads.tuple ho hc hd hr⟩
 | .dict _,_,_,h,_=>by cases h
theorem Dp.readsAll (I:Inv X pins σ H s):∀(ds:List PyData) (vs:List V) (us:List Value),z3c X.K H vs ds→yO vs us→∃as,ReadsAll s.heap us ds as
 | [],_,_,h,r=>by
  cases h
  cases r
  exact ⟨_,ReadsAll.nil⟩
 | d::ds,_,_,h,r=>by
  cases h with
  | cons h1 h2=>
   cases r with
   | cons r1 r2=>
    obtain ⟨as,q1⟩:=Dp.reads I d _ _ h1 r1
    obtain ⟨bs,q2⟩:=Dp.readsAll I ds _ _ h2 r2
    exact ⟨_,ReadsAll.cons q1 q2⟩
end
end
section
variable {X:Cx}
inductive rEqD (K:z4)(x y:V)(H:Hp)(Q:VK):Prop | mk (d e:PyData) (_:Dp K H x d) (_:Dp K H y e) (_:z1B d=true) (_:z1B e=true) (_:Q (.bl (z0w d e)) H)
theorem z7z (hu:X.A.units+64<cLine):OpR X (compareOp .Eq) (rEqD X.K):=by
 intro pins s σ H x y v u Q I rx ry h
 obtain ⟨d,e,hd,he,sd,se,q⟩:=h
 obtain ⟨as,r1⟩:=Dp.reads I d x v hd rx
 obtain ⟨bs,r2⟩:=Dp.reads I e y u he ry
 exact SeqAt.compareEq_shaped r1 r2 sd se hu ⟨.bl _,H,I,rfl,q⟩
end
end L2
namespace L2
open PySem PySem.Spec PyProof.Rows
abbrev z8j (h:Heap)(c:Addr)(v:Option Value):Prop:=h.IsCell c v
def relS (scope sc:Scope):Scope:=
 { scope with names:=scope.names.map fun (n,k)=>if (k==.free&&sc.kind==.function&&sc.names.lookup n==some .cell) then (n,.cell) else (n,k) }
def jh (cells:List (Str×Addr)):List (Str×NameKind)→List (Str×Addr)→List (Str×Addr)
 | [],acc=>acc
 | (n,k)::r,acc=>if k==.free then jh cells r ((n,(cells.lookup n).getD 0)::acc) else jh cells r acc
theorem z0o (env:Env)(f:Str×NameKind→List (Str×Addr)→Sem (ForInStep (List (Str×Addr))))
  (hf:∀n k c,f (n,k) c=if k==.free then (do let a ←cellOf env n;pure (.yield ((n,a)::c))) else pure (.yield c)) :
  ∀(names:List (Str×NameKind)) (acc:List (Str×Addr)),(∀y∈names,y.2=.free→∃c,env.cells.lookup y.1=some c)→forIn names acc f=pure (jh env.cells names acc)
 | [],acc,_=>by rw [z5k];rfl
 | (n,k)::r,acc,h=>by
  rw [List.forIn_cons,hf]
  have ih:=fun acc=>z0o env f hf r acc fun y hy=>h y (zg _ hy)
  unfold jh
  by_cases hk:(k==J2)=true
  ·rw [if_pos hk,if_pos hk]
   obtain ⟨c,hc⟩:=h (n,k) zn (by simpa using hk)
   have e:cellOf env n=pure c:=by unfold cellOf;rw [hc]
   rw [e]
   have e2:(env.cells.lookup n).getD 0=c:=by rw [hc];rfl
   rw [e2]
   exact ih _
  ·rw [if_neg hk,if_neg hk]
   exact ih _
theorem QB {scope:Scope}{env:Env}(h:∀y∈scope.names,y.2=.free→∃c,env.cells.lookup y.1=some c):closureFor scope env=pure (jh env.cells scope.names []):=by
 simp only [closureFor]
 rw [z0o env _ (fun n k c=>rfl) scope.names [] h]
 rfl
theorem VV {α:Type}:∀{l:List (Str×α)}{n:Str}{c:α},(n,c)∈l→∃c',l.lookup n=some c'
 | (k,v)::r,n,c,h=>by
  rw [Yg]
  cases hb:n==k with
  | true=>exact ⟨_,rfl⟩
  | false=>
   rcases zx.mp h with e | h
   ·cases e;simp at hb
   ·exact VV h
theorem Jf {cells:List (Str×Addr)}:∀{names:List (Str×NameKind)}{acc:List (Str×Addr)}{n:Str}{c:Addr},(n,c)∈jh cells names acc→(n,c)∈acc∨((n,.free)∈names∧c=(cells.lookup n).getD 0)
 | [],_,_,_,h=>.inl h
 | (m,k)::r,acc,n,c,h=>by
  unfold jh at h
  split at h
  ·rename_i hk
   have hk:k=.free:=by simpa using hk
   rcases Jf h with h | ⟨h1,h2⟩
   ·rcases zx.mp h with e | h
    ·cases e;exact .inr ⟨hk ▸ zn,rfl⟩
    ·exact .inl h
   ·exact .inr ⟨zg _ h1,h2⟩
  ·rcases Jf h with h | ⟨h1,h2⟩
   ·exact .inl h
   ·exact .inr ⟨zg _ h1,h2⟩
theorem UB {cells:List (Str×Addr)}:∀{names:List (Str×NameKind)}{acc:List (Str×Addr)}{p:Str×Addr},p∈acc→p∈jh cells names acc
 | [],_,_,h=>h
 | (m,k)::r,acc,p,h=>by
  unfold jh
  split
  ·exact UB (zg _ h)
  ·exact UB h
theorem Wp {cells:List (Str×Addr)}:∀{names:List (Str×NameKind)}{acc:List (Str×Addr)}{n:Str},(n,.free)∈names→(n,(cells.lookup n).getD 0)∈jh cells names acc
 | (m,k)::r,acc,n,h=>by
  unfold jh
  rcases zx.mp h with e | h
  ·cases e
   exact UB zn
  ·split
   ·exact Wp h
   ·exact Wp h
theorem Jg:∀{names:List (Str×NameKind)}{h:Heap}{acc:List (Str×Addr)}{x:Str}{c:Addr},(x,c)∈cellsFrom h.objs.size names acc→
  (x,c)∈acc∨((x,.cell)∈names∧h.objs.size≤c∧z8j (pushCells h names) c none)
 | [],_,_,_,_,h=>.inl h
 | (n,k)::r,h,acc,x,c,hm=>by
  unfold cellsFrom at hm
  unfold pushCells
  split at hm
  ·rename_i hk
   rw [if_pos hk]
   have hk:k=.cell:=by simpa using hk
   rw [←yN h { cls:=.type "cell",data:=.cell none }] at hm
   rcases Jg hm with hm | ⟨h1,h2,h3⟩
   ·rcases zx.mp hm with e | hm
    ·cases e
     exact .inr ⟨hk ▸ zn,zb _,_,pushCells_keeps r _ _ _ (yd _ rfl),rfl⟩
    ·exact .inl hm
   ·rw [yN] at h2
    exact .inr ⟨zg _ h1,YQ h2,h3⟩
  ·rename_i hk
   rw [if_neg hk]
   rcases Jg hm with hm | ⟨h1,h2,h3⟩
   ·exact .inl hm
   ·exact .inr ⟨zg _ h1,h2,h3⟩
theorem G4:∀{names:List (Str×NameKind)}{n:Nat}{acc:List (Str×Addr)}{p:Str×Addr},p∈acc→p∈cellsFrom n names acc
 | [],_,_,_,h=>h
 | (m,k)::r,n,acc,p,h=>by
  unfold cellsFrom
  split
  ·exact G4 (zg _ h)
  ·exact G4 h
theorem qu:∀{names:List (Str×NameKind)}{n:Nat}{acc:List (Str×Addr)}{x:Str},(x,.cell)∈names→∃c,(x,c)∈cellsFrom n names acc
 | (m,k)::r,n,acc,x,h=>by
  unfold cellsFrom
  rcases zx.mp h with e | h
  ·cases e
   exact ⟨n,G4 zn⟩
  ·split
   ·exact qu h
   ·exact qu h
theorem qt:∀{names:List (Str×NameKind)}{h:Heap}{acc:List (Str×Addr)}{x y:Str}{c:Addr},(∀p∈acc,p.2<h.objs.size)→(∀x y c,(x,c)∈acc→(y,c)∈acc→x=y)→
  (x,c)∈cellsFrom h.objs.size names acc→(y,c)∈cellsFrom h.objs.size names acc→x=y
 | [],_,_,_,_,_,_,hi,h1,h2=>hi _ _ _ h1 h2
 | (n,k)::r,h,acc,x,y,c,hl,hi,h1,h2=>by
  unfold cellsFrom at h1 h2
  split at h1
  ·rename_i hk
   rw [if_pos hk] at h2
   rw [←yN h { cls:=.type "cell",data:=.cell none }] at h1 h2
   refine qt (h:=h.push _) (fun p hp=>?_) (fun x y c a b=>?_) h1 h2
   ·rw [yN]
    rcases zx.mp hp with rfl | hp
    ·exact Yi _
    ·exact jJ (hl p hp)
   ·rcases zx.mp a with e | a <;> rcases zx.mp b with e' | b
    ·cases e;cases e';rfl
    ·cases e;exact absurd (hl _ b) (yY _)
    ·cases e';exact absurd (hl _ a) (yY _)
    ·exact hi _ _ _ a b
  ·rename_i hk
   rw [if_neg hk] at h2
   exact qt hl hi h1 h2
theorem z1q {M:Model}{A:Around}{E:Value→Shared→Prop}{s:Shared}{scope:Scope}{globals:Addr}{closure:List (Str×Addr)}{qual:Str}{func:Option Addr}{code:Value}{around:Env}{builtins:Addr}{Q:Env→Shared→Prop}
  (h:Q (newEnv scope s.heap.objs.size globals (cellsFrom (s.heap.objs.size+1) scope.names closure) qual func code (some around) builtins)
   { s with heap:=pushCells (s.heap.push { cls:=.type "dict",data:=.dict #[] }) scope.names }) :
  wpAny M A (newFunctionEnv scope globals closure [] qual func code (some around) builtins) Q E s:=by
 simp only [newFunctionEnv,Option.isSome_some,if_true]
 refine wpAny_bind (wpAny_alloc ?_)
 refine wpAny_bind (wpAny_layCells _ (fun n k c=>rfl) scope.names closure _ _ ?_)
 rw [show ({ s with heap:=s.heap.push { cls:=.type "dict",data:=.dict #[] } }:Shared).heap.objs.size=s.heap.objs.size+1 from yN ..]
 rw [z5k]
 exact wpAny_bind (wpAny_pure (wpAny_pure h))
theorem Ut {sc:Scope}:∀{names:List (Str×NameKind)}{x:Str}{k:NameKind},
  (names.map fun (n,k)=>if (k==J2&&sc.kind==.function&&sc.names.lookup n==some .cell) then (n,WJ) else (n,k)).lookup x=some k→
  ∃k',names.lookup x=some k'∧(k=k'∨(k'=.free∧k=.cell))
 | [],_,_,h=>by simp at h
 | (n,k₀)::r,x,k,h=>by
  have ih:=@Ut sc r x k
  have h':JJ x ((if (k₀==J2&&sc.kind==.function&&sc.names.lookup n==some .cell)=true then (n,WJ) else (n,k₀))::(r.map _))=some k:=h
  cases hx:x==n with
  | true=>
   simp only [Yg,hx]
   by_cases hc:(k₀==J2&&sc.kind==.function&&sc.names.lookup n==some .cell)=true
   ·rw [if_pos hc] at h'
    simp only [Yg,hx] at h'
    cases h'
    simp only [ye,beq_iff_eq] at hc
    exact ⟨k₀,rfl,.inr ⟨hc.1.1,rfl⟩⟩
   ·rw [if_neg hc] at h'
    simp only [Yg,hx] at h'
    cases h'
    exact ⟨_,rfl,.inl rfl⟩
  | false=>
   simp only [Yg,hx]
   by_cases hc:(k₀==J2&&sc.kind==.function&&sc.names.lookup n==some .cell)=true
   ·rw [if_pos hc] at h'
    simp only [Yg,hx] at h'
    exact ih h'
   ·rw [if_neg hc] at h'
    simp only [Yg,hx] at h'
    exact ih h'
structure UH (N:List Str)(sc scope:Scope)(own:List (Str×Nat)):Prop where
 kind:scope.kind=.function
 uniq:∀y∈scope.names,scope.names.lookup y.1=some y.2
 ix:∀p∈own,N[p.2]?=some p.1
 free:∀y∈scope.names,y.2=.free→sc.names.lookup y.1=some .cell∨sc.names.lookup y.1=some .free
 own:∀y∈scope.names,y.2=.local∨y.2=.cell→y.1∈own.map (·.1)∨y.1 ∉ N
def ZF (σ:St):List Nat→St
 | []=>σ
 | v::vs=>(ZF σ vs).set v none
theorem V4 (σ:St):∀vs:List Nat,(ZF σ vs).length=σ.length
 | []=>rfl
 | v::vs=>by unfold ZF;rw [List.length_set,V4 σ vs]
theorem WP {σ:St}{i:Nat}{x:V}:∀{vs:List Nat},(ZF σ vs)[i]?=some (some x)→σ[i]?=some (some x)∧i ∉ vs
 | [],h=>⟨h,by simp⟩
 | v::vs,h=>by
  unfold ZF at h
  by_cases hi:v=i
  ·subst hi
   by_cases hv:v<(ZF σ vs).length
   ·rw [UL hv] at h;cases h
   ·rw [jp (by simpa using hv)] at h;cases h
  ·rw [QH hi] at h
   obtain ⟨h1,h2⟩:=WP h
   exact ⟨h1,by simp only [zx,not_or];exact ⟨fun e=>hi e.symm,h2⟩⟩
abbrev Cx.blk (X:Cx)(s:Shared)(H:Hp)(scope:Scope)(cenv:Env)(fp:List Addr):Cx:={ X with s_0:=s,H_0:=H,env:=cenv,outer:=X.stack,ex:=fp,fn:=fun x=>scope.names.lookup x==some .cell,pn:=[],xe:=fun _ _=>False }
section
variable {X:Cx}{pins:List (Addr×Obj)}{σ:St}{H:Hp}{s:Shared}
theorem z1x {scope:Scope}{own:List (Str×Nat)}{fp:List Addr}(I:Inv X pins σ H s)(ok:UH X.N X.env.scope scope own)(hN:X.N.Nodup)(hfp:∀b∈fp,VF X pins H b∧b<s.heap.objs.size) :
  Inv (X.blk s H scope (compEnvC scope (cellsFrom (s.heap.objs.size+1) scope.names (jh X.env.cells scope.names [])) s.heap.objs.size X.env) fp) [] (ZF σ (own.map (·.2))) H { s with heap:=pushCells (s.heap.push { cls:=.type "dict",data:=.dict #[] }) scope.names }:=by
 have hfree:∀y∈scope.names,y.2=.free→∃c,X.env.cells.lookup y.1=some c:=fun y hy e=>by
  rcases ok.free y hy e with k | k
  ·exact I.ok.has _ (.inl k)
  ·exact I.ok.has _ (.inr k)
 generalize hcenv:compEnvC scope (cellsFrom (s.heap.objs.size+1) scope.names (jh X.env.cells scope.names [])) s.heap.objs.size X.env=cenv
 have kp:∀b o,s.heap.get? b=some o→(pushCells (s.heap.push { cls:=.type "dict",data:=.dict #[] }) scope.names).get? b=some o:=fun b o e=>pushCells_keeps _ _ _ _ (ze _ e)
 have hL:cenv.locals=s.heap.objs.size:=by rw [←hcenv];rfl
 have hcl:cenv.cells=cellsFrom (s.heap.objs.size+1) scope.names (jh X.env.cells scope.names []):=by rw [←hcenv];rfl
 have hsc:cenv.scope=relS scope X.env.scope:=by rw [←hcenv];rfl
 rw [←yN s.heap { cls:=.type "dict",data:=.dict #[] }] at hcl
 have cm:∀{y c},(y,c)∈jh X.env.cells scope.names []→X.env.cells.lookup y=some c∧c<s.heap.objs.size:=fun {y c} hm=>by
  rcases Jf hm with hm | ⟨h1,rfl⟩
  ·cases hm
  ·obtain ⟨c,hc⟩:=hfree _ h1 rfl
   rw [hc]
   obtain ⟨w,z⟩:=I.cell _ _ hc
   exact ⟨rfl,z.lt⟩
 have mem:∀{y c},cenv.cells.lookup y=some c→(X.env.cells.lookup y=some c∧c<s.heap.objs.size)∨(s.heap.objs.size+1≤c∧z8j (pushCells (s.heap.push { cls:=.type "dict",data:=.dict #[] }) scope.names) c none):=fun {y c} e=>by
  rw [hcl] at e
  rcases Jg (zM e) with hm | ⟨_,h2,h3⟩
  ·exact .inl (cm hm)
  ·rw [yN] at h2;exact .inr ⟨h2,h3⟩
 have look:∀{y},scope.names.lookup y=some .free→∃c,cenv.cells.lookup y=some c∧X.env.cells.lookup y=some c:=fun {y} hl=>by
  have hy:(y,J2)∈scope.names:=zM hl
  obtain ⟨c',e'⟩:=VV (G4 (names:=scope.names) (n:=(s.heap.push { cls:=.type "dict",data:=.dict #[] }).objs.size) (Wp (cells:=X.env.cells) (acc:=[]) hy))
  rw [←hcl] at e'
  refine ⟨c',e',?_⟩
  rw [hcl] at e'
  rcases Jg (zM e') with hm | ⟨h1,_,_⟩
  ·exact (cm hm).1
  ·have:=ok.uniq _ h1
   rw [hl] at this;cases this
 have okB:(X.blk s H scope cenv fp).Ok:=by
  refine ⟨I.ok.mod,by show cenv.scope.kind=_;rw [hsc];exact ok.kind,by show cenv.globals=_;rw [←hcenv];exact I.ok.glob,by show cenv.builtins=_;rw [←hcenv];exact I.ok.blt,by show s.heap.objs.size≤cenv.locals;rw [hL];exact zb _,
   fun y z c e1 e2=>?_,fun y hy=>?_,fun y c z e=>?_,I.ok.hd,I.ok.frames,.inl rfl,fun b hb=>⟨?_,fun y c e z=>?_⟩,I.bs,zd I.ok.bsz I.sz,fun b o e hb=>?_,fun b hb z=>?_,I.stack,I.stkFree⟩
  ·have e1:cenv.cells.lookup y=some c:=e1
   have e2:cenv.cells.lookup z=some c:=e2
   rw [hcl] at e1 e2
   refine qt (fun p hp=>?_) (fun y z c a b=>I.ok.inj y z c (cm a).1 (cm b).1) (zM e1) (zM e2)
   rw [yN]
   exact jJ (cm (y:=p.1) (c:=p.2) hp).2
  ·show ∃c,cenv.cells.lookup y=some c
   have key:∀k,cenv.kindOf y=some k→(k=.cell∨k=.free)→∃c,cenv.cells.lookup y=some c:=fun k hk hk'=>by
    unfold Env.kindOf at hk
    rw [hsc] at hk
    obtain ⟨k',e,r⟩:=Ut hk
    have:k'=.cell∨k'=.free:=by
     rcases r with rfl | ⟨rfl,_⟩
     ·exact hk'
     ·exact .inr rfl
    rcases this with rfl | rfl
    ·obtain ⟨c,hm⟩:=qu (n:=(s.heap.push { cls:=.type "dict",data:=.dict #[] }).objs.size) (acc:=jh X.env.cells scope.names []) (zM e)
     obtain ⟨c',e'⟩:=VV hm
     exact ⟨c',by rw [hcl];exact e'⟩
    ·obtain ⟨c,h1,_⟩:=look e
     exact ⟨c,h1⟩
   rcases hy with hy | hy
   ·exact key _ hy (.inl rfl)
   ·exact key _ hy (.inr rfl)
  ·have z:(scope.names.lookup y==some WJ)=true:=z
   have z:scope.names.lookup y=some .cell:=by simpa using z
   have e:cenv.cells.lookup y=some c:=e
   rw [hcl] at e
   rcases Jg (zM e) with hm | ⟨_,h2,_⟩
   ·rcases Jf hm with hm | ⟨h1,_⟩
    ·cases hm
    ·have q:=ok.uniq _ h1
     rw [z] at q;cases q
   ·rw [yN] at h2
    exact YQ h2
  ·show b≠cenv.locals
   rw [hL];exact yF (hfp b hb).2
  ·have e:cenv.cells.lookup y=some c:=e
   rcases mem e with ⟨h1,_⟩ | ⟨h1,_⟩
   ·exact (hfp b hb).1.2.2.2.2.1 y c h1 z
   ·have h2:s.heap.objs.size+1≤b:=by rw [←z];exact h1
    exact absurd (zW (hfp b hb).2 (YQ h2)) (yY _)
  ·rcases (hfp b hb).1.2.2.2.1 with z | z
   ·exact I.ok.noex b o e z
   ·exact absurd (zW (zC e) (zd I.ok.bsz z)) (yY _)
  ·rcases zx.mp (I.stkSub b z) with z | z
   ·exact (hfp b hb).1.2.1 z
   ·exact (hfp b hb).1.2.2.1 z
 refine ⟨okB,rfl,I.bare,Un.kept kp,⟨fun _=>none,?_,fun i y av e1 e2 e3=>?_⟩,fun y c e=>?_,?_,fun y c e=>?_,fun p hp=>?_,I.hok.kept kp,by rw [V4];exact I.len⟩
 ·show Heap.Ns _ cenv.locals _
  rw [hL]
  exact Heap.Ns.keeps (Heap.Ns.new ..) fun b o e=>pushCells_keeps _ _ _ _ e
 ·obtain ⟨e2,hne⟩:=WP e2
  have hfr:scope.names.lookup y=some .free∧(cenv.kindOf y=some .cell∨cenv.kindOf y=some .free):=by
   have key:∀k,cenv.scope.names.lookup y=some k→k=.local∨k=.cell∨k=.free→scope.names.lookup y=some .free∧(cenv.kindOf y=some .cell∨cenv.kindOf y=some .free):=fun k hk hk'=>by
    have hk0:=hk
    rw [hsc] at hk
    obtain ⟨k',e,r⟩:=Ut hk
    have no:¬(k'=.local∨k'=.cell):=fun hh=>by
     rcases ok.own _ (zM e) hh with e' | e'
     ·obtain ⟨p,hp,hpy⟩:=yr.mp e'
      have e3:=ok.ix p hp
      have:p.1=y:=hpy
      rw [this] at e3
      exact hne (yr.mpr ⟨p,hp,z0d hN e3 e1⟩)
     ·exact e' (zt e1)
    rcases r with rfl | ⟨rfl,rfl⟩
    ·rcases hk' with rfl | rfl | rfl
     ·exact absurd (.inl rfl) no
     ·exact absurd (.inr rfl) no
     ·exact ⟨e,.inr hk0⟩
    ·exact ⟨e,.inl hk0⟩
   have e3:Vis cenv.scope y:=e3
   rcases e3 with e3 | e3 | e3
   ·exact key _ e3 (.inl rfl)
   ·exact key _ e3 (.inr (.inl rfl))
   ·exact key _ e3 (.inr (.inr rfl))
  obtain ⟨m,hn,hl⟩:=I.loc
  have hvis:Vis X.env.scope y:=(ok.free _ (zM hfr.1) rfl).elim (fun k=>.inr (.inl k)) (fun k=>.inr (.inr k))
  obtain ⟨w,r,q⟩:=hl i y av e1 e2 hvis
  refine ⟨w,r,.inr ⟨hfr.2,?_⟩⟩
  obtain ⟨c,h1,h2⟩:=look hfr.1
  rcases q with ⟨k,_⟩ | ⟨_,c',e',z⟩
  ·have k:X.env.scope.names.lookup y=some .local:=k
   rcases ok.free _ (zM hfr.1) rfl with k' | k' <;> rw [show X.env.scope.names.lookup y=_ from k'] at k <;> cases k
  ·rw [h2] at e';cases e'
   exact ⟨c,h1,z.keeps kp⟩
 ·have e:cenv.cells.lookup y=some c:=e
  rcases mem e with ⟨h1,_⟩ | ⟨_,z⟩
  ·obtain ⟨w,z⟩:=I.cell y c h1
   exact ⟨w,z.keeps kp⟩
  ·exact ⟨_,z⟩
 ·show H cenv.locals=none
  rw [hL];exact I.hok.fresh (zb _)
 ·have e:cenv.cells.lookup y=some c:=e
  rcases mem e with ⟨h1,_⟩ | ⟨h1,_⟩
  ·exact I.freeC y c h1
  ·exact I.hok.fresh (YQ h1)
 ·exact absurd (show p∈([]:List (Addr×Obj))++[] from hp) (by simp)
theorem zbd {E:Value→Shared→Prop}{D:Addr}{xs:List V}{y:V}{v:Value}{Q:Value→Shared→Prop}(I:Inv X pins σ H s)(hD:H D=some (.lst xs))(hz:xs.length<sizeLine)(r:jW y v)
  (h:∀s',Inv X pins σ (upd H D (.lst (xs++[y]))) s'→Q .none s'):wpAny (model X.prog X.w) X.A (call (.builtin "list.append") [.ref D,v]) Q E s:=by
 obtain ⟨hz',its,n,ri,e⟩:=I.hok D _ hD
 have hl:=ri.length
 refine append_at (hsz:=by rw [zO];omega) e fun h' sb ho'=>?_
 refine h { s with heap:=h' } (I.write (t':=s.toks) (by rw [hD];trivial) (.inl rfl) (fun b u hb q=>(sb.2 b hb).trans q) ⟨_,ho'⟩ ⟨by rw [za];exact hz,its++[v],n+1,ri.append (.cons r .nil),?_⟩)
 rw [ho']
 simp
def PTs (X:Cx)(ifs:List Expr)(t:TT):Prop:=
 ∀(pins:List (Addr×Obj)) (s:Shared) (σ:St) (H:Hp) (Q:Bool→Hp→Prop),Inv X pins σ H s→t σ H Q→
  wpAny (model X.prog X.w) X.A (forIn ifs true fun c r=>if r=true then do let ok ←isTrue c X.env (eval c X.env);pure (GP ok) else pure (GP r)) (TP X pins σ Q) X.xe s
def tYes:TT:=fun _ H Q=>Q true H
theorem Zm:PTs X [] tYes:=fun _ _ _ H _ I h=>wpAny_tests_nil ⟨H,I,h⟩
theorem YK {c:Expr}{t:TT}(h:PT X c t):PTs X [c] t:=fun pins s σ H Q I hw=>wpAny_tests_one (h pins s σ H Q I hw)
end
theorem z4c {α:Type}{t:Sem α}{Q Q':α→Shared→Prop}{M:Model}{A:Around}{E:Value→Shared→Prop}{s:Shared}(h:wpAny M A t Q (fun _ _=>False) s)(hQ:∀a s,Q a s→Q' a s):wpAny M A t Q' E s:=wpAny_mono h hQ fun _ _ z=>Z0 z
theorem z0n {prog:Program}{w:World}{A:Around}{R:Result→Shared→Prop}{s:Shared}{elt target iter:Expr}{ifs:List Expr}{scope:Scope}{pos:Pos}{it acc:Value}{env:Env}(I:Nat→Shared→Prop)
  (turn:∀n s,I n s→wpAny (model prog w) A (pyNext it) (fun r s₁=>match r with
   | none=>R (.ok .next) s₁
   | some v=>wpAny (model prog w) A (letOwnedTupleGo target it v) (fun _ s₁'=>wpAny (model prog w) A (assign target env v) (fun _ s₂=>
    wpAny (model prog w) A (forIn ifs true fun c r=>if r=true then do let ok ←isTrue c env (eval c env);pure (GP ok) else pure (GP r)) (fun ok s₃=>
     if ok=true then wpAny (model prog w) A (eval elt env) (fun x s₄=>
      wpAny (model prog w) A (call (.builtin "list.append") [acc,x]) (fun _ s₅=>∃m,m<n∧I m s₅) (notedBy (model prog w) A env fun e s'=>R (.error e) s') s₄) (notedBy (model prog w) A env fun e s'=>R (.error e) s') s₃
     else ∃m,m<n∧I m s₃) (notedBy (model prog w) A env fun e s'=>R (.error e) s') s₂) (notedBy (model prog w) A env fun e s'=>R (.error e) s') s₁') (notedBy (model prog w) A env fun e s'=>R (.error e) s') s₁) (notedBy (model prog w) A env fun e s'=>R (.error e) s') s)
  (n:Nat) (h:I n s) :
  codeAny (model prog w) A (.compLoop (.ListComp elt [⟨target,iter,ifs,0⟩] scope pos) 0 it acc env) R s:=by
 refine codeAny_loop rfl I (fun n s hI=>?_) n h
 show wpAny _ A ((compTurn (.ListComp elt [⟨target,iter,ifs,0⟩] scope pos) 0 it acc env).onRaise (fun x=>do noteFrame x env;theTreesLotGoes x)) _ _ s
 refine wpAny_noted ?_
 rw [compTurn_list]
 refine wpAny_bind (wpAny_standAt (wpAny_bind (wpAny_mono (turn n s hI) (fun r s₁ h₁=>?_) fun _ _ h'=>h')))
 cases r with
 | none=>exact wpAny_pure h₁
 | some v=>
  refine wpAny_bind (wpAny_mono h₁ (fun _ s₁' h₁'=>?_) fun _ _ h'=>h')
  refine wpAny_bind (wpAny_mono h₁' (fun _ s₂ h₂=>wpAny_bind (wpAny_mono h₂ (fun ok s₃ h₃=>?_) fun _ _ h'=>h')) fun _ _ h'=>h')
  cases ok with
  | false=>exact wpAny_pure ⟨rfl,h₃⟩
  | true=>
   exact wpAny_bind (wpAny_bind (wpAny_mono h₃ (fun x s₄ h₄=>wpAny_bind (wpAny_mono h₄ (fun _ s₅ h₅=>wpAny_pure (wpAny_pure ⟨rfl,h₅⟩)) fun _ _ h'=>h')) fun _ _ h'=>h'))
section
variable {X:Cx}
inductive UG (D:Addr)(N:Hp→Prop)(y:V)(H:Hp):Prop | mk (acc:List V) (_:H D=some (.lst acc)) (_:acc.length<sizeLine) (_:N (upd H D (.lst (acc++[y]))))
inductive LcN (g:TG)(tt:TT)(te:TE)(vs:List Nat)(σ:St)(J:It)(D:Addr)(W:Nat→Nat→Hp→Prop)(i m:Nat)(H:Hp):Prop | mk (N:Hp→Prop) (_:∀H',N H'→∃m',m'<m∧W (i+1) m' H') (_:∀x H',J.yld i H x H'→g x (ZF σ vs) H' fun σ2 H2=>ZF σ2 vs=ZF σ vs∧tt σ2 H2 fun b H3=>if b=true then te σ2 H3 (UG D N) else N H3)
inductive LcK (g:TG)(tt:TT)(te:TE)(vs:List Nat)(σ:St)(Q:Hp→Prop)(J:It)(H1:Hp)(D:Addr):Prop | mk (W:Nat→Nat→Hp→Prop) (_:∃m,W 0 m (upd H1 D (.lst []))) (_:∀i m H,W i m H→(J.stop i H∧Q H)∨(J.go i H∧LcN g tt te vs σ J D W i m H))
def tLc (wi:TI)(g:TG)(tt:TT)(te:TE)(vs:List Nat):TE:=fun σ H Q=>wi σ H fun J H1=>∀D,H1 D=none→LcK g tt te vs σ (Q (.ref D)) J H1 D
theorem z8L {pins:List (Addr×Obj)}{s:Shared}{σ:St}{H:Hp}{Q:VK}{elt tg iter:Expr}{ifs:List Expr}{scope:Scope}{own:List (Str×Nat)}{pos pos':Pos}{wi:TI}{g:TG}{tt:TT}{te:TE}{use:Option (Value→Sem Unit)}{Qf:Value→Shared→Prop}
  (hc:X.calm=true) (hN:X.N.Nodup) (I:Inv X pins σ H s) (hi:PI X tg iter wi) (ok:UH X.N X.env.scope scope own)
  (hg:∀(s:Shared) (H:Hp) (C:Addr) (cl:List (Str×Addr)) (fp:List Addr),PG (X.blk s H scope (compEnvC scope cl C X.env) fp) tg g) (ht:∀(s:Shared) (H:Hp) (C:Addr) (cl:List (Str×Addr)) (fp:List Addr),PTs (X.blk s H scope (compEnvC scope cl C X.env) fp) ifs tt)
  (he:∀(s:Shared) (H:Hp) (C:Addr) (cl:List (Str×Addr)) (fp:List Addr),PE (X.blk s H scope (compEnvC scope cl C X.env) fp) elt te) (hs:∀x,foldedSetIterable iter X.env x=pure x)
  (h:tLc wi g tt te (own.map (·.2)) σ H Q)
  (hRR:∀D C s' m H',Inv X pins σ H' s'→Q (.ref D) H'→s'.heap.Ns C m→VF X pins H' C→compPost (model X.prog X.w) X.A X.xe use Qf (.ref D) C (.ok .next) s') :
  wpAny (model X.prog X.w) X.A (comprehension (.ListComp elt [⟨tg,iter,ifs,0⟩] scope pos) scope X.env pos' (newList []) false (eval iter X.env) use) Qf X.xe s:=by
 have hfree:∀y∈scope.names,y.2=.free→∃c,X.env.cells.lookup y.1=some c:=fun y hy e=>by
  rcases ok.free y hy e with k | k
  ·exact I.ok.has _ (.inl k)
  ·exact I.ok.has _ (.inr k)
 refine wpAny_comprehension_free (use:=use) rfl hs (QB hfree) ok.kind (fun y hy e=>by rw [ok.uniq y hy,e])
  (thn (hi pins s σ H _ I h) fun xv s1 hx=>thn hx fun itv s2 h2=>?_)
 obtain ⟨it,fp,tn,J,H2,e,I2,T,st2,f2,q⟩:=h2
 subst e
 refine wpAny_newObj_type (z1q ?_) (by show 0≤sizeLine;decide)
 generalize hD:s2.heap.objs.size=D
 have hDn:H2 D=none:=I2.hok.fresh (Wt hD)
 obtain ⟨W,⟨m0,w0⟩,turn⟩:=q D hDn
 generalize hs3:({ s2 with heap:=s2.heap.push { cls:=.type "list",data:=.seq ([]:List Value).toArray } }:Shared)=s3
 have I3:Inv X pins σ (upd H2 D (.lst [])) s3:=by
  rw [←hs3]
  refine I2.laid (t':=s2.toks) (fun b o e=>ze _ e) (Wt hD) ⟨zk _,[],0,.nil,?_⟩
  rw [←hD]
  exact yd _ rfl
 have h3:s3.heap=s2.heap.push { cls:=.type "list",data:=.seq ([]:List Value).toArray }:=by rw [←hs3]
 have sz:∀b∈fp,b<s2.heap.objs.size:=fun b hb=>by
  obtain ⟨o,e,_⟩:=T.obj _ _ st2 b hb
  exact zC e
 have f3:∀b∈fp,VF X pins (upd H2 D (.lst [])) b∧b<s3.heap.objs.size:=fun b hb=>by
  have hlt:=sz b hb
  refine ⟨⟨?_,(f2 b hb).2⟩,by rw [h3,yN];exact jJ hlt⟩
  rw [zl (by rw [←hD];exact yF hlt)]
  exact (f2 b hb).1
 have st3:tn 0 s3.heap:=T.keep _ _ _ st2 fun b _ o e=>by rw [h3];exact ze _ e
 have I4:=z1x I3 ok hN f3
 have pg:=hg s3 (upd H2 D (.lst [])) s3.heap.objs.size (cellsFrom (s3.heap.objs.size+1) scope.names (jh X.env.cells scope.names [])) fp
 have pt:=ht s3 (upd H2 D (.lst [])) s3.heap.objs.size (cellsFrom (s3.heap.objs.size+1) scope.names (jh X.env.cells scope.names [])) fp
 have pe:=he s3 (upd H2 D (.lst [])) s3.heap.objs.size (cellsFrom (s3.heap.objs.size+1) scope.names (jh X.env.cells scope.names [])) fp
 show codeAny _ _ (.compStart (.ListComp elt [⟨tg,iter,ifs,0⟩] scope pos) 0 (.ref it) (.ref D) (compEnvC scope (cellsFrom (s3.heap.objs.size+1) scope.names (jh X.env.cells scope.names [])) s3.heap.objs.size X.env)) (compPost (model X.prog X.w) X.A X.xe use Qf (.ref D) s3.heap.objs.size) { s3 with heap:=pushCells (s3.heap.push { cls:=.type "dict",data:=.dict #[] }) scope.names }
 have nfp:∀b∈fp,(upd H2 D (.lst [])) b=none:=fun b hb=>(f3 b hb).1.1
 generalize hce:compEnvC scope (cellsFrom (s3.heap.objs.size+1) scope.names (jh X.env.cells scope.names [])) s3.heap.objs.size X.env=ce at I4 pg pt pe ⊢
 have cL:ce.locals=s3.heap.objs.size:=by subst hce;rfl
 generalize hH3:upd H2 D (.lst [])=H3 at I3 I4 pg pt pe w0 nfp f3
 generalize hs4:({ s3 with heap:=pushCells (s3.heap.push { cls:=.type "dict",data:=.dict #[] }) scope.names }:Shared)=s4 at I4 ⊢
 have st4:tn 0 s4.heap:=T.keep _ _ _ st3 fun b _ o e=>by rw [←hs4];exact pushCells_keeps _ _ _ _ (ze _ e)
 have stat:∀{σ':St} {H':Hp} {s':Shared},Inv (X.blk s3 H3 scope ce fp) [] σ' H' s'→(∀b∈fp,H' b=none)→∀b∈fp,VF (X.blk s3 H3 scope ce fp) [] H' b:=fun {σ' H' s'} I' hn b hb=>
  ⟨hn b hb,(I'.ok.exf b hb).1,I'.ok.exfs b hb,.inl hb,fun x c e=>(I'.ok.exf b hb).2 x c e,fun p hp=>absurd (show p∈([]:List (Addr×Obj))++[] from hp) (by simp)⟩
 have loop:codeAny (model X.prog X.w) X.A (.compLoop (.ListComp elt [⟨tg,iter,ifs,0⟩] scope pos) 0 (.ref it) (.ref D) ce) (compPost (model X.prog X.w) X.A X.xe use Qf (.ref D) s3.heap.objs.size) s4:=by
  refine z0n (fun n s'=>∃i H',Inv (X.blk s3 H3 scope ce fp) [] (ZF σ (own.map (·.2))) H' s'∧tn i s'.heap∧(∀b∈fp,H' b=none)∧W i n H') ?_ m0 ⟨0,H3,I4,st4,nfp,w0⟩
  rintro n s5 ⟨i,H5,I5,st5,n5,w5⟩
  rcases turn i n H5 w5 with ⟨stop,qq⟩ | ⟨go,Nx,hNx,step⟩
  ·have td:=T.done (X.blk s3 H3 scope ce fp) rfl rfl rfl hc i [] s5 _ H5 (fun _ _=>False) I5 (stat I5 n5) st5 stop
   refine z4c td fun r s6 ⟨hr,I6⟩=>?_
   subst hr
   have I7:Inv X pins σ H5 s6:=I3.call' (ch:=fp) I6.os I6.base I6.hok I6.bare fun b hb=>⟨(f3 b hb).1.2.2.2.1,(f3 b hb).1.2.1,(f3 b hb).1.2.2.2.2.1,(f3 b hb).1.2.2.2.2.2⟩
   have nC:H5 s3.heap.objs.size=none:=by
    have z:H5 ce.locals=none:=I6.free
    rw [cL] at z
    exact z
   obtain ⟨m,hn,_⟩:=I6.loc
   have hn:s6.heap.Ns ce.locals m:=hn
   rw [cL] at hn
   exact hRR D s3.heap.objs.size s6 m H5 I7 qq hn (I3.fpOk (zb _) nC)
  ·have ti:=T.item (X.blk s3 H3 scope ce fp) rfl rfl rfl hc i [] s5 _ H5 (fun _ _=>False) I5 (stat I5 n5) st5 go
   refine z4c ti fun r s6 ⟨u,hr,h6⟩=>?_
   subst hr
   refine z4c h6 fun _ s7 ⟨x,H7,I7,r7,y7,st7,n7⟩=>?_
   have I7':=I7.pinned (stat I7 n7) (T.obj _ _ st7)
   refine z4c (pg _ s7 _ H7 x u _ I7' r7 (step x H7 y7)) fun _ s8 ⟨σ8,H8,I8,hw8,q8⟩=>?_
   refine z4c (pt _ s8 σ8 H8 _ I8 q8) fun b s9 ⟨H9,I9,q9⟩=>?_
   have fin:∀{s':Shared} {H':Hp},Inv (X.blk s3 H3 scope ce fp) ([]++z17 fp s7.heap) σ8 H' s'→Nx H'→∃m,m<n∧∃i H',Inv (X.blk s3 H3 scope ce fp) [] (ZF σ (own.map (·.2))) H' s'∧tn i s'.heap∧(∀b∈fp,H' b=none)∧W i m H':=fun {s' H'} I' nx=>by
    obtain ⟨m',hm,w'⟩:=hNx H' nx
    have pin':∀b∈fp,∀o,s7.heap.get? b=some o→s'.heap.get? b=some o∧H' b=none:=fun b hb o e=>
     let z:=I'.pin (b,o) (zq _ (zq _ (GA hb e)))
     ⟨z.1,z.2.1⟩
    have hl:(ZF σ (own.map (·.2))).length=σ8.length:=by rw [←hw8,V4]
    refine ⟨m',hm,i+1,H',(I'.unpinned (pins:=[])).weak hl (fun j v e=>?_),T.keep _ _ _ st7 fun b hb o e=>(pin' b hb o e).1,fun b hb=>?_,w'⟩
    ·rw [←hw8] at e
     exact (WP e).1
    ·obtain ⟨o,e,_⟩:=T.obj _ _ st7 b hb
     exact (pin' b hb o e).2
   cases b with
   | false=>
    simp only [j9,if_false] at q9 ⊢
    exact fin I9 q9
   | true=>
    simp only [if_true] at q9 ⊢
    refine z4c (pe _ s9 σ8 H9 _ I9 q9) fun z s10 ⟨yv,H10,I10,r10,acc,hD10,hz10,nx⟩=>?_
    exact zbd (X:=X.blk s3 H3 scope ce fp) I10 hD10 hz10 r10 fun s11 I11=>fin I11 nx
 exact codeAny_compStart_list loop (T.self X.A 0 _ _ _ st4 loop)
theorem Yy {elt tg iter:Expr}{ifs:List Expr}{scope:Scope}{own:List (Str×Nat)}{pos:Pos}{wi:TI}{g:TG}{tt:TT}{te:TE}(hc:X.calm=true)(hN:X.N.Nodup)(hi:PI X tg iter wi)(ok:UH X.N X.env.scope scope own)
  (hg:∀(s:Shared) (H:Hp) (C:Addr) (cl:List (Str×Addr)) (fp:List Addr),PG (X.blk s H scope (compEnvC scope cl C X.env) fp) tg g) (ht:∀(s:Shared) (H:Hp) (C:Addr) (cl:List (Str×Addr)) (fp:List Addr),PTs (X.blk s H scope (compEnvC scope cl C X.env) fp) ifs tt)
  (he:∀(s:Shared) (H:Hp) (C:Addr) (cl:List (Str×Addr)) (fp:List Addr),PE (X.blk s H scope (compEnvC scope cl C X.env) fp) elt te) (hs:∀x,foldedSetIterable iter X.env x=pure x:=by intro _;rfl) :
  PE X (.ListComp elt [⟨tg,iter,ifs,0⟩] scope pos) (tLc wi g tt te (own.map (·.2))):=by
 intro pins s σ H Q I h
 rw [eval_ListComp]
 refine z8L hc hN I hi ok hg ht he hs h fun D C s' m H' I' q hn f=>⟨m,hn,fun h'' sb=>?_⟩
 obtain ⟨f0,f1,f2,f3,f4,f5⟩:=f
 exact ⟨.ref D,H',I'.turned (t':=s'.toks) (fun b o hb e=>(sb.2 b hb).trans e) f0 f1 f3 f4 f5,rfl,q⟩
theorem VS {i:Nat}{y:Str}{py:Pos}{elt tg iter:Expr}{ifs:List Expr}{scope:Scope}{own:List (Str×Nat)}{pos spos:Pos}{wi:TI}{g:TG}{tt:TT}{te:TE}(hc:X.calm=true)(hN:X.N.Nodup)(hy:X.N[i]?=some y)(hyl:X.env.scope.names.lookup y=some .local)
  (hsw:swapsWith (.ListComp elt [⟨tg,iter,ifs,0⟩] scope pos) (some (.Name y py)) spos.line X.env=pure true) (hi:PI X tg iter wi) (ok:UH X.N X.env.scope scope own)
  (hg:∀(s:Shared) (H:Hp) (C:Addr) (cl:List (Str×Addr)) (fp:List Addr),PG (X.blk s H scope (compEnvC scope cl C X.env) fp) tg g) (ht:∀(s:Shared) (H:Hp) (C:Addr) (cl:List (Str×Addr)) (fp:List Addr),PTs (X.blk s H scope (compEnvC scope cl C X.env) fp) ifs tt)
  (he:∀(s:Shared) (H:Hp) (C:Addr) (cl:List (Str×Addr)) (fp:List Addr),PE (X.blk s H scope (compEnvC scope cl C X.env) fp) elt te) (hs:∀x,foldedSetIterable iter X.env x=pure x:=by intro _;rfl) :
  PS X (.Assign [.Name y py] (.ListComp elt [⟨tg,iter,ifs,0⟩] scope pos) spos) (tAsg (tLc wi g tt te (own.map (·.2))) (VX i)):=by
 intro pins s σ H D I h
 rw [exec_Assign_Name_used _ _ _ _ hsw]
 refine wpAny_bind (wpAny_standAt (wpAny_bind ?_))
 show wpAny _ X.A (do let _ ←comprehension (.ListComp elt [⟨tg,iter,ifs,0⟩] scope pos) scope X.env (firstIterPos [⟨tg,iter,ifs,0⟩] pos) (newList []) false (eval iter X.env) (some (assign (.Name y py) X.env))) _ _ s
 have h:tLc wi g tt te (own.map (·.2)) σ H (fun x H1=>VX i x σ H1 D.nx):=h
 refine wpAny_bind (thn (z8L (Qf:=fun _ s'=>SP X pins D .next s') hc hN I hi ok hg ht he hs h fun L C s' m H' I' q hn f=>?_) fun _ s' hq=>wpAny_pure (wpAny_pure hq))
 show wpAny _ _ (assign (.Name y py) X.env (.ref L)) _ _ _
 refine wpAny_assign_Name (z0F (v:=V.ref L) I' hN hy (.inl hyl) rfl (fun s2 I2 ⟨a,sb,ha⟩=>?_) (.inr hyl))
 obtain ⟨f0,f1,f2,f3,f4,f5⟩:=f
 have haC:C≠a:=by
  rcases ha with z | z
  ·rw [z];exact f1
  ·exact fun e=>f4 y a z e.symm
 refine ⟨m,hn.sameBut sb haC,fun h3 sb3=>?_⟩
 exact ⟨_,H',I2.turned (t':=s2.toks) (fun b o hb e=>(sb3.2 b hb).trans e) f0 f1 f3 f4 f5,q⟩
theorem Wa {elt:Expr}{gs:List Comprehension}{scope:Scope}{pos py:Pos}{y:Str}{l:Nat}{env:Env}(hk:env.scope.kind=.function)(hy:env.scope.names.lookup y=some .local)(hl:(py.line==pos.line)=true)
  (ha:(scope.names.any fun (n,k)=>n==y&&(k==.local||k==.cell))=false):swapsWith (.ListComp elt gs scope pos) (some (.Name y py)) l env=pure true:=by
 have ky:env.kindOf y=some .local:=hy
 have hb:env.blockKind=.function:=by unfold Env.blockKind;rw [hk];rfl
 unfold swapsWith
 simp only [hb,ky,ha,Expr.pos,hl]
 rfl
end
theorem z2W {lo:Int}{n:Nat}{g:TG}{tt:TT}{te:TE}{vs:List Nat}{σ:St}{H1:Hp}{D:Addr}{Qd:Hp→Prop}(Pv:Nat→Hp→Prop)(h0:Pv 0 (upd H1 D (.lst [])))
  (hs:∀i H,i<n→Pv i H→g (.int (lo+i)) (ZF σ vs) H fun σ2 H2=>ZF σ2 vs=ZF σ vs∧tt σ2 H2 fun b H3=>
   if b=true then te σ2 H3 (UG D (Pv (i+1))) else Pv (i+1) H3) (hd:∀H,Pv n H→Qd H) :
  LcK g tt te vs σ Qd (Itr lo n) H1 D:=by
 refine ⟨fun i m H=>m=n - i∧i≤n∧Pv i H,⟨n,by simp,zk _,h0⟩,?_⟩
 rintro i m H ⟨rfl,hi,p⟩
 by_cases hlt:i<n
 ·refine .inr ⟨hlt,Pv (i+1),fun H' p'=>⟨n - (i+1),by omega,rfl,hlt,p'⟩,fun x H' y=>?_⟩
  obtain ⟨e,y⟩:=y
  subst e y
  exact hs i _ hlt p
 ·have e:i=n:=by omega
  subst e
  exact .inl ⟨zb _,hd H p⟩
theorem z54 {K:z4}{a:Addr}{xs:List V}{g:TG}{tt:TT}{te:TE}{vs:List Nat}{σ:St}{H1:Hp}{D:Addr}{Qd:Hp→Prop}(Pv:Nat→Hp→Prop)(h0:Pv 0 (upd H1 D (.lst [])))(hl:∀i H,i≤xs.length→Pv i H→SqL K H a xs)
  (hs:∀i x H,xs[i]?=some x→Pv i H→g x (ZF σ vs) H fun σ2 H2=>ZF σ2 vs=ZF σ vs∧tt σ2 H2 fun b H3=>
   if b=true then te σ2 H3 (UG D (Pv (i+1))) else Pv (i+1) H3) (hd:∀H,Pv xs.length H→Qd H) :
  LcK g tt te vs σ Qd (Itl K a) H1 D:=by
 refine ⟨fun i m H=>m=xs.length - i∧i≤xs.length∧Pv i H,⟨xs.length,by simp,zk _,h0⟩,?_⟩
 rintro i m H ⟨rfl,hi,p⟩
 have q:=hl i H hi p
 by_cases hlt:i<xs.length
 ·refine .inr ⟨⟨xs,xs[i],q,by simp [hlt]⟩,Pv (i+1),fun H' p'=>⟨xs.length - (i+1),by omega,rfl,hlt,p'⟩,fun x H' y=>?_⟩
  obtain ⟨e,y⟩:=y
  subst e
  exact hs i x _ (y xs q) p
 ·have e:i=xs.length:=by omega
  subst e
  exact .inl ⟨⟨xs,q,zb _⟩,hd H p⟩
def blkC (N:List Str)(sc scope:Scope)(own:List (Str×Nat)):Bool:=
 (match scope.kind with | .function=>true | _=>false)&&(scope.names.all fun y=>decide (scope.names.lookup y.1=some y.2))&&(own.all fun p=>decide (N[p.2]?=some p.1)) &&
  (scope.names.all fun y=>match y.2 with
   | .free=>(match sc.names.lookup y.1 with | some .cell=>true | some .free=>true | _=>false)
   | .local=>decide (y.1∈own.map (·.1))||decide (y.1 ∉ N)
   | .cell=>decide (y.1∈own.map (·.1))||decide (y.1 ∉ N)
   | _=>true)
theorem yR {N:List Str}{sc scope:Scope}{own:List (Str×Nat)}(h:blkC N sc scope own=true):UH N sc scope own:=by
 unfold blkC at h
 simp only [ye,j4,decide_eq_true_eq] at h
 obtain ⟨⟨⟨h1,h2⟩,h3⟩,h4⟩:=h
 refine ⟨?_,h2,h3,fun y hy e=>?_,fun y hy e=>?_⟩
 ·split at h1
  ·assumption
  ·cases h1
 ·have q:=h4 y hy
  simp only [e] at q
  split at q <;> first | exact .inl (by assumption) | exact .inr (by assumption) | cases q
 ·have q:=h4 y hy
  rcases e with e | e <;> (simp only [e,Bool.or_eq_true,decide_eq_true_eq] at q;exact q)
end L2
namespace L2
open PySem PySem.Spec PyProof.Rows
end L2
namespace L2
open PySem PySem.Spec PyProof.Rows
end L2
namespace L2
open PySem PySem.Spec PyProof.Rows
end L2
namespace L2
open PySem PySem.Spec PyProof.Rows
section
variable {X:Cx}{pins:List (Addr×Obj)}{σ:St}{H:Hp}{s:Shared}{h':Heap}
theorem Inv.turnedL {t':Nat}{ch:List Addr}(I:Inv X pins σ H s)(k:∀b o,b ∉ ch→s.heap.get? b=some o→h'.get? b=some o)(hf:∀b∈ch,VF X pins H b):Inv X pins σ H { s with heap:=h',toks:=t' }:=by
 have nit:∀b u,H b=some u→b ∉ ch:=fun b u e z=>by
  have q:=(hf b z).1
  rw [q] at e;cases e
 refine I.step (g':=s.gens) (d':=s.drawn) (ch:=ch) (fun b hb=>⟨(hf b hb).2.2.2.1,(hf b hb).2.1,(hf b hb).2.2.2.2.1,(hf b hb).2.2.2.2.2⟩) (fun b o _ _ hc e _=>k b o hc e) (fun b o _ _ hc e _=>⟨o.slots,k b o hc e⟩)
  (fun _ _ _ _ n=>n) (fun b o hc e=>⟨o,k b o hc e⟩) (fun _ _ e=>e) (fun _ _ _ e=>e) (fun b ps e=>⟨#[],by rw [e];simp⟩) (fun m hm=>?_) (fun b u e=>?_) I.bare
 ·obtain ⟨o,es,ep,ho,r⟩:=hm
  exact ⟨o,es,ep,k _ o (fun z=>(hf _ z).2.1 rfl) ho,r⟩
 ·refine (I.hok b u e).stay (fun c v hc q=>k c v ?_ q) (fun _ q=>q) fun _ _ q=>q
  rcases hc with z | z
  ·rw [z];exact nit b u e
  ·exact nit c _ z
theorem Inv.turnedNew {t':Nat}{ch:List Addr}{T:Addr}{ob:HO}(I:Inv X pins σ H s)(k:∀b o,b ∉ ch→s.heap.get? b=some o→h'.get? b=some o)(hf:∀b∈ch,VF X pins H b)(hT:s.heap.objs.size≤T)
  (new:YS X.prog X.w (upd H T ob) h' T ob):Inv X pins σ (upd H T ob) { s with heap:=h',toks:=t' }:=by
 have hn:H T=none:=I.hok.fresh hT
 have nit:∀b u,H b=some u→b ∉ ch:=fun b u e z=>by
  have q:=(hf b z).1
  rw [q] at e;cases e
 refine I.step (g':=s.gens) (d':=s.drawn) (ch:=ch) (fun b hb=>⟨(hf b hb).2.2.2.1,(hf b hb).2.1,(hf b hb).2.2.2.2.1,(hf b hb).2.2.2.2.2⟩) (fun b o _ _ hc e _=>k b o hc e) (fun b o _ _ hc e _=>⟨o.slots,k b o hc e⟩)
  (fun b o _ e n=>?_) (fun b o hc e=>⟨o,k b o hc e⟩) (fun b xs e=>?_) (fun b o u e=>?_) (fun b ps e=>⟨#[],?_⟩) (fun m hm=>?_) (fun b u e=>?_) I.bare
 ·rw [zl (yF (zW (zC e) hT))];exact n
 ·rw [zl (zT e hn)];exact e
 ·rw [zl (zT e hn)];exact e
 ·rw [zl (zT e hn),e];simp
 ·obtain ⟨o,es,ep,ho,r⟩:=hm
  exact ⟨o,es,ep,k _ o (fun z=>(hf _ z).2.1 rfl) ho,r⟩
 ·by_cases hb:b=T
  ·subst hb
   rw [z5] at e
   cases e
   exact new
  ·rw [zl hb] at e
   refine (I.hok b u e).stay (fun c v hc q=>k c v ?_ q) (fun c q=>by rw [zl (zT q hn)];exact q) fun c xs q=>by rw [zl (zT q hn)];exact q
   rcases hc with z | z
   ·rw [z];exact nit b u e
   ·exact nit c _ z
end
def Ite (K:z4)(a:Addr):It:=
 ⟨fun i H=>∃(xs:List V) (x:V),SqL K H a xs∧xs[i]?=some x,fun i H v H'=>∃T x,v=.ref T∧H T=none∧H'=upd H T (.tup [.int (i:Nat),x])∧∀xs,SqL K H a xs→xs[i]?=some x,fun i H=>∃xs:List V,SqL K H a xs∧xs.length≤i⟩
theorem z9c {P:Program}{w:World}{K:z4}{elts:List Expr}{kk:Nat}{tpos:Pos}(a e it:Addr) :
  Turn P w K (.Tuple elts kk tpos) (Ite K a) [e,it] e (fun i h=>(∃old,IsEnum h e it ((i:Nat):Int) old)∧h.IsListIter it a i∧e≠it) where
 mem:=by simp
 obj:=fun i h st b hb=>by
  obtain ⟨⟨old,he⟩,⟨o,ho,hc,hd⟩,_⟩:=st
  have e':b=e∨b=it:=by simpa using hb
  rcases e' with z | z
  ·rw [z];exact ⟨_,he,fun v q=>nomatch q⟩
  ·rw [z];exact ⟨o,ho,fun v q=>by rw [hd] at q;cases q⟩
 keep:=fun i h h' st k=>let ⟨⟨old,he⟩,hi,hne⟩:=st;⟨⟨old,k e (by simp) _ he⟩,hi.at fun o q=>k it (by simp) o q,hne⟩
 item:=by
  intro X hP hw hK hc i pins s σ H E I hf st hg
  subst hP hw hK
  obtain ⟨⟨old,he⟩,hit,hne⟩:=st
  obtain ⟨xs,x,hq,hx⟩:=hg
  obtain ⟨its,rv,p,hz⟩:=I.list hq
  obtain ⟨u,hu,ru⟩:=rv.get hx
  have hel:e<s.heap.objs.size:=zC he
  have hil:it<s.heap.objs.size:=by obtain ⟨_,q,_⟩:=hit;exact zC q
  refine wpAny_pyNext_enum_item he hit p.isList (x:=u) (by simpa using hu) hne fun h' ho hit' hT hsz hk=>?_
  refine ⟨_,rfl,wpAny_letOwnedTupleGo_enum (s:={ s with heap:=h',toks:=s.toks+1 }) ho fun h'' he' sb=>?_⟩
  have hT2:h''.get? s.heap.objs.size=some { cls:=.type "tuple",data:=.seq #[.int i s.toks,u] }:=(sb.2 _ (Ws hel)).trans hT
  have new:YS X.prog X.w (upd H s.heap.objs.size (.tup [.int (i:Nat),x])) h'' s.heap.objs.size (.tup [.int (i:Nat),x]):=
   ⟨by show 2≤sizeLine;decide,[.int i s.toks,u],.cons ⟨_,rfl⟩ (.cons ru .nil),⟨_,hT2,rfl,_,rfl⟩⟩
  have I1:Inv X pins σ (upd H s.heap.objs.size (.tup [.int (i:Nat),x])) { s with heap:=h'',toks:=s.toks+1 }:=
   I.turnedNew (ch:=[e,it]) (fun b ob hb q=>(sb.2 b (fun z=>hb (by simp [z]))).trans (hk b ob (fun z=>hb (by simp [z])) (fun z=>hb (by simp [z])) q)) hf (zb _) new
  refine ⟨.ref s.heap.objs.size,_,I1,rfl,⟨_,x,rfl,I.hok.fresh (zb _),rfl,fun ys hy=>by rw [I.list_inj hy hq];exact hx⟩,⟨⟨u,?_⟩,hit'.at fun o q=>(sb.2 it (j1 hne)).trans q,hne⟩,fun b hb=>?_⟩
  ·have e1:((i+1:Nat):Int)=(i:Int)+1:=by omega
   rw [e1];exact he'
  ·have hb':b<s.heap.objs.size:=by
    have e':b=e∨b=it:=by simpa using hb
    rcases e' with z | z
    ·rw [z];exact hel
    ·rw [z];exact hil
   rw [zl (yF hb')]
   exact (hf b hb).1
 done:=by
  intro X hP hw hK hc i pins s σ H E I hf st hg
  subst hP hw hK
  obtain ⟨⟨old,he⟩,hit,hne⟩:=st
  obtain ⟨xs,hq,hx⟩:=hg
  obtain ⟨its,rv,p,hz⟩:=I.list hq
  obtain ⟨f0,f1,f2,f3,f4,f5⟩:=hf it (by simp)
  have hl:=rv.length
  exact wpAny_pyNext_enum_end (I.ok.hd hc) he hit p.isList (by simp;omega) fun h' eb=>⟨rfl,I.turned (t':=s.toks) (fun b o hb q=>eb b o hb q) f0 f1 f3 f4 f5⟩
 self:=fun A i s Q E st h=>let ⟨⟨_,he⟩,_⟩:=st;wpAny_pyIter_enum he h
inductive iEnu (K:z4)(R:It→Hp→Prop)(vs:List V)(H:Hp):Prop | mk (a:Addr) (xs:List V) (_:vs=[.ref a]) (_:SqL K H a xs) (_:R (Ite K a) H)
def iEnum (K:z4)(ta:TA):TI:=fun σ H R=>ta σ H (iEnu K R)
theorem pi_enum {X:Cx}{e:Expr}{ta:TA}{p pos tpos:Pos}{elts:List Expr}{kk:Nat}(hg:Gl X "enumerate")(hm:X.mg "enumerate"=none)(ha:PA X [e] ta)(hs:starEach [e] X.env=[(false,eval e X.env)]:=by rfl) :
  PI X (.Tuple elts kk tpos) (.Call (.Name "enumerate" p) [e] [] pos) (iEnum X.K ta):=by
 intro pins s σ H R I h
 refine Call_ (VW I hg hm boot_enumerate (j0 (thn (ha pos pins s σ H _ I h) fun us s1 ⟨vs,H1,I1,r1,q1⟩=>?_) hs rfl))
 obtain ⟨a,xs,ex,hq,q⟩:=q1
 subst ex
 cases r1 with
 | cons r rr=>
  cases rr
  cases r
  obtain ⟨its,rv,p',hz⟩:=I1.list hq
  refine call_enumerate_list p'.isList fun h' he hit hsz hk=>wpAny_pyIter_enum he ?_
  have I2:Inv X pins σ H1 { s1 with heap:=h' }:=I1.kept (t':=s1.toks) hk
  refine ⟨s1.heap.objs.size+1,[s1.heap.objs.size+1,s1.heap.objs.size],_,_,H1,rfl,I2,z9c a (s1.heap.objs.size+1) s1.heap.objs.size,⟨⟨.none,he⟩,hit,Nat.succ_ne_self _⟩,fun b hb=>?_,q⟩
  have e':b=s1.heap.objs.size+1∨b=s1.heap.objs.size:=by simpa using hb
  have hle:s1.heap.objs.size≤b:=by
   rcases e' with z | z
   ·rw [z];exact Yj _ _
   ·rw [z];exact zb _
  exact I1.fpOk hle (I1.hok.fresh hle)
theorem z9W:bootBuiltins "zip"=some (.type "zip"):=by decide +kernel
def Itz (K:z4)(a b:Addr):It:=
 ⟨fun i H=>∃(xs ys:List V) (x y:V),SqL K H a xs∧SqL K H b ys∧xs[i]?=some x∧ys[i]?=some y,
  fun i H v H'=>∃T x y,v=.ref T∧H T=none∧H'=upd H T (.tup [x,y])∧(∀xs,SqL K H a xs→xs[i]?=some x)∧∀ys,SqL K H b ys→ys[i]?=some y,
  fun i H=>∃xs ys:List V,SqL K H a xs∧SqL K H b ys∧(xs.length≤i∨ys.length≤i)⟩
theorem zad {P:Program}{w:World}{K:z4}{elts:List Expr}{kk:Nat}{tpos:Pos}{a b z TI TO i1 i2:Addr}(D:ZipApart z TI TO i1 i2 a b) :
  Turn P w K (.Tuple elts kk tpos) (Itz K a b) [z,TI,TO,i1,i2] z (fun i h=>IsZip h z TI TO .none∧IsPair h TI (.ref i1) (.ref i2)∧(∃x y,IsPair h TO x y)∧h.IsListIter i1 a i∧h.IsListIter i2 b i) where
 mem:=by simp
 obj:=fun i h st c hc=>by
  obtain ⟨hz,hTI,⟨x,y,hTO⟩,⟨o1,e1,_,d1⟩,⟨o2,e2,_,d2⟩⟩:=st
  have e':c=z∨c=TI∨c=TO∨c=i1∨c=i2:=by simpa using hc
  rcases e' with q | q | q | q | q
  ·rw [q];exact ⟨_,hz,fun v q=>nomatch q⟩
  ·rw [q];exact ⟨_,hTI,fun v q=>nomatch q⟩
  ·rw [q];exact ⟨_,hTO,fun v q=>nomatch q⟩
  ·rw [q];exact ⟨o1,e1,fun v q=>by rw [d1] at q;cases q⟩
  ·rw [q];exact ⟨o2,e2,fun v q=>by rw [d2] at q;cases q⟩
 keep:=fun i h h' st k=>by
  obtain ⟨hz,hTI,⟨x,y,hTO⟩,h1,h2⟩:=st
  exact ⟨k z (by simp) _ hz,k TI (by simp) _ hTI,⟨x,y,k TO (by simp) _ hTO⟩,h1.at fun o q=>k i1 (by simp) o q,h2.at fun o q=>k i2 (by simp) o q⟩
 item:=by
  intro X hP hw hK hc i pins s σ H E I hf st hg
  subst hP hw hK
  obtain ⟨hz,hTI,⟨x0,y0,hTO⟩,h1,h2⟩:=st
  obtain ⟨xs,ys,x,y,hqx,hqy,hx,hy⟩:=hg
  obtain ⟨its,rv,p,_⟩:=I.list hqx
  obtain ⟨its2,rv2,p2,_⟩:=I.list hqy
  obtain ⟨u,hu,ru⟩:=rv.get hx
  obtain ⟨u2,hu2,ru2⟩:=rv2.get hy
  have hzl:z<s.heap.objs.size:=zC hz
  refine wpAny_pyNext_zip_item D hz hTI hTO h1 h2 p.isList p2.isList (x:=u) (y:=u2) (by simpa using hu) (by simpa using hu2) fun h' z' TO' h1' h2' hT hsz hk=>?_
  refine ⟨_,rfl,wpAny_letOwnedTupleGo_zip (s:={ s with heap:=h' }) z' fun h'' z'' sb=>?_⟩
  have hT2:h''.get? s.heap.objs.size=some { cls:=.type "tuple",data:=.seq #[u,u2] }:=(sb.2 _ (Ws hzl)).trans hT
  have new:YS X.prog X.w (upd H s.heap.objs.size (.tup [x,y])) h'' s.heap.objs.size (.tup [x,y]):=
   ⟨by show 2≤sizeLine;decide,[u,u2],.cons ru (.cons ru2 .nil),⟨_,hT2,rfl,_,rfl⟩⟩
  have I1:Inv X pins σ (upd H s.heap.objs.size (.tup [x,y])) { s with heap:=h'' }:=
   I.turnedNew (t':=s.toks) (ch:=[z,TI,TO,i1,i2]) (fun c o hb q=>(sb.2 c (fun q'=>hb (by simp [q']))).trans (hk c o (fun q'=>hb (by simp [q'])) (fun q'=>hb (by simp [q'])) (fun q'=>hb (by simp [q'])) (fun q'=>hb (by simp [q'])) q)) hf (zb _) new
  refine ⟨.ref s.heap.objs.size,_,I1,rfl,⟨_,x,y,rfl,I.hok.fresh (zb _),rfl,fun l hl=>by rw [I.list_inj hl hqx];exact hx,fun l hl=>by rw [I.list_inj hl hqy];exact hy⟩,⟨z'',?_,⟨u,u2,?_⟩,?_,?_⟩,fun c hcm=>?_⟩
  ·exact (sb.2 _ D.TIz).trans (hk _ _ D.TIz D.TITO D.TIi1 D.TIi2 hTI)
  ·exact (sb.2 _ D.TOz).trans TO'
  ·exact h1'.at fun o q=>(sb.2 _ D.i1z).trans q
  ·exact h2'.at fun o q=>(sb.2 _ D.i2z).trans q
  ·have hlt:c<s.heap.objs.size:=by
    have e':c=z∨c=TI∨c=TO∨c=i1∨c=i2:=by simpa using hcm
    rcases e' with q | q | q | q | q
    ·rw [q];exact hzl
    ·rw [q];exact zC hTI
    ·rw [q];exact zC hTO
    ·rw [q];obtain ⟨_,e1,_⟩:=h1;exact zC e1
    ·rw [q];obtain ⟨_,e2,_⟩:=h2;exact zC e2
   rw [zl (yF hlt)]
   exact (hf c hcm).1
 done:=by
  intro X hP hw hK hc i pins s σ H E I hf st hg
  subst hP hw hK
  obtain ⟨hz,hTI,⟨x0,y0,hTO⟩,h1,h2⟩:=st
  obtain ⟨xs,ys,hqx,hqy,hend⟩:=hg
  obtain ⟨its,rv,p,_⟩:=I.list hqx
  obtain ⟨its2,rv2,p2,_⟩:=I.list hqy
  have l1:=rv.length
  have l2:=rv2.length
  have he:its.toArray[i]?=none∨its2.toArray[i]?=none:=by
   rcases hend with q | q
   ·exact .inl (by simp;omega)
   ·exact .inr (by simp;omega)
  exact wpAny_pyNext_zip_end (I.ok.hd hc) D hz hTI hTO h1 h2 p.isList p2.isList he fun h' hk=>⟨rfl,I.turnedL (t':=s.toks) (ch:=[z,TI,TO,i1,i2]) (fun c o hb q=>
   hk c o (fun q'=>hb (by simp [q'])) (fun q'=>hb (by simp [q'])) (fun q'=>hb (by simp [q'])) (fun q'=>hb (by simp [q'])) q) hf⟩
 self:=fun A i s Q E st h=>wpAny_pyIter_zip st.1 h
inductive iZp (K:z4)(R:It→Hp→Prop)(vs:List V)(H:Hp):Prop | mk (a b:Addr) (xs ys:List V) (_:vs=[.ref a,.ref b]) (_:SqL K H a xs) (_:SqL K H b ys) (_:R (Itz K a b) H)
def iZip (K:z4)(ta:TA):TI:=fun σ H R=>ta σ H (iZp K R)
theorem pi_zip {X:Cx}{e e2:Expr}{ta:TA}{p pos tpos:Pos}{elts:List Expr}{kk:Nat}(hg:Gl X "zip")(hm:X.mg "zip"=none)(ha:PA X [e,e2] ta)
  (hs:starEach [e,e2] X.env=(false,eval e X.env)::starEach [e2] X.env:=by rfl) (hpl:(backTo pos (starEach [e2] X.env)).any (·.1)=false:=by rfl) :
  PI X (.Tuple elts kk tpos) (.Call (.Name "zip" p) [e,e2] [] pos) (iZip X.K ta):=by
 intro pins s σ H R I h
 refine Call_ (VW I hg hm z9W (j0 (thn (ha pos pins s σ H _ I h) fun us s1 ⟨vs,H1,I1,r1,q1⟩=>?_) hs hpl))
 obtain ⟨a,b,xs,ys,ex,hqx,hqy,q⟩:=q1
 subst ex
 cases r1 with
 | cons r rr=>
  cases rr with
  | cons r' rr=>
   cases rr
   cases r
   cases r'
   obtain ⟨its,rv,p1,_⟩:=I1.list hqx
   obtain ⟨its2,rv2,p2,_⟩:=I1.list hqy
   have la:a<s1.heap.objs.size:=p1.lt
   have lb:b<s1.heap.objs.size:=p2.lt
   refine call_zip_2 p1.isList p2.isList fun h' hz hTI hTO h1 h2 hsz hk=>wpAny_pyIter_zip hz ?_
   have I2:Inv X pins σ H1 { s1 with heap:=h' }:=I1.kept (t':=s1.toks) hk
   refine ⟨s1.heap.objs.size+4,[s1.heap.objs.size+4,s1.heap.objs.size+2,s1.heap.objs.size+3,s1.heap.objs.size,s1.heap.objs.size+1],_,_,H1,rfl,I2,zad (PySem.W.ktu_apart s1.heap.objs.size a b la lb),⟨hz,hTI,⟨_,_,hTO⟩,h1,h2⟩,fun c hcm=>?_,q⟩
   have e':c=s1.heap.objs.size+4∨c=s1.heap.objs.size+2∨c=s1.heap.objs.size+3∨c=s1.heap.objs.size∨c=s1.heap.objs.size+1:=by simpa using hcm
   have hle:s1.heap.objs.size≤c:=by
    rcases e' with z | z | z | z | z
    ·rw [z];exact Yj _ _
    ·rw [z];exact Yj _ _
    ·rw [z];exact Yj _ _
    ·rw [z];exact zb _
    ·rw [z];exact Yj _ _
   exact I1.fpOk hle (I1.hok.fresh hle)
end L2
section
namespace Bits
open PySem PyProof.Rows
end Bits
end
section
namespace TL
open PySem PySem.Builtin PySem.Builtin.Str PySem.StrLaws
end TL
end
namespace L2
open PySem PySem.Spec PyProof.Rows
end L2
namespace L2
open PySem PySem.Spec PyProof.Rows
end L2
namespace Att
open PySem PySem.W PySem.Calls PyProof.Rows
end Att
namespace L2
open PySem PySem.Spec PyProof.Rows
end L2
namespace L2
open PySem PySem.Spec PyProof.Rows
end L2
namespace L2
open PySem PySem.Spec PyProof.Rows
def Jy (s:Stmt)(j:Nat):Stmt:=match s with
 | .ClassDef _ _ _ body _ _ _ _ _ _ _=>body.getD j (.Pass ⟨0,0,0,0⟩)
 | _=>.Pass ⟨0,0,0,0⟩
def JA (s:Stmt):Arguments:=match s with
 | .FunctionDef _ a _ _ _ _ _ _ _ _=>a
 | _=>{ posonlyargs:=[],args:=[],vararg:=none,kwonlyargs:=[],kw_defaults:=[],kwarg:=none,defaults:=[] }
def ZS (s:Stmt):List Stmt:=match s with
 | .FunctionDef _ _ b _ _ _ _ _ _ _=>b
 | _=>[]
def zh (s:Stmt):Scope:=match s with
 | .FunctionDef _ _ _ _ _ _ sc _ _ _=>sc
 | _=>{ kind:=.function,names:=[],isGenerator:=false,isCoroutine:=false }
abbrev E0:XK:=fun _ _ _=>False
structure Fun (K:z4)(x qual:Str)(st:Stmt)(f:Addr)(fd:FuncData):Prop where
 ex:∃(oc:Value) (od:Option Addr) (kV doc pm:Value) (an:Option Addr) (cdv ct:Value) (osl:Array (Option Value)),
  fd=jU x qual (JA st) (ZS st) (zh st) .none kV doc pm an cdv ct∧K.lookup f=some ⟨oc,od,.func fd,osl⟩∧Y2 K cdv qual=true
 kp:YG K (.ref f)=true
section
variable {P:Program}{w:World}{K:z4}{mg:Str→Option Value}{base:Heap}
theorem Fun.binds {x qual:Str}{st:Stmt}{f:Addr}{fd:FuncData}{ps:List Str}(F:Fun K x qual st f fd)
  (h:∀(kV doc pm:Value) (an:Option Addr) (cdv ct:Value) (us:List Value),us.length=ps.length→bindArgs (jU x qual (JA st) (ZS st) (zh st) .none kV doc pm an cdv ct) ⟨us,[]⟩=pure (ps.zip us)):GT K fd ps []:=by
 obtain ⟨oc,od,kV,doc,pm,an,cdv,ct,osl,rfl,lk,hcd⟩:=F.ex
 exact .all (h kV doc pm an cdv ct)
theorem z89 {x qual:Str}{st:Stmt}{f:Addr}{oc:Value}{od an:Option Addr}{osl:Array (Option Value)}{kV doc pm cdv ct:Value}(l:K.lookup f=some ⟨oc,od,.func (jU x qual (JA st) (ZS st) (zh st) .none kV doc pm an cdv ct),osl⟩)
 (c:Y2 K cdv qual=true) (k:YG K (.ref f)=true):Fun K x qual st f (jU x qual (JA st) (ZS st) (zh st) .none kV doc pm an cdv ct):=⟨⟨oc,od,kV,doc,pm,an,cdv,ct,osl,rfl,l,c⟩,k⟩
end
theorem z3H {n:Nat}(h:n≤1000):n<sizeLine:=WO h (by decide)
section
variable {X:Cx}
theorem pv (i:Nat){x:Str}{pos:Pos}(hN:X.N[i]?=some x:=by rfl)(hv:Vis X.env.scope x:=by first | exact Or.inl rfl | exact z3z (Or.inl rfl) | exact z3z (z3z rfl))(hd:(x==("__debug__":Str))=false:=by decide)
 (hcd:(x==("__classdict__":Str))=false:=by decide):PE X (.Name x pos) (jc i):=pe_var hN hv hd hcd
end
theorem iteF {A B:Prop}(h:B):if false=true then A else B:=by
 rw [if_neg zR]
 exact h
theorem z1I {A B:Prop}(h:A):if true=true then A else B:=by
 rw [if_pos rfl]
 exact h
theorem Zc {c A B:Prop}[Decidable c](h1:c→A)(h2:¬c→B):if c then A else B:=by
 by_cases h:c
 ·rw [if_pos h]
  exact h1 h
 ·rw [if_neg h]
  exact h2 h
def W5 (H H':Hp):Prop:=∀b o,H b=some o→H' b=some o
theorem W5.refl (H:Hp):W5 H H:=fun _ _ h=>h
theorem W5.trans {H H1 H2:Hp}(a:W5 H H1)(b:W5 H1 H2):W5 H H2:=fun c o h=>b c o (a c o h)
theorem YA {xs:List V}{z:Int}{j:Nat}{v:V}(e:z=(j:Int))(h:xs[j]?=some v):atI xs z=some v:=by
 rw [e]
 exact qv h
end L2
namespace L2
open PySem PySem.Spec PyProof.Rows
section
variable {X:Cx}{pins:List (Addr×Obj)}{σ:List (Option V)}{H H':Hp}{s:Shared}{h':Heap}
inductive W6 (h:Heap)(e:Addr)(cls:Value):Option Addr→Prop where
 | made {oe:Obj} {vs:Array Value} {a0:Value} (h1:h.get? e=some oe) (h2:oe.cls=cls) (h3:oe.data=.fields vs) (h4:vs[0]?=some a0) (h5:vs[1]?=some .none):W6 h e cls none
 | traced {oe oT:Obj} {vs ts:Array Value} {a0 fl:Value} {T:Addr} (h1:h.get? e=some oe) (h2:oe.cls=cls) (h3:oe.data=.fields vs) (h4:vs[0]?=some a0) (h5:vs[1]?=some (.ref T)) (h6:T≠e)
  (h7:h.get? T=some oT) (h8:oT.data=.fields ts) (h9:ts[3]?=some fl):W6 h e cls (some T)
theorem W6.obj {h:Heap}{e:Addr}{cls:Value}{T:Option Addr}(x:W6 h e cls T):∃oe vs,h.get? e=some oe∧oe.cls=cls∧oe.data=.fields vs:=by
 cases x with
 | made h1 h2 h3 _ _=>exact ⟨_,_,h1,h2,h3⟩
 | traced h1 h2 h3 _ _ _ _ _ _=>exact ⟨_,_,h1,h2,h3⟩
def YI (e:Addr)(T:Option Addr):List Addr:=e::T.toList
theorem ZV {e T b:Addr}:b∈YI e (some T)↔b=e∨b=T:=by simp [YI]
theorem z9k {e b:Addr}:b∈YI e none↔b=e:=by simp [YI]
theorem z2E {e:Addr}{T:Option Addr}:e∈YI e T:=zn
theorem W6.recs {h:Heap}{e:Addr}{cls:Value}{T:Option Addr}(x:W6 h e cls T):∀b∈YI e T,∃o vs,h.get? b=some o∧o.data=.fields vs:=fun b hb=>by
 cases x with
 | made h1 h2 h3 _ _=>rw [z9k.mp hb];exact ⟨_,_,h1,h3⟩
 | traced h1 h2 h3 h4 h5 h6 h7 h8 h9=>
  rcases ZV.mp hb with q | q
  ·rw [q];exact ⟨_,_,h1,h3⟩
  ·rw [q];exact ⟨_,_,h7,h8⟩
structure Flt (fr ch:List Addr)(h h':Heap):Prop where
 keep:∀b o,b ∉ ch→b ∉ fr→h.get? b=some o→h'.get? b=some o
 slot:∀b o,b∈fr→h.get? b=some o→∃sl,h'.get? b=some { o with slots:=sl }
theorem Flt.refl {fr ch:List Addr}{h:Heap}:Flt fr ch h h:=⟨fun _ _ _ _ e=>e,fun _ o _ e=>⟨o.slots,e⟩⟩
theorem Flt.trans {fr ch ch':List Addr}{h h1 h2:Heap}(a:Flt fr ch h h1)(b:Flt fr ch' h1 h2)(hc:∀c∈ch',c∈ch∨h.get? c=none):Flt fr ch h h2 where
 keep:=fun c o hcc hf e=>b.keep c o (fun z=>(hc c z).elim hcc fun q=>by rw [q] at e;cases e) hf (a.keep c o hcc hf e)
 slot:=fun c o hf e=>by
  obtain ⟨sl,e1⟩:=a.slot c o hf e
  obtain ⟨sl',e2⟩:=b.slot c _ hf e1
  exact ⟨sl',e2⟩
theorem Flt.funs {fr ch:List Addr}{base h h':Heap}(f:Flt fr ch h h'):∀{l:List Env},(∀b∈frs l,b∈fr)→h.FunFrames base l→h'.FunFrames base l
 | [],_,_=>trivial
 | env::r,hs,⟨hk,⟨L,o,hf,hn,ho,hd⟩,hr⟩=>by
  have e1:frs (env::r)=L::frs r:=by unfold frs;rw [Zs,hf]
  obtain ⟨sl,e2⟩:=f.slot L o (hs L (by rw [e1];exact zn)) ho
  exact ⟨hk,⟨L,_,hf,hn,e2,hd⟩,Flt.funs f (fun b hb=>hs b (by rw [e1];exact zg _ hb)) hr⟩
theorem zaX {base h h':Heap}{l:List Env}{ch:List Addr}(hl:h.FunFrames base l)(st:(Jb h (ch++frs l)).StaysIn h')
  (up:∀b o,h.get? b=some o→(∀vs,o.data≠.fields vs)→∃sl,h'.get? b=some { o with slots:=sl }):Flt (frs l) ch h h' where
 keep:=fun b o hc hf e=>st b o (qS _ e fun z=>(zQ.mp z).elim hc hf)
 slot:=fun b o hf e=>by
  obtain ⟨_,o',ho',hd⟩:=hl.mem hf
  rw [e] at ho';cases ho'
  exact up b o e hd
theorem z8O {base h h':Heap}{l:List Env}{ch:List Addr}{T:Addr}{oT:Obj}{ts:Array Value}(hl:h.FunFrames base l)
  (up:∀b o,h.get? b=some o→(∀vs,o.data≠.fields vs)→∃sl,h'.get? b=some { o with slots:=sl })
  (hT:h'.get? T=some oT) (hd:oT.data=.fields ts) (hn:(Jb h (ch++frs l)).get? T=none):T∈ch∨h.get? T=none:=by
 cases q:h.get? T with
 | none=>exact .inr rfl
 | some o=>
  refine .inl ?_
  by_cases hc:T∈ch
  ·exact hc
  ·by_cases hf:T∈frs l
   ·obtain ⟨_,o',ho',hd'⟩:=hl.mem hf
    obtain ⟨sl,e⟩:=up T o' ho' hd'
    rw [hT] at e;cases e
    exact absurd hd (hd' ts)
   ·rw [qS _ q fun z=>(zQ.mp z).elim hc hf] at hn;cases hn
theorem z6u {base h:Heap}{l:List Env}{ch:List Addr}(hl:h.FunFrames base l):h.FunFrames (Jb h (ch++frs l)) l:=
 PySem.W.funFrames_hide hl fun env he a ha=>zq _ (JG.mpr ⟨env,he,ha⟩)
def Stn (fr:List Addr)(e:Addr)(cls:Value)(T:Option Addr)(s:Shared)(Q:Unit→Shared→Prop):Prop:=
 ∀h' T',W6 h' e cls (some T')→Flt fr (YI e T) s.heap h'→(T'∈YI e T∨s.heap.get? T'=none)→Q () { s with heap:=h' }
section
variable {M:Model}{A:Around}{E:Value→Shared→Prop}{base:Heap}{env:Env}{outer:List Env}{L e:Addr}{cls:Value}{T:Option Addr}{Q:Unit→Shared→Prop}
theorem z8H {T:Addr}{v:Value}{fr:List Addr}(x:W6 s.heap e cls (some T))(nf:T ∉ fr)
  (hQ:∀h',W6 h' e cls (some T)→Flt fr (YI e (some T)) s.heap h'→(∀b o,s.heap.get? b=some o→∃o',h'.get? b=some o')→Q () { s with heap:=h' }):wpAny M A (setField (.ref T) 3 v) Q E s:=by
 cases x with
 | traced h1 h2 h3 h4 h5 h6 h7 h8 h9=>
  rename_i oe oT vs ts a0 fl
  have sz:3<ts.size:=(Wv.mp h9).1
  have self:=Vm (Obj.mapFields (·.setIfInBounds 3 v)) h7 (Obj.isFreed_of_fields (Obj.data_mapFields h8 _))
  refine wpAny_setField h7 h8 sz (hQ _ ?_ ?_ fun b o q=>?_)
  ·refine .traced (fl:=v) ?_ h2 h3 h4 h5 h6 self (Obj.data_mapFields h8 _) (by simp [sz])
   rw [yV _ _ h6];exact h1
  ·refine ⟨fun b o hc _ q=>?_,fun b o hb q=>⟨o.slots,?_⟩⟩
   ·rw [yV _ _ fun z=>hc (ZV.mpr (.inr z.symm))];exact q
   ·rw [yV _ _ fun z=>nf (by rw [z];exact hb)];exact q
  ·by_cases z:T=b
   ·exact ⟨_,by rw [←z];exact self⟩
   ·exact ⟨o,by rw [yV _ _ z];exact q⟩
theorem UX {T:Option Addr}(hl:s.heap.FunFrames base (env::outer))(x:W6 s.heap e cls T):∀b∈YI e T,b ∉ frs (env::outer):=fun b hb z=>by
 obtain ⟨o,vs,e1,d1⟩:=x.recs b hb
 obtain ⟨_,o',ho',hd'⟩:=hl.mem z
 rw [e1] at ho';cases ho';exact hd' vs d1
theorem z1g {T:Addr}{o:Option Addr}{fr:List Addr}(x:W6 s.heap e cls (some T))(nf:T ∉ fr)(hQ:Stn fr e cls (some T) s Q):wpAny M A (setFlight (.ref e) o) Q E s:=by
 have x0:=x
 cases x with
 | traced h1 h2 h3 h4 h5 h6 h7 h8 h9=>
  unfold setFlight
  refine wpAny_bind (wpAny_field h1 h3 h5 ?_)
  rw [if_pos (show (yU T != .none)=true from by simp)]
  exact z8H x0 nf fun h' y f _=>hQ h' T y f (.inl (ZV.mpr (.inr rfl)))
theorem note_ex {T:Addr}(hfr:A.frames=some (env::outer))(hl:s.heap.FunFrames base (env::outer))(hf:env.frame=some L)(x:W6 s.heap e cls (some T))(hQ:Stn (frs (env::outer)) e cls (some T) s Q) :
  wpAny M A (noteFrame (.ref e) env) Q E s:=by
 have x0:=x
 cases x with
 | traced h1 h2 h3 h4 h5 h6 h7 h8 h9=>
  rename_i oe oT vs ts a0 fl
  unfold noteFrame
  simp only [hf]
  refine wpAny_bind (wpAny_field h1 h3 h5 ?_)
  rw [if_pos (show (yU T != .none)=true from by simp)]
  refine wpAny_bind (wpAny_field h7 h8 h9 ?_)
  by_cases q:(fl==rawInt L)=true
  ·rw [if_pos q]
   exact wpAny_pure (hQ s.heap T x0 Flt.refl (.inl (ZV.mpr (.inr rfl))))
  ·rw [if_neg q]
   refine wpAny_bind (z8H (fr:=frs (env::outer)) x0 (UX hl x0 T (ZV.mpr (.inr rfl))) fun h2' y f2 th=>?_)
   have hl2:=f2.funs (fun _ z=>z) hl
   cases y with
   | traced g1 g2 g3 g4 g5 g6 g7 g8 g9=>
    rename_i oe2 oT2 vs2 ts2 b0 fl2
    subst g2
    refine wpAny_entryW (base:=Jb h2' (YI e (some T)++frs (env::outer))) hfr (z6u hl2) hf g1 (fun b o q=>QN _ q) (qA _ (zY _ z2E)) g3 (Wv.mp g5).1 g4 fun h3' hN=>?_
    obtain ⟨k1,k2,⟨oe',vs',T',oT',ts',e1,⟨e2,e3⟩,e4,e5,e6,e7,e8,e9,e10⟩,k4⟩:=hN
    have f3:Flt (frs (env::outer)) (YI e (some T)) h2' h3':=zaX hl2 k1 k4
    refine hQ h3' T' (.traced e1 e2 e4 e3 e5 e7 e8 e9 e10) (f2.trans f3 fun b z=>.inl z) ?_
    rcases z8O hl2 k4 e8 e9 e6 with z | z
    ·exact .inl z
    ·refine .inr ?_
     cases w:s.heap.get? T' with
     | none=>rfl
     | some o=>
      obtain ⟨o',w'⟩:=th T' o w
      rw [z] at w';cases w'
theorem zaF (hfr:A.frames=some (env::outer))(hl:s.heap.FunFrames base (env::outer))(hf:env.frame=some L)(x:W6 s.heap e cls none)(hQ:Stn (frs (env::outer)) e cls none s Q) :
  wpAny M A (noteFrame (.ref e) env) Q E s:=by
 cases x with
 | made g1 g2 g3 g4 g5=>
  subst g2
  unfold noteFrame
  simp only [hf]
  refine wpAny_bind (wpAny_field g1 g3 g5 ?_)
  rw [if_neg (show ¬(GY != .none)=true from by decide)]
  refine wpAny_entryW (base:=Jb s.heap (YI e none++frs (env::outer))) hfr (z6u hl) hf g1 (fun b o q=>QN _ q) (qA _ (zY _ z2E)) g3 (Wv.mp g5).1 g4 fun h3' hN=>?_
  obtain ⟨k1,k2,⟨oe',vs',T',oT',ts',e1,⟨e2,e3⟩,e4,e5,e6,e7,e8,e9,e10⟩,k4⟩:=hN
  exact hQ h3' T' (.traced e1 e2 e4 e3 e5 e7 e8 e9 e10) (zaX hl k1 k4) (z8O hl k4 e8 e9 e6)
theorem z6e (hfr:A.frames=some (env::outer))(hl:s.heap.FunFrames base (env::outer))(hf:env.frame=some L)(x:W6 s.heap e cls T)(hQ:Stn (frs (env::outer)) e cls T s Q) :
  wpAny M A (noteFrame (.ref e) env) Q E s:=by
 cases T with
 | none=>exact zaF hfr hl hf x hQ
 | some T=>exact note_ex hfr hl hf x hQ
theorem zaG {env':Env}{ev:Value}(h:env'.frame=env.frame):noteFrame ev env'=noteFrame ev env:=by
 unfold noteFrame PySem.frameOf
 rw [h]
theorem z8I (hfr:A.frames=some (env::outer))(hl:s.heap.FunFrames base (env::outer))(hf:env.frame=some L)(x:W6 s.heap e cls T){o:Option Addr}(hQ:Stn (frs (env::outer)) e cls T s Q) :
  wpAny M A (noteFrame (.ref e) env) (fun _ s2=>wpAny M A (setFlight (.ref e) o) Q E s2) E s:=by
 refine z6e hfr hl hf x fun h1' T1 x1 f1 hT1=>?_
 have hl1:=f1.funs (fun _ z=>z) hl
 refine z1g (s:={ s with heap:=h1' }) (fr:=frs (env::outer)) x1 (UX (s:={ s with heap:=h1' }) hl1 x1 T1 (ZV.mpr (.inr rfl))) fun h2' T2 x2 f2 hT2=>?_
 have T1c:∀c∈YI e (some T1),c∈YI e T∨s.heap.get? c=none:=fun c hc=>by
  rcases ZV.mp hc with z | z
  ·rw [z];exact .inl z2E
  ·rw [z];exact hT1
 refine hQ h2' T2 x2 (f1.trans f2 T1c) ?_
 rcases hT2 with z | z
 ·exact T1c T2 z
 ·by_cases hc:T2∈YI e T
  ·exact .inl hc
  ·refine .inr ?_
   cases w:s.heap.get? T2 with
   | none=>rfl
   | some o=>
    exfalso
    have z:h1'.get? T2=none:=z
    by_cases hb:T2∈frs (env::outer)
    ·obtain ⟨sl,w'⟩:=f1.slot T2 o hb w
     rw [z] at w';cases w'
    ·rw [f1.keep T2 o hc hb w] at z;cases z
theorem zaL (hfr:A.frames=some (env::outer))(hl:s.heap.FunFrames base (env::outer))(hf:env.frame=some L)(x:W6 s.heap e cls T)(hQ:Stn (frs (env::outer)) e cls T s Q):wpAny M A (leaving env (.ref e)) Q E s:=
 wpAny_bind (z8I hfr hl hf x hQ)
end
end
section
variable {X:Cx}{pins:List (Addr×Obj)}{σ:List (Option V)}{H H':Hp}{s:Shared}{h':Heap}
def z5i (X:Cx)(pins:List (Addr×Obj))(H:Hp)(ch:List Addr):Prop:=∀b∈ch,H b=none∧(b∈X.ex∨X.s_0.heap.get? b=none)∧∀p∈X.pn++pins,p.1≠b
theorem Inv.flt {e:Addr}{cls:Value}{T:Option Addr}(I:Inv X pins σ H s)(x:W6 s.heap e cls T)(n:z5i X pins H (YI e T))(f:Flt (frs X.stack) (YI e T) s.heap h'):Inv X pins σ H { s with heap:=h' }:=by
 have nL:∀b∈YI e T,b≠X.env.locals:=fun b hb z=>by
  obtain ⟨o,vs,e1,d1⟩:=x.recs b hb
  obtain ⟨m,⟨o',es,ep,ho',hd',_⟩,_⟩:=I.loc
  rw [z,ho'] at e1;cases e1;rw [hd'] at d1;cases d1
 have nC:∀b∈YI e T,∀y c,X.env.cells.lookup y=some c→c≠b:=fun b hb y c hy z=>by
  obtain ⟨o,vs,e1,d1⟩:=x.recs b hb
  obtain ⟨v,o',ho',hd'⟩:=I.cell y c hy
  rw [z,e1] at ho';cases ho';rw [d1] at hd';cases hd'
 have nF:∀b∈YI e T,b ∉ frs X.stack:=fun b hb z=>by
  obtain ⟨o,vs,e1,d1⟩:=x.recs b hb
  obtain ⟨_,o',ho',hd'⟩:=I.stack.mem z
  rw [e1] at ho';cases ho';exact hd' vs d1
 have sub:∀b∈X.fs,b∈frs X.stack:=fun b hb=>by
  rcases I.ok.stk with q | ⟨q,hf⟩
  ·rw [q];exact hb
  ·rw [q]
   unfold frs
   rw [Zs,hf]
   exact zg _ hb
 have any:∀b o,b ∉ YI e T→s.heap.get? b=some o→∃sl,h'.get? b=some { o with slots:=sl }:=fun b o hb q=>by
  by_cases hf:b∈frs X.stack
  ·exact f.slot b o hf q
  ·exact ⟨o.slots,f.keep b o hb hf q⟩
 have trk:∀b u o,H b=some u→s.heap.get? b=some o→h'.get? b=some o:=fun b u o q1 q2=>
  f.keep b o (fun z=>by rw [(n b z).1] at q1;cases q1) (fun z=>by rw [I.stkFree b z] at q1;cases q1) q2
 have cellK:∀y c,X.env.cells.lookup y=some c→∀v,s.heap.IsCell c v→h'.IsCell c v:=fun y c hy v ⟨o,ho,hd⟩=>by
  obtain ⟨sl,q⟩:=any c o (fun z=>nC c z y c hy rfl) ho
  exact ⟨_,q,hd⟩
 have out:∀b o,X.s_0.heap.get? b=some o→b ∉ X.ex→b ∉ YI e T:=fun b o q hx z=>by
  rcases (n b z).2.1 with w | w
  ·exact hx w
  ·rw [w] at q;cases q
 have lo:∀b o,X.s_0.heap.get? b=some o→b≠X.env.locals:=fun b o q=>yF (zW (zC q) I.ok.above)
 have nstk:∀b o,X.s_0.heap.get? b=some o→b ∉ X.fs→b ∉ frs X.stack:=fun b o q hb z=>(zx.mp (I.stkSub b z)).elim (lo b o q) hb
 refine ⟨I.ok,I.os,I.bare,?_,?_,fun y c hy=>?_,I.free,I.freeC,fun p hp=>?_,fun b u q=>?_,I.len⟩
 ·refine ⟨fun b o q z hb hx=>f.keep b o (out b o q hx) (nstk b o q hb) (I.base.keep b o q z hb hx),fun b o q z hb hx=>?_,I.base.free,fun b o q hx=>?_,I.base.tups,I.base.frzs,I.base.tbls⟩
  ·obtain ⟨sl,q1⟩:=I.base.slot b o q z hb hx
   obtain ⟨sl',q2⟩:=f.slot b _ (sub b hb) q1
   exact ⟨sl',q2⟩
  ·obtain ⟨o',q1⟩:=I.base.there b o q hx
   obtain ⟨sl,q2⟩:=any b o' (out b o q hx) q1
   exact ⟨_,q2⟩
 ·obtain ⟨m,hn,hl⟩:=I.loc
  refine ⟨m,?_,fun i y v e1 e2 e3=>?_⟩
  ·obtain ⟨o,es,ep,ho,r⟩:=hn
   obtain ⟨sl,q⟩:=any _ o (fun z=>nL _ z rfl) ho
   exact ⟨_,es,ep,q,r⟩
  ·obtain ⟨u,r,l⟩:=hl i y v e1 e2 e3
   refine ⟨u,r,?_⟩
   rcases l with l | ⟨k,c,hc,z⟩
   ·exact .inl l
   ·exact .inr ⟨k,c,hc,cellK y c hc _ z⟩
 ·obtain ⟨v,z⟩:=I.cell y c hy
  exact ⟨v,cellK y c hy v z⟩
 ·obtain ⟨q,z,ne,nf,d⟩:=I.pin p hp
  exact ⟨f.keep p.1 p.2 (fun hb=>(n p.1 hb).2.2 p hp rfl) (fun hb=>(zx.mp (I.stkSub _ hb)).elim ne nf) q,z,ne,nf,d⟩
 ·exact (I.hok b u q).stay (fun c v hc q2=>hc.elim (fun z=>trk c u v (by rw [z];exact q) q2) fun z=>trk c _ v z q2) (fun _ z=>z) fun _ _ z=>z
theorem Inv.untr {b:Addr}(I:Inv X pins σ H s)(h:s.heap.get? b=none):H b=none:=by
 cases w:H b with
 | none=>rfl
 | some u=>
  exfalso
  have lt:=(I.hok b u w)
  cases u with
  | lst xs=>obtain ⟨_,_,_,_,e1⟩:=lt;rw [h] at e1;cases e1
  | tup xs=>obtain ⟨_,_,_,_,e1,_⟩:=lt;rw [h] at e1;cases e1
  | dK kvs=>obtain ⟨_,_,_,_,_,_,_,e1,_⟩:=lt;rw [h] at e1;cases e1
  | dT kvs=>obtain ⟨_,_,_,_,_,_,_,e1,_⟩:=lt;rw [h] at e1;cases e1
  | set S k=>obtain ⟨_,_,_,_,e1,_⟩:=lt;rw [h] at e1;cases e1
  | ins C dx fs=>obtain ⟨_,_,_,e1,_⟩:=lt;rw [h] at e1;cases e1
  | own y=>obtain ⟨_,e1⟩:=lt;rw [h] at e1;cases e1
  | xd fs=>obtain ⟨_,⟨_,_,_,e1,_⟩,_⟩:=lt;rw [h] at e1;cases e1
  | rng lo hi=>obtain ⟨_,_,_,e1⟩:=lt;rw [h] at e1;cases e1
  | frz o u=>obtain ⟨e1,_⟩:=lt;rw [h] at e1;cases e1
  | tbl ps=>rw [show s.heap.get? b=some _ from lt] at h;cases h
  | met f y=>rw [show s.heap.get? b=some _ from lt] at h;cases h
  | ext φ=>obtain ⟨_,⟨_,e1⟩,_⟩:=lt;rw [h] at e1;cases e1
theorem Inv.unborn {b:Addr}(I:Inv X pins σ H s)(h:s.heap.get? b=none):H b=none∧(b∈X.ex∨X.s_0.heap.get? b=none)∧∀p∈X.pn++pins,p.1≠b:=by
 refine ⟨I.untr h,?_,fun p hp z=>?_⟩
 ·by_cases hx:b∈X.ex
  ·exact .inl hx
  ·refine .inr ?_
   cases w:X.s_0.heap.get? b with
   | none=>rfl
   | some o=>
    obtain ⟨o',e1⟩:=I.base.there b o w hx
    rw [h] at e1;cases e1
 ·have e1:=(I.pin p hp).1
  rw [z,h] at e1;cases e1
theorem z5i.next {e T':Addr}{T:Option Addr}(I:Inv X pins σ H s)(n:z5i X pins H (YI e T))(h:T'∈YI e T∨s.heap.get? T'=none):z5i X pins H (YI e (some T')):=fun b hb=>by
 rcases ZV.mp hb with q | q
 ·rw [q];exact n e z2E
 ·rw [q]
  rcases h with h | h
  ·exact n T' h
  ·exact I.unborn h
end
inductive CX1 (P:Program)(w:World)(outer:List Env)(H:Hp)(s:Shared)(E:XK)(ev:Value)(s':Shared):Prop | mk (e:Addr) (cls:Value) (T:Addr) (H':Hp) (_:ev=.ref e) (_:s'.os=s.os) (_:AllBare s'.gens) (_:Un (frs outer) [] H H' s.heap s'.heap) (_:HOk P w H' s'.heap) (_:W6 s'.heap e cls (some T)) (_:∀b∈YI e (some T),H' b=none∧s.heap.get? b=none) (_:E cls none H')
def XeT (X:Cx)(E:XK):Prop:=∀(pins:List (Addr×Obj)) (σ:St) (H:Hp) (s:Shared) (e:Addr) (cls:Value) (T:Addr),Inv X pins σ H s→W6 s.heap e cls (some T)→z5i X pins H (YI e (some T))→E cls none H→X.xe (.ref e) s
def XeM (X:Cx)(E:XK):Prop:=∀(pins:List (Addr×Obj)) (σ:St) (H:Hp) (s:Shared) (e:Addr) (cls:Value),Inv X pins σ H s→W6 s.heap e cls none→z5i X pins H (YI e none)→E cls none H→X.xe (.ref e) s
theorem XeT.passes {X:Cx}{E:XK}(h:XeT X E):JD (CX1 X.prog X.w) X E:=by
 rintro pins σ H s ev s' I ⟨e,cls,T,H',rfl,os,bare,un,hok,x,n,q⟩
 have I':=I.call' (ch:=[]) os un hok bare fun b z=>nomatch z
 exact h pins σ H' s' e cls T I' x (fun b hb=>⟨(n b hb).1,(I.unborn (n b hb).2).2⟩) q
section
variable {P:Program}{w:World}{K:z4}{mg:Str→Option Value}{base:Heap}{N:List Str}{qual:Str}{scope:Scope}{f:Addr}{cd:Value}{A:Around}{outer:List Env}{s:Shared}{H:Hp}{E:XK}
theorem za7 {pins:List (Addr×Obj)}{σ:St}{H':Hp}{s':Shared}{e:Addr}{cls:Value}{T:Option Addr}(I:Inv (GW (CX1 P w) P w K mg base N qual scope f cd A outer s H E) pins σ H' s')(x:W6 s'.heap e cls T)
  (n:z5i (GW (CX1 P w) P w K mg base N qual scope f cd A outer s H E) pins H' (YI e T)) (q:E cls none H'):(GW (CX1 P w) P w K mg base N qual scope f cd A outer s H E).xe (.ref e) s':=by
 have hfr:(GW (CX1 P w) P w K mg base N qual scope f cd A outer s H E).A.frames=some (envOfC qual scope s.heap.objs.size f cd::outer):=I.ok.frames
 refine zaL (base:=base) hfr I.stack rfl x fun h' T' x' fl hT=>?_
 have I':=I.flt x n fl
 have n':=n.next I hT
 refine ⟨e,cls,T',H',rfl,I'.os,I'.bare,I'.base,I'.hok,x',fun b hb=>⟨(n' b hb).1,(n' b hb).2.1.resolve_left (by intro z;cases z)⟩,q⟩
theorem Z1:XeT (GW (CX1 P w) P w K mg base N qual scope f cd A outer s H E) E:=fun _ _ _ _ _ _ _ I x n q=>za7 I x n q
theorem qV:XeM (GW (CX1 P w) P w K mg base N qual scope f cd A outer s H E) E:=fun _ _ _ _ _ _ I x n q=>za7 I x n q
theorem z4G:PassesOwn (model P w) (GW (CX1 P w) P w K mg base N qual scope f cd A outer s H E).A (GW (CX1 P w) P w K mg base N qual scope f cd A outer s H E).env (GW (CX1 P w) P w K mg base N qual scope f cd A outer s H E).xe:=
 PassesOwn.leaving (Q₁:=fun e s''=>CX1 P w outer H s E e s'') (E₁:=fun e' s''=>CX1 P w outer H s E e' s'')
end
def excBm:List Value:=[.type "Exception",.type "BaseException",.type "object"]
structure Exc (K:z4)(mg:Str→Option Value)(x:Str)(C:Addr):Prop where
 glob:mg x=some (.ref C)
 ok:PySem.W.excIn K C excBm "Exception.__new__"=true
theorem Exc.own {K:z4}{mg:Str→Option Value}{x:Str}{C:Addr}{h:Heap}(c:Exc K mg x C)(kin:K.In h):OwnCls x C excBm "Exception.__new__" mg h:=by
 have q:=c.ok
 refine ⟨c.glob,?_⟩
 unfold PySem.W.excIn at q
 cases w:K.lookup C with
 | none=>rw [w] at q;cases q
 | some o=>
  rw [w] at q
  obtain ⟨cl,dd,dat,sl⟩:=o
  have there:=kin _ _ w
  split at q
  ·rename_i dd' cd sl' he
   cases he
   split at q
   ·rename_i C' bm k0 k1 k2 k3 n k5 hm hs
    rw [ye,ye,ye,ye,ye] at q
    obtain ⟨⟨⟨⟨⟨q1,q2⟩,q3⟩,q4⟩,q5⟩,q6⟩:=q
    have q1:=eq_of_beq q1
    have q2:=eq_of_beq q2
    have q6:=eq_of_beq q6
    subst q1 q2
    obtain ⟨nm,bs,mro,ns,qn,hd,sn,sub,ab,col,del⟩:=cd
    have hm:mro=.ref C'::bm:=hm
    have q3:(!del)=true:=q3
    have q3':del=false:=by cases del with | true=>cases q3 | false=>rfl
    subst hm q3'
    have hsl:sl=#[k0,k1,k2,k3,some (.builtin "Exception.__new__"),k5]:=by
     obtain ⟨l⟩:=sl
     exact congrArg Array.mk hs
    subst hsl
    exact ⟨bm,ns,nm,qn,bs,hd,sn,sub,ab,col,dd,k0,k1,k2,k3,k5,_,there,.of_isNs (PySem.W.isNs_of_in kin q5),PySem.W.nsMap_none_of_in kin q5 q6,PySem.W.tail_of_in kin q4⟩
   ·cases q
  ·cases q
section
variable {X:Cx}{x:Str}{C:Addr}{np cpos pos hpos:Pos}{E:XK}
def tRaise (C:Addr)(E:XK):TS:=fun _ _ H=>E (.ref C) none H
theorem JW (hx:XeM X E)(hc:X.calm=true)(hg:Gl X x)(c:Exc X.K X.mg x C)(hd:(x==("__debug__":Str))=false:=by decide) :
  PS X (.Raise (some (.Call (.Name x np) [] [] cpos)) none pos) (tRaise C E):=by
 intro pins s σ H D I h
 obtain ⟨tl,M,nm,q,bs,hdct,sn,sub,ab,col,dd,k0,k1,k2,k3,k5,mN,hC,hN,hni,T⟩:=(c.own I.kIn).obj
 refine wpAny_Raise_call_subT (C:=C) (N:=M) (mN:=mN) (nm:=nm) (q:=q) (bs:=bs)
  (hdct:=hdct) (sn:=sn) (sub:=sub) (ab:=ab) (col:=col)
  (dd:=dd) (k0:=k0) (k1:=k1) (k2:=k2) (k3:=k3) (k5:=k5)
  Wr (T.hasType Wr.hasBase) (I.ok.hd hc) rfl hni (qh I hg c.glob ⟨rfl,?_⟩ hd)
 refine evalArgs_empty ⟨rfl,zk _,hC,hN,T,fun h' e mk=>?_⟩
 obtain ⟨t,e1,e2,e3⟩:=mk.there
 have I':Inv X pins σ H { s with heap:=h' }:=I.kept (t':=s.toks) mk.keeps
 refine hx pins σ H _ e (.ref C) I' (.made e1 rfl rfl rfl rfl) (fun b hb=>?_) h
 have eb:b=e:=by simpa [YI] using hb
 rw [eb]
 exact I.unborn mk.new
abbrev Cx.hand (X:Cx)(e:Addr):Cx:={ X with A:=X.A.mark (some (.ref e)),calm:=false,xe:=fun _ _=>False }
theorem Inv.hand {pins:List (Addr×Obj)}{σ:St}{H:Hp}{s:Shared}(I:Inv X pins σ H s)(e:Addr):Inv (X.hand e) pins σ H s:=
 ⟨⟨I.ok.mod,I.ok.kind,I.ok.glob,I.ok.blt,I.ok.above,I.ok.inj,I.ok.has,I.ok.cab,(fun z=>j5 z),I.ok.frames,I.ok.stk,I.ok.exf,I.ok.bs,I.ok.bsz,I.ok.noex,I.ok.exfs,I.ok.funs,I.ok.frf⟩,
  I.os,I.bare,I.base,I.loc,I.cell,I.free,I.freeC,I.pin,I.hok,I.len⟩
theorem Inv.unhand {pins:List (Addr×Obj)}{σ:St}{H:Hp}{s:Shared}{e:Addr}(ok:X.Ok)(I:Inv (X.hand e) pins σ H s):Inv X pins σ H s:=
 ⟨ok,I.os,I.bare,I.base,I.loc,I.cell,I.free,I.freeC,I.pin,I.hok,I.len⟩
theorem SP.unhand {pins:List (Addr×Obj)}{e:Addr}{D:GN}{f:Flow}{s':Shared}(ok:X.Ok)(h:SP (X.hand e) pins D f s'):SP X pins D f s':=by
 cases f with
 | next=>obtain ⟨a,b,I,q⟩:=h;exact ⟨a,b,I.unhand ok,q⟩
 | brk=>obtain ⟨a,b,I,q⟩:=h;exact ⟨a,b,I.unhand ok,q⟩
 | cont=>obtain ⟨a,b,I,q⟩:=h;exact ⟨a,b,I.unhand ok,q⟩
 | ret u=>obtain ⟨v,a,b,I,r,q⟩:=h;exact ⟨v,a,b,I.unhand ok,r,q⟩
abbrev Cx.tries (X:Cx)(xe':Value→Shared→Prop)(pn':List (Addr×Obj)):Cx:={ X with xe:=xe',pn:=pn' }
theorem Cx.Ok.tries (ok:X.Ok)(xe':Value→Shared→Prop)(pn':List (Addr×Obj)):(X.tries xe' pn').Ok:=
 ⟨ok.mod,ok.kind,ok.glob,ok.blt,ok.above,ok.inj,ok.has,ok.cab,ok.hd,ok.frames,ok.stk,ok.exf,ok.bs,ok.bsz,ok.noex,ok.exfs,ok.funs,ok.frf⟩
theorem Inv.tries {pins:List (Addr×Obj)}{σ:St}{H:Hp}{s:Shared}(I:Inv X pins σ H s)(xe':Value→Shared→Prop):Inv (X.tries xe' (X.pn++pins)) [] σ H s:=
 ⟨I.ok.tries _ _,I.os,I.bare,I.base,I.loc,I.cell,I.free,I.freeC,fun p hp=>I.pin p (by simpa using hp),I.hok,I.len⟩
theorem Inv.untries {pins pins':List (Addr×Obj)}{σ:St}{H:Hp}{s:Shared}{xe':Value→Shared→Prop}(ok:X.Ok)(I:Inv (X.tries xe' (X.pn++pins)) pins' σ H s):Inv X pins σ H s:=
 ⟨ok,I.os,I.bare,I.base,I.loc,I.cell,I.free,I.freeC,fun p hp=>I.pin p (zY _ hp),I.hok,I.len⟩
theorem SP.untries {pins:List (Addr×Obj)}{xe':Value→Shared→Prop}{D:GN}{f:Flow}{s':Shared}(ok:X.Ok)(h:SP (X.tries xe' (X.pn++pins)) [] D f s'):SP X pins D f s':=by
 cases f with
 | next=>obtain ⟨a,b,I,q⟩:=h;exact ⟨a,b,I.untries ok,q⟩
 | brk=>obtain ⟨a,b,I,q⟩:=h;exact ⟨a,b,I.untries ok,q⟩
 | cont=>obtain ⟨a,b,I,q⟩:=h;exact ⟨a,b,I.untries ok,q⟩
 | ret u=>obtain ⟨v,a,b,I,r,q⟩:=h;exact ⟨v,a,b,I.untries ok,r,q⟩
def tryE (C:Addr)(th:TS)(D:GN):XK:=fun cls _ H'=>cls=.ref C∧∀σ',th D σ' H'
def tTry (tb:GN→TS):TS:=fun D σ H=>tb D D σ H
theorem z4y {body suite:List Stmt}{b0:Stmt}{tb:GN→TS}{th:TS}(hg:Gl X x)(c:Exc X.K X.mg x C)(hstk:X.stack=X.env::X.outer)(hf:X.env.frame=some X.env.locals)
  (hb:∀(xe':Value→Shared→Prop) (pn':List (Addr×Obj)) (D:GN),XeT (X.tries xe' pn') (tryE C th D)→PSs (X.tries xe' pn') body (tb D))
  (hs:∀e:Addr,PSs (X.hand e) (b0::suite) th) (hd:(x==("__debug__":Str))=false:=by decide) :
  PS X (.Try body [.ExceptHandler (some (.Name x np)) none (b0::suite) hpos] [] [] pos) (tTry tb):=by
 intro pins s σ H D I h
 refine wpAny_Try_except ?_
 have key:XeT (X.tries (fun e s₁=>wpAny (model X.prog X.w) X.A (noteFrame e X.env) (fun _ s₂=>wpAny (model X.prog X.w) X.A (setFlight e none) (fun _ s₃=>
   wpAny (model X.prog X.w) X.A (handleBy e X.env [.ExceptHandler (some (.Name x np)) none (b0::suite) hpos]) (SP X pins D) X.xe s₃) X.xe s₂) X.xe s₁) (X.pn++pins)) (tryE C th D):=by
  rintro pins' σ1 H1 s1 e cls T I1 x1 n1 ⟨rfl,q1⟩
  have I2:Inv X pins σ1 H1 s1:=I1.untries I.ok
  have n2:z5i X pins H1 (YI e (some T)):=fun b hb=>⟨(n1 b hb).1,(n1 b hb).2.1,fun p hp=>(n1 b hb).2.2 p (zY _ hp)⟩
  have fr2:=I2.stack
  rw [hstk] at fr2
  refine z8I (base:=X.base) (I2.ok.frames.trans (congrArg some hstk)) fr2 hf x1 fun h3 T3 x3 fl3 hT3=>?_
  rw [←hstk] at fl3
  have I3:=I2.flt x1 n2 fl3
  have n3:=n2.next I2 hT3
  obtain ⟨tl,M,nm,q,bs,hdct,sn,sub,ab,col,dd,k0,k1,k2,k3,k5,mN,hC,hN,hni,TL⟩:=(c.own I3.kIn).obj
  obtain ⟨oe,vs,hoe,hoec,hoed⟩:=x3.obj
  refine wpAny_handleBy_cons (codeAny_handlers_test (qh (I3.hand e) hg c.glob ?_ hd)) (by intro q;cases q)
  refine wpAny_excMatches_sub_self (nm:=nm) (q:=q) (N:=M) (bs:=bs) (bm:=tl) (hdct:=hdct) (sn:=sn) (sub:=sub) (ab:=ab) (col:=col)
   (dd:=dd) (k0:=k0) (k1:=k1) (k2:=k2) (k3:=k3) (k5:=k5) hC hoe hoec (TL.hasType Wr.hasBase) (codeAny_handlers_suite ?_)
  have fr3:=I3.stack
  rw [hstk] at fr3
  refine z1g (fr:=frs X.stack) x3 (fun z=>UX (s:={ s1 with heap:=h3 }) (base:=X.base) fr3 x3 T3 (ZV.mpr (.inr rfl)) (by rw [←hstk];exact z)) fun h4 T4 x4 fl4 hT4=>?_
  have I4:=I3.flt x3 n3 fl4
  refine wpAny_mono (hs e pins _ σ1 H1 D (I4.hand e) (q1 σ1)) (fun f s5 q5=>?_) fun _ _ z=>z.elim
  exact SP.unhand I.ok q5
 refine wpAny_mono (hb _ _ D key [] s σ H D (I.tries _) h) (fun f s1 q=>?_) fun _ _ q=>q
 have q':=SP.untries I.ok q
 cases f with
 | next=>exact wpAny_execs_nil q'
 | brk=>exact q'
 | cont=>exact q'
 | ret u=>exact q'
end
abbrev Cx.blkX (X:Cx)(s:Shared)(H:Hp)(scope:Scope)(cenv:Env)(fp:List Addr)(xe':Value→Shared→Prop):Cx:=(X.blk s H scope cenv fp).wish xe'
section
variable {X:Cx}
theorem zaO {E:XK}{pins:List (Addr×Obj)}{s:Shared}{σ:St}{H:Hp}{Q:VK}{elt tg iter:Expr}{ifs:List Expr}{scope:Scope}{own:List (Str×Nat)}{pos pos':Pos}{wi:TI}{g:TG}{tt:TT}{te:TE}{use:Option (Value→Sem Unit)}{Qf:Value→Shared→Prop}
  (hX:XeT X E) (hstk:X.stack=X.env::X.outer) (hfL:X.env.frame=some X.env.locals) (hc:X.calm=true) (hN:X.N.Nodup) (I:Inv X pins σ H s) (hi:PI X tg iter wi) (ok:UH X.N X.env.scope scope own)
  (hg:∀(s:Shared) (H:Hp) (C:Addr) (cl:List (Str×Addr)) (fp:List Addr) (xe':Value→Shared→Prop),XeT (X.blkX s H scope (compEnvC scope cl C X.env) fp xe') E→PG (X.blkX s H scope (compEnvC scope cl C X.env) fp xe') tg g) (ht:∀(s:Shared) (H:Hp) (C:Addr) (cl:List (Str×Addr)) (fp:List Addr) (xe':Value→Shared→Prop),XeT (X.blkX s H scope (compEnvC scope cl C X.env) fp xe') E→PTs (X.blkX s H scope (compEnvC scope cl C X.env) fp xe') ifs tt)
  (he:∀(s:Shared) (H:Hp) (C:Addr) (cl:List (Str×Addr)) (fp:List Addr) (xe':Value→Shared→Prop),XeT (X.blkX s H scope (compEnvC scope cl C X.env) fp xe') E→PE (X.blkX s H scope (compEnvC scope cl C X.env) fp xe') elt te) (hs:∀x,foldedSetIterable iter X.env x=pure x)
  (h:tLc wi g tt te (own.map (·.2)) σ H Q)
  (hRR:∀D C s' m H',Inv X pins σ H' s'→Q (.ref D) H'→s'.heap.Ns C m→VF X pins H' C→compPost (model X.prog X.w) X.A X.xe use Qf (.ref D) C (.ok .next) s') :
  wpAny (model X.prog X.w) X.A (comprehension (.ListComp elt [⟨tg,iter,ifs,0⟩] scope pos) scope X.env pos' (newList []) false (eval iter X.env) use) Qf X.xe s:=by
 have hfree:∀y∈scope.names,y.2=.free→∃c,X.env.cells.lookup y.1=some c:=fun y hy e=>by
  rcases ok.free y hy e with k | k
  ·exact I.ok.has _ (.inl k)
  ·exact I.ok.has _ (.inr k)
 refine wpAny_comprehension_free (use:=use) rfl hs (QB hfree) ok.kind (fun y hy e=>by rw [ok.uniq y hy,e])
  (thn (hi pins s σ H _ I h) fun xv s1 hx=>thn hx fun itv s2 h2=>?_)
 obtain ⟨it,fp,tn,J,H2,e,I2,T,st2,f2,q⟩:=h2
 subst e
 refine wpAny_newObj_type (z1q ?_) (by show 0≤sizeLine;decide)
 generalize hD:s2.heap.objs.size=D
 have hDn:H2 D=none:=I2.hok.fresh (Wt hD)
 obtain ⟨W,⟨m0,w0⟩,turn⟩:=q D hDn
 generalize hs3:({ s2 with heap:=s2.heap.push { cls:=.type "list",data:=.seq ([]:List Value).toArray } }:Shared)=s3
 have I3:Inv X pins σ (upd H2 D (.lst [])) s3:=by
  rw [←hs3]
  refine I2.laid (t':=s2.toks) (fun b o e=>ze _ e) (Wt hD) ⟨zk _,[],0,.nil,?_⟩
  rw [←hD]
  exact yd _ rfl
 have h3:s3.heap=s2.heap.push { cls:=.type "list",data:=.seq ([]:List Value).toArray }:=by rw [←hs3]
 have sz:∀b∈fp,b<s2.heap.objs.size:=fun b hb=>by
  obtain ⟨o,e,_⟩:=T.obj _ _ st2 b hb
  exact zC e
 have f3:∀b∈fp,VF X pins (upd H2 D (.lst [])) b∧b<s3.heap.objs.size:=fun b hb=>by
  have hlt:=sz b hb
  refine ⟨⟨?_,(f2 b hb).2⟩,by rw [h3,yN];exact jJ hlt⟩
  rw [zl (by rw [←hD];exact yF hlt)]
  exact (f2 b hb).1
 have st3:tn 0 s3.heap:=T.keep _ _ _ st2 fun b _ o e=>by rw [h3];exact ze _ e
 have I4:=z1x I3 ok hN f3
 have pg:=hg s3 (upd H2 D (.lst [])) s3.heap.objs.size (cellsFrom (s3.heap.objs.size+1) scope.names (jh X.env.cells scope.names [])) fp
 have pt:=ht s3 (upd H2 D (.lst [])) s3.heap.objs.size (cellsFrom (s3.heap.objs.size+1) scope.names (jh X.env.cells scope.names [])) fp
 have pe:=he s3 (upd H2 D (.lst [])) s3.heap.objs.size (cellsFrom (s3.heap.objs.size+1) scope.names (jh X.env.cells scope.names [])) fp
 show codeAny _ _ (.compStart (.ListComp elt [⟨tg,iter,ifs,0⟩] scope pos) 0 (.ref it) (.ref D) (compEnvC scope (cellsFrom (s3.heap.objs.size+1) scope.names (jh X.env.cells scope.names [])) s3.heap.objs.size X.env)) (compPost (model X.prog X.w) X.A X.xe use Qf (.ref D) s3.heap.objs.size) { s3 with heap:=pushCells (s3.heap.push { cls:=.type "dict",data:=.dict #[] }) scope.names }
 have nfp:∀b∈fp,(upd H2 D (.lst [])) b=none:=fun b hb=>(f3 b hb).1.1
 generalize hce:compEnvC scope (cellsFrom (s3.heap.objs.size+1) scope.names (jh X.env.cells scope.names [])) s3.heap.objs.size X.env=ce at I4 pg pt pe ⊢
 have cL:ce.locals=s3.heap.objs.size:=by subst hce;rfl
 generalize hH3:upd H2 D (.lst [])=H3 at I3 I4 pg pt pe w0 nfp f3
 generalize hs4:({ s3 with heap:=pushCells (s3.heap.push { cls:=.type "dict",data:=.dict #[] }) scope.names }:Shared)=s4 at I4 ⊢
 have frm:ce.frame=X.env.frame:=by subst hce;rfl
 have XB:XeT (X.blkX s3 H3 scope ce fp (notedBy (model X.prog X.w) X.A ce fun e s'=>compPost (model X.prog X.w) X.A X.xe use Qf (.ref D) s3.heap.objs.size (.error e) s')) E:=by
  intro pinsB σB HB sB eB cls TB IB xB nB qB
  show wpAny _ _ (noteFrame (.ref eB) ce) _ _ sB
  rw [zaG frm]
  have frB:sB.heap.FunFrames X.base X.stack:=IB.stack
  rw [hstk] at frB
  refine z6e (base:=X.base) (IB.ok.frames.trans (congrArg some hstk)) frB hfL xB fun h5 T5 x5 f5 hT5=>?_
  rw [←hstk] at f5
  have I5:=IB.flt xB nB f5
  have n5:=nB.next IB hT5
  have I6:Inv X pins σ HB { sB with heap:=h5 }:=I3.call' (ch:=fp) I5.os I5.base I5.hok I5.bare fun b hb=>⟨(f3 b hb).1.2.2.2.1,(f3 b hb).1.2.1,(f3 b hb).1.2.2.2.2.1,(f3 b hb).1.2.2.2.2.2⟩
  have n6:z5i X pins HB (YI eB (some T5)):=fun b hb=>by
   rcases (n5 b hb).2.1 with z | z
   ·have z:b∈fp:=z
    exact ⟨(n5 b hb).1,(f3 b z).1.2.2.2.1.imp id fun w=>za6 w,(f3 b z).1.2.2.2.2.2⟩
   ·exact ⟨(n5 b hb).1,(I3.unborn z).2⟩
  obtain ⟨m,hn,_⟩:=I5.loc
  have hn:h5.Ns ce.locals m:=hn
  have nC:HB s3.heap.objs.size=none:=by
   have z:HB ce.locals=none:=I5.free
   rw [cL] at z
   exact z
  rw [cL] at hn
  have fC:=I3.fpOk (H':=HB) (zb _) nC
  have goal:∃m,h5.Ns s3.heap.objs.size m∧∀h',z1N s3.heap.objs.size h5 h'→∀cenv:Env,cenv.locals=s3.heap.objs.size→wpAny (model X.prog X.w) X.A (PySem.passOn "comprehension.variables-let-go" (.ref eB) cenv:Sem Value) (fun _ _=>False) X.xe { sB with heap:=h' }:=by
   refine ⟨m,hn,fun h6 sb cenv _=>?_⟩
   obtain ⟨g0,g1,g2,g3,g4,g5⟩:=fC
   have I7:Inv X pins σ HB { sB with heap:=h6 }:=I6.turned (s:={ sB with heap:=h5 }) (h':=h6) (t':=sB.toks) (fun b o hb e=>(sb.2 b hb).trans e) g0 g1 g3 g4 g5
   have neC:∀b∈YI eB (some T5),b≠s3.heap.objs.size:=fun b hb z=>by
    obtain ⟨o,vs,e1,d1⟩:=x5.recs b hb
    obtain ⟨o',es,ep,ho',hd',_⟩:=hn
    rw [z,ho'] at e1;cases e1;rw [hd'] at d1;cases d1
   have x6:W6 h6 eB cls (some T5):=by
    cases x5 with
    | traced a1 a2 a3 a4 a5 a6 a7 a8 a9=>
     exact .traced ((sb.2 _ (neC _ z2E)).trans a1) a2 a3 a4 a5 a6 ((sb.2 _ (neC _ (ZV.mpr (.inr rfl)))).trans a7) a8 a9
   have fr6:h6.FunFrames X.base X.stack:=I7.stack
   have x60:=x6
   cases x6 with
   | traced a1 a2 a3 a4 a5 a6 a7 a8 a9=>
    unfold PySem.passOn
    refine wpAny_bind (wpAny_field (s:={ sB with heap:=h6 }) a1 a3 a5 ?_)
    rw [if_neg (show ¬(yU T5==.none)=true from by simp)]
    rw [hstk] at fr6
    have step:wpAny (model X.prog X.w) X.A (setFlight (.ref eB) cenv.frame) (fun _ s9=>wpAny (model X.prog X.w) X.A (throw (.ref eB):Sem Value) (fun _ _=>False) X.xe s9) X.xe { sB with heap:=h6 }:=by
     refine z1g (s:={ sB with heap:=h6 }) (fr:=frs X.stack) x60 (fun z=>UX (s:={ sB with heap:=h6 }) (base:=X.base) fr6 x60 T5 (ZV.mpr (.inr rfl)) (by rw [←hstk];exact z)) fun h7 T7 x7 f7 hT7=>?_
     exact wpAny_throw (hX pins σ HB _ eB cls T7 (I7.flt x60 n6 f7) x7 (n6.next I7 hT7) qB)
    first
     | exact wpAny_bind (wpAny_pure (wpAny_bind step))
     | exact wpAny_bind step
     | exact step
  cases use with
  | none=>exact goal
  | some u=>exact goal
 have pg:=pg _ XB
 have pt:=pt _ XB
 have pe:=pe _ XB
 have I4:=I4.wish (notedBy (model X.prog X.w) X.A ce fun e s'=>compPost (model X.prog X.w) X.A X.xe use Qf (.ref D) s3.heap.objs.size (.error e) s')
 have st4:tn 0 s4.heap:=T.keep _ _ _ st3 fun b _ o e=>by rw [←hs4];exact pushCells_keeps _ _ _ _ (ze _ e)
 have stat:∀{σ':St} {H':Hp} {s':Shared},Inv (X.blkX s3 H3 scope ce fp (notedBy (model X.prog X.w) X.A ce fun e s'=>compPost (model X.prog X.w) X.A X.xe use Qf (.ref D) s3.heap.objs.size (.error e) s')) [] σ' H' s'→(∀b∈fp,H' b=none)→∀b∈fp,VF (X.blkX s3 H3 scope ce fp (notedBy (model X.prog X.w) X.A ce fun e s'=>compPost (model X.prog X.w) X.A X.xe use Qf (.ref D) s3.heap.objs.size (.error e) s')) [] H' b:=fun {σ' H' s'} I' hn b hb=>
  ⟨hn b hb,(I'.ok.exf b hb).1,I'.ok.exfs b hb,.inl hb,fun x c e=>(I'.ok.exf b hb).2 x c e,fun p hp=>absurd (show p∈([]:List (Addr×Obj))++[] from hp) (by simp)⟩
 have loop:codeAny (model X.prog X.w) X.A (.compLoop (.ListComp elt [⟨tg,iter,ifs,0⟩] scope pos) 0 (.ref it) (.ref D) ce) (compPost (model X.prog X.w) X.A X.xe use Qf (.ref D) s3.heap.objs.size) s4:=by
  refine z0n (fun n s'=>∃i H',Inv (X.blkX s3 H3 scope ce fp (notedBy (model X.prog X.w) X.A ce fun e s'=>compPost (model X.prog X.w) X.A X.xe use Qf (.ref D) s3.heap.objs.size (.error e) s')) [] (ZF σ (own.map (·.2))) H' s'∧tn i s'.heap∧(∀b∈fp,H' b=none)∧W i n H') ?_ m0 ⟨0,H3,I4,st4,nfp,w0⟩
  rintro n s5 ⟨i,H5,I5,st5,n5,w5⟩
  rcases turn i n H5 w5 with ⟨stop,qq⟩ | ⟨go,Nx,hNx,step⟩
  ·have td:=T.done (X.blkX s3 H3 scope ce fp (notedBy (model X.prog X.w) X.A ce fun e s'=>compPost (model X.prog X.w) X.A X.xe use Qf (.ref D) s3.heap.objs.size (.error e) s')) rfl rfl rfl hc i [] s5 _ H5 (fun _ _=>False) I5 (stat I5 n5) st5 stop
   refine z4c td fun r s6 ⟨hr,I6⟩=>?_
   subst hr
   have I7:Inv X pins σ H5 s6:=I3.call' (ch:=fp) I6.os I6.base I6.hok I6.bare fun b hb=>⟨(f3 b hb).1.2.2.2.1,(f3 b hb).1.2.1,(f3 b hb).1.2.2.2.2.1,(f3 b hb).1.2.2.2.2.2⟩
   have nC:H5 s3.heap.objs.size=none:=by
    have z:H5 ce.locals=none:=I6.free
    rw [cL] at z
    exact z
   obtain ⟨m,hn,_⟩:=I6.loc
   have hn:s6.heap.Ns ce.locals m:=hn
   rw [cL] at hn
   exact hRR D s3.heap.objs.size s6 m H5 I7 qq hn (I3.fpOk (zb _) nC)
  ·have ti:=T.item (X.blkX s3 H3 scope ce fp (notedBy (model X.prog X.w) X.A ce fun e s'=>compPost (model X.prog X.w) X.A X.xe use Qf (.ref D) s3.heap.objs.size (.error e) s')) rfl rfl rfl hc i [] s5 _ H5 (fun _ _=>False) I5 (stat I5 n5) st5 go
   refine z4c ti fun r s6 ⟨u,hr,h6⟩=>?_
   subst hr
   refine z4c h6 fun _ s7 ⟨x,H7,I7,r7,y7,st7,n7⟩=>?_
   have I7':=I7.pinned (stat I7 n7) (T.obj _ _ st7)
   refine thn (pg _ s7 _ H7 x u _ I7' r7 (step x H7 y7)) fun _ s8 ⟨σ8,H8,I8,hw8,q8⟩=>?_
   refine thn (pt _ s8 σ8 H8 _ I8 q8) fun b s9 ⟨H9,I9,q9⟩=>?_
   have fin:∀{s':Shared} {H':Hp},Inv (X.blkX s3 H3 scope ce fp (notedBy (model X.prog X.w) X.A ce fun e s'=>compPost (model X.prog X.w) X.A X.xe use Qf (.ref D) s3.heap.objs.size (.error e) s')) ([]++z17 fp s7.heap) σ8 H' s'→Nx H'→∃m,m<n∧∃i H',Inv (X.blkX s3 H3 scope ce fp (notedBy (model X.prog X.w) X.A ce fun e s'=>compPost (model X.prog X.w) X.A X.xe use Qf (.ref D) s3.heap.objs.size (.error e) s')) [] (ZF σ (own.map (·.2))) H' s'∧tn i s'.heap∧(∀b∈fp,H' b=none)∧W i m H':=fun {s' H'} I' nx=>by
    obtain ⟨m',hm,w'⟩:=hNx H' nx
    have pin':∀b∈fp,∀o,s7.heap.get? b=some o→s'.heap.get? b=some o∧H' b=none:=fun b hb o e=>
     let z:=I'.pin (b,o) (zq _ (zq _ (GA hb e)))
     ⟨z.1,z.2.1⟩
    have hl:(ZF σ (own.map (·.2))).length=σ8.length:=by rw [←hw8,V4]
    refine ⟨m',hm,i+1,H',(I'.unpinned (pins:=[])).weak hl (fun j v e=>?_),T.keep _ _ _ st7 fun b hb o e=>(pin' b hb o e).1,fun b hb=>?_,w'⟩
    ·rw [←hw8] at e
     exact (WP e).1
    ·obtain ⟨o,e,_⟩:=T.obj _ _ st7 b hb
     exact (pin' b hb o e).2
   cases b with
   | false=>
    simp only [j9,if_false] at q9 ⊢
    exact fin I9 q9
   | true=>
    simp only [if_true] at q9 ⊢
    refine thn (pe _ s9 σ8 H9 _ I9 q9) fun z s10 ⟨yv,H10,I10,r10,acc,hD10,hz10,nx⟩=>?_
    exact zbd (X:=X.blkX s3 H3 scope ce fp (notedBy (model X.prog X.w) X.A ce fun e s'=>compPost (model X.prog X.w) X.A X.xe use Qf (.ref D) s3.heap.objs.size (.error e) s')) I10 hD10 hz10 r10 fun s11 I11=>fin I11 nx
 exact codeAny_compStart_list loop (T.self X.A 0 _ _ _ st4 loop)
theorem z9m {E:XK}{i:Nat}{y:Str}{py:Pos}{elt tg iter:Expr}{ifs:List Expr}{scope:Scope}{own:List (Str×Nat)}{pos spos:Pos}{wi:TI}{g:TG}{tt:TT}{te:TE}(hX:XeT X E)(hstk:X.stack=X.env::X.outer)(hfL:X.env.frame=some X.env.locals)(hc:X.calm=true)(hN:X.N.Nodup)(hy:X.N[i]?=some y)(hyl:X.env.scope.names.lookup y=some .local)
  (hsw:swapsWith (.ListComp elt [⟨tg,iter,ifs,0⟩] scope pos) (some (.Name y py)) spos.line X.env=pure true) (hi:PI X tg iter wi) (ok:UH X.N X.env.scope scope own)
  (hg:∀(s:Shared) (H:Hp) (C:Addr) (cl:List (Str×Addr)) (fp:List Addr) (xe':Value→Shared→Prop),XeT (X.blkX s H scope (compEnvC scope cl C X.env) fp xe') E→PG (X.blkX s H scope (compEnvC scope cl C X.env) fp xe') tg g) (ht:∀(s:Shared) (H:Hp) (C:Addr) (cl:List (Str×Addr)) (fp:List Addr) (xe':Value→Shared→Prop),XeT (X.blkX s H scope (compEnvC scope cl C X.env) fp xe') E→PTs (X.blkX s H scope (compEnvC scope cl C X.env) fp xe') ifs tt)
  (he:∀(s:Shared) (H:Hp) (C:Addr) (cl:List (Str×Addr)) (fp:List Addr) (xe':Value→Shared→Prop),XeT (X.blkX s H scope (compEnvC scope cl C X.env) fp xe') E→PE (X.blkX s H scope (compEnvC scope cl C X.env) fp xe') elt te) (hs:∀x,foldedSetIterable iter X.env x=pure x:=by intro _;rfl) :
  PS X (.Assign [.Name y py] (.ListComp elt [⟨tg,iter,ifs,0⟩] scope pos) spos) (tAsg (tLc wi g tt te (own.map (·.2))) (VX i)):=by
 intro pins s σ H D I h
 rw [exec_Assign_Name_used _ _ _ _ hsw]
 refine wpAny_bind (wpAny_standAt (wpAny_bind ?_))
 show wpAny _ X.A (do let _ ←comprehension (.ListComp elt [⟨tg,iter,ifs,0⟩] scope pos) scope X.env (firstIterPos [⟨tg,iter,ifs,0⟩] pos) (newList []) false (eval iter X.env) (some (assign (.Name y py) X.env))) _ _ s
 have h:tLc wi g tt te (own.map (·.2)) σ H (fun x H1=>VX i x σ H1 D.nx):=h
 refine wpAny_bind (thn (zaO (Qf:=fun _ s'=>SP X pins D .next s') hX hstk hfL hc hN I hi ok hg ht he hs h fun L C s' m H' I' q hn f=>?_) fun _ s' hq=>wpAny_pure (wpAny_pure hq))
 show wpAny _ _ (assign (.Name y py) X.env (.ref L)) _ _ _
 refine wpAny_assign_Name (z0F (v:=V.ref L) I' hN hy (.inl hyl) rfl (fun s2 I2 ⟨a,sb,ha⟩=>?_) (.inr hyl))
 obtain ⟨f0,f1,f2,f3,f4,f5⟩:=f
 have haC:C≠a:=by
  rcases ha with z | z
  ·rw [z];exact f1
  ·exact fun e=>f4 y a z e.symm
 refine ⟨m,hn.sameBut sb haC,fun h3 sb3=>?_⟩
 exact ⟨_,H',I2.turned (t':=s2.toks) (fun b o hb e=>(sb3.2 b hb).trans e) f0 f1 f3 f4 f5,q⟩
end
end L2
namespace KP
open PySem PySem.W PyProof.Rows
section
variable {α β:Type}{lt:Nat→Nat→Bool}
def run (lt:Nat→Nat→Bool):KasT α→α
 | .ret a=>a
 | .ask i j k=>run lt (k (lt i j))
theorem run_bind {f:α→KasT β}:∀t:KasT α,run lt (t.bind f)=run lt (f (run lt t))
 | .ret a=>rfl
 | .ask i j k=>run_bind (k (lt i j))
structure Ord (lt:Nat→Nat→Bool):Prop where
 irrefl:∀a,lt a a=false
 trans:∀a b c,lt a b=true→lt b c=true→lt a c=true
 neg:∀a b c,lt a c=true→lt a b=true∨lt b c=true
def Bf (lt:Nat→Nat→Bool)(i j:Nat):Prop:=lt i j=true∨(lt j i=false∧i<j)
theorem Ord.asymm (O:Ord lt){a b:Nat}(h:lt a b=true):lt b a=false:=by
 cases q:lt b a with
 | false=>rfl
 | true=>have:=O.trans _ _ _ h q;rw [O.irrefl] at this;cases this
theorem Bf.trans (O:Ord lt){i j k:Nat}(a:Bf lt i j)(b:Bf lt j k):Bf lt i k:=by
 rcases a with a | ⟨a1,a2⟩
 ·rcases b with b | ⟨b1,b2⟩
  ·exact .inl (O.trans _ _ _ a b)
  ·rcases O.neg i k j a with h | h
   ·exact .inl h
   ·rw [b1] at h;cases h
 ·rcases b with b | ⟨b1,b2⟩
  ·rcases O.neg j i k b with h | h
   ·rw [a1] at h;cases h
   ·exact .inl h
  ·refine .inr ⟨?_,Nat.lt_trans a2 b2⟩
   cases q:lt k i with
   | false=>rfl
   | true=>
    rcases O.neg k j i q with h | h
    ·rw [b1] at h;cases h
    ·rw [a1] at h;cases h
theorem Ord.lt_eq (O:Ord lt){a b c:Nat}(h:lt a b=true)(e:lt c b=false):lt a c=true:=by
 rcases O.neg a c b h with q | q
 ·exact q
 ·rw [e] at q;cases q
theorem Ord.eq_lt (O:Ord lt){a b c:Nat}(h:lt a b=true)(e:lt a c=false):lt c b=true:=by
 rcases O.neg a c b h with q | q
 ·rw [e] at q;cases q
 ·exact q
theorem Ord.eq_trans (O:Ord lt){a b c:Nat}(h:lt a b=false)(e:lt b c=false):lt a c=false:=by
 cases q:lt a c with
 | false=>rfl
 | true=>
  rcases O.neg a b c q with z | z
  ·rw [h] at z;cases z
  ·rw [e] at z;cases z
abbrev g (p:Array Nat)(k:Nat):Nat:=p.getD k 0
theorem g_of {p q:Array Nat}{i j:Nat}(h:p[i]?=q[j]?):g p i=g q j:=by
 unfold g
 rw [ja,ja,h]
theorem rev_at {p:Array Nat}{i j:Nat}(hj:j≤p.size)(k:Nat):g (kas_rev p i j) k=if i≤k∧k<j then g p (i+j - 1 - k) else g p k:=by
 have e:=getElem?_mirror (xs:=p) (i:=i) hj ((j - i) / 2) (by omega) k
 by_cases h:i≤k∧k<j
 ·rw [if_pos h]
  by_cases h2:(i≤k∧k<i+(j - i) / 2)∨(j - (j - i) / 2≤k∧k<j)
  ·rw [if_pos h2] at e;exact g_of e
  ·rw [if_neg h2] at e
   have q:i+j - 1 - k=k:=by omega
   rw [q];exact g_of e
 ·rw [if_neg h]
  rw [if_neg (by omega)] at e;exact g_of e
theorem rev_size {p:Array Nat}{i j:Nat}:(kas_rev p i j).size=p.size:=mirror_size _ _ _ _
theorem bub_at {p:Array Nat}{k l:Nat}(hk:k<p.size)(hl:l≤k)(i:Nat):g (bubble p k (k - l)) i=if i=l then g p k else if l<i∧i≤k then g p (i - 1) else g p i:=by
 have e:=getElem?_bubble hk (k - l) (by omega) i
 have q:k - (k - l)=l:=by omega
 rw [q] at e
 by_cases h1:i=l
 ·rw [if_pos h1] at e ⊢;exact g_of e
 ·rw [if_neg h1] at e ⊢
  by_cases h2:l<i∧i≤k
  ·rw [if_pos h2] at e ⊢;exact g_of e
  ·rw [if_neg h2] at e ⊢;exact g_of e
structure Low (N:Nat)(p:Array Nat)(k:Nat):Prop where
 size:p.size=N
 perm:p.toList.Perm (zf N)
 lo:∀i,i<k→g p i<k
 hi:∀i,k≤i→i<N→g p i=i
 le:k≤N
theorem Low.start (N k:Nat)(h:k≤N):Low N (zf N).toArray k:=by
 have e:∀i,i<N→g (zf N).toArray i=i:=fun i hi=>by
  unfold g
  rw [ja]
  simp [hi]
 exact ⟨by simp,by simp,fun i hi=>by rw [e i (by omega)];exact hi,fun i _ h2=>e i h2,h⟩
theorem Low.next {N k:Nat}{p:Array Nat}(L:Low N p k)(h:k<N):Low N p (k+1):=
 ⟨L.size,L.perm,fun i hi=>by
  by_cases q:i<k
  ·exact jJ (L.lo i q)
  ·have:i=k:=by omega
   rw [this,L.hi k (zb _) h];exact Yi _,fun i h1 h2=>L.hi i (by omega) h2,h⟩
theorem Low.upto {N k m : Nat} {p : Array Nat} (L : Low N p k) (h : k ≤ m) (hm : m ≤ N) : Low N p m := by
  induction m with
  | zero => have : k = 0 := by omega
            rw [← this]; exact L
  | succ m ih =>
    by_cases q : k = m + 1
    · rw [← q]; exact L
    · exact (ih (by omega) (by omega)).next (by omega)
theorem Low.rev {N k i j:Nat}{p:Array Nat}(L:Low N p k)(h:j≤k):Low N (kas_rev p i j) k:=by
 have hj:j≤p.size:=by rw [L.size];exact zd h L.le
 refine ⟨by rw [rev_size];exact L.size,(Wu.mp (mirror_perm _ _ _ _)).trans L.perm,fun a ha=>?_,fun a h1 h2=>?_,L.le⟩
 ·rw [rev_at hj]
  by_cases q:i≤a∧a<j
  ·rw [if_pos q];exact L.lo _ (by omega)
  ·rw [if_neg q];exact L.lo _ ha
 ·rw [rev_at hj,if_neg (by omega)];exact L.hi a h1 h2
def Srt (lt:Nat→Nat→Bool)(p:Array Nat)(k:Nat):Prop:=∀i j,i<j→j<k→Bf lt (g p i) (g p j)
theorem asc_run (p:Array Nat):∀(f n:Nat),n≤run lt (kas_asc p f n)∧run lt (kas_asc p f n)≤n+f∧(∀k,n≤k→k<run lt (kas_asc p f n)→lt (g p k) (g p (k - 1))=false)∧
  (run lt (kas_asc p f n)<n+f→lt (g p (run lt (kas_asc p f n))) (g p (run lt (kas_asc p f n) - 1))=true)
 | 0,n=>by
  show n≤n∧n≤n+0∧(∀k,n≤k→k<n→_)∧(n<n+0→_)
  exact ⟨zb _,zb _,fun k h1 h2=>absurd h2 (by omega),fun h=>absurd h (by omega)⟩
 | f+1,n=>by
  have e:run lt (kas_asc p (f+1) n)=run lt (if lt (g p n) (g p (n - 1))=true then KasT.ret n else kas_asc p f (n+1)):=rfl
  rw [e]
  by_cases q:lt (g p n) (g p (n - 1))=true
  ·rw [if_pos q]
   show n≤n∧n≤n+(f+1)∧(∀k,n≤k→k<n→_)∧(n<n+(f+1)→lt (g p n) (g p (n - 1))=true)
   exact ⟨zb _,Yj _ _,fun k h1 h2=>absurd h2 (by omega),fun _=>q⟩
  ·rw [if_neg q]
   obtain ⟨h1,h2,h3,h4⟩:=asc_run p f (n+1)
   refine ⟨by omega,by omega,fun k a b=>?_,fun h=>h4 (by omega)⟩
   by_cases z:k=n
   ·rw [z];exact Vv _ ▸ q
   ·exact h3 k (by omega) b
theorem srt_on (O:Ord lt){N k m:Nat}{p:Array Nat}(L:Low N p k)(S:Srt lt p k)(hk:1≤k)(hm:m≤N)(h:∀j,k≤j→j<m→lt (g p j) (g p (j - 1))=false):∀d,k+d≤m→Srt lt p (k+d)
 | 0,_=>S
 | d+1,hd=>by
  have ih:=srt_on O L S hk hm h d (by omega)
  have step:Bf lt (g p (k+d - 1)) (g p (k+d)):=by
   refine .inr ⟨h (k+d) (by omega) (by omega),?_⟩
   have L2:=L.upto (m:=k+d) (by omega) (by omega)
   rw [L2.hi (k+d) (zb _) (by omega)]
   exact L2.lo _ (by omega)
  intro i j hij hj
  by_cases q:j<k+d
  ·exact ih i j hij q
  ·have ej:j=k+d:=by omega
   rw [ej]
   by_cases z:i=k+d - 1
   ·rw [z];exact step
   ·exact (ih i (k+d - 1) (by omega) (by omega)).trans O step
structure Dsc (lt:Nat→Nat→Bool)(N:Nat)(p:Array Nat)(n q:Nat):Prop where
 low:Low N p n
 q1:q+1≤n
 strict:∀i j,i<n - (q+1)→n - (q+1)≤j→j<n→lt (g p j) (g p i)=true
 rev:∀i j,i<j→j<n - (q+1)→Bf lt (g p j) (g p i)
 blk:∀i j,n - (q+1)≤i→i<j→j<n→lt (g p i) (g p j)=false∧lt (g p j) (g p i)=false∧g p i<g p j
theorem Dsc.turn (O:Ord lt){N n q:Nat}{p:Array Nat}(D:Dsc lt N p n q):∀i j,i<j→j<n→Bf lt (g (if q > 0 then kas_rev p (n - (q+1)) n else p) j) (g (if q > 0 then kas_rev p (n - (q+1)) n else p) i):=by
 intro i j hij hj
 have hn:n≤p.size:=by rw [D.low.size];exact D.low.le
 have q1:=D.q1
 by_cases hq:q > 0
 ·rw [if_pos hq,rev_at hn,rev_at hn]
  by_cases h1:n - (q+1)≤i
  ·rw [if_pos (by omega),if_pos (by omega)]
   obtain ⟨a,b,c⟩:=D.blk (n - (q+1)+n - 1 - j) (n - (q+1)+n - 1 - i) (by omega) (by omega) (by omega)
   exact .inr ⟨b,c⟩
  ·rw [if_neg (show ¬(n - (q+1)≤i∧i<n) by omega)]
   by_cases h2:n - (q+1)≤j
   ·rw [if_pos (by omega)]
    exact .inl (D.strict i _ (by omega) (by omega) (by omega))
   ·rw [if_neg (by omega)]
    exact D.rev i j hij (by omega)
 ·rw [if_neg hq]
  have q0:q=0:=by omega
  subst q0
  by_cases h2:n - (0+1)≤j
  ·exact .inl (D.strict i j (by omega) h2 hj)
  ·exact D.rev i j hij (by omega)
theorem Dsc.down (O:Ord lt){N n q:Nat}{p:Array Nat}(D:Dsc lt N p n q)(hn:n<N)(h:lt (g p n) (g p (n - 1))=true):Dsc lt N (if q > 0 then kas_rev p (n - (q+1)) n else p) (n+1) 0:=by
 have q1:=D.q1
 have hs:n≤p.size:=by rw [D.low.size];exact D.low.le
 have low':Low N (if q > 0 then kas_rev p (n - (q+1)) n else p) n:=by
  by_cases hq:q > 0
  ·rw [if_pos hq];exact D.low.rev (zb _)
  ·rw [if_neg hq];exact D.low
 have all:∀i,i<n→lt (g p n) (g p i)=true:=fun i hi=>by
  by_cases c:n - (q+1)≤i
  ·by_cases e:i=n - 1
   ·rw [e];exact h
   ·exact O.lt_eq h (D.blk i (n - 1) c (by omega) (by omega)).1
  ·exact O.trans _ _ _ h (D.strict i (n - 1) (by omega) (by omega) (by omega))
 refine ⟨low'.next hn,by omega,fun i j hi h1 h2=>?_,fun i j hij hj=>D.turn O i j hij (by omega),fun i j h1 h2 h3=>absurd h3 (by omega)⟩
 have ej:j=n:=by omega
 have i':i<n:=by omega
 rw [ej]
 by_cases hq:q > 0
 ·rw [if_pos hq,rev_at hs,rev_at hs,if_neg (by omega)]
  by_cases c:n - (q+1)≤i
  ·rw [if_pos ⟨c,i'⟩];exact all _ (by omega)
  ·rw [if_neg (by omega)];exact all i i'
 ·rw [if_neg hq];exact all i i'
theorem Dsc.same (O:Ord lt){N n q:Nat}{p:Array Nat}(D:Dsc lt N p n q)(hn:n<N)(h:lt (g p n) (g p (n - 1))=false)(h':lt (g p (n - 1)) (g p n)=false):Dsc lt N p (n+1) (q+1):=by
 have q1:=D.q1
 have ec:n+1 - (q+1+1)=n - (q+1):=by omega
 have up:g p n=n:=D.low.hi n (zb _) hn
 refine ⟨D.low.next hn,by omega,fun i j hi h1 h2=>?_,fun i j hij hj=>D.rev i j hij (by omega),fun i j h1 h2 h3=>?_⟩
 ·rw [ec] at hi h1
  by_cases e:j=n
  ·rw [e]
   exact O.eq_lt (D.strict i (n - 1) hi (by omega) (by omega)) h'
  ·exact D.strict i j hi h1 (by omega)
 ·rw [ec] at h1
  by_cases e:j=n
  ·rw [e,up]
   rw [up] at h h'
   refine ⟨?_,?_,by have:=D.low.lo i (by omega);exact this⟩
   ·by_cases z:i=n - 1
    ·rw [z];exact h'
    ·exact O.eq_trans (D.blk i (n - 1) h1 (by omega) (by omega)).1 h'
   ·by_cases z:i=n - 1
    ·rw [z];exact h
    ·exact O.eq_trans h (D.blk i (n - 1) h1 (by omega) (by omega)).2.1
  ·exact D.blk i j h1 h2 (by omega)
theorem desc_run (O:Ord lt){N:Nat}:∀(f:Nat) (p:Array Nat) (n q:Nat),Dsc lt N p n q→n+f≤N→∃p' n' q',run lt (kas_desc f p n q)=(p',n',q')∧Dsc lt N p' n' q'∧n'≤n+f
 | 0,p,n,q,D,_=>⟨p,n,q,rfl,D,zb _⟩
 | f+1,p,n,q,D,hf=>by
  have e:run lt (kas_desc (f+1) p n q)=run lt (if lt (g p n) (g p (n - 1))=true then (if q > 0 then kas_desc f (kas_rev p (n - (q+1)) n) (n+1) 0 else kas_desc f p (n+1) 0)
   else .ask (g p (n - 1)) (g p n) fun d=>if d=true then .ret (p,n,q) else kas_desc f p (n+1) (q+1)):=rfl
  rw [e]
  by_cases c:lt (g p n) (g p (n - 1))=true
  ·rw [if_pos c]
   have D2:=D.down O (by omega) c
   by_cases hq:q > 0
   ·rw [if_pos hq] at D2 ⊢
    obtain ⟨p',n',q',h1,h2,h3⟩:=desc_run O f _ _ _ D2 (by omega)
    exact ⟨p',n',q',h1,h2,by omega⟩
   ·rw [if_neg hq] at D2 ⊢
    obtain ⟨p',n',q',h1,h2,h3⟩:=desc_run O f _ _ _ D2 (by omega)
    exact ⟨p',n',q',h1,h2,by omega⟩
  ·rw [if_neg c]
   have c':lt (g p n) (g p (n - 1))=false:=Vv _ ▸ c
   have e2:run lt (KasT.ask (g p (n - 1)) (g p n) fun d=>if d=true then .ret (p,n,q) else kas_desc f p (n+1) (q+1))=run lt (if lt (g p (n - 1)) (g p n)=true then .ret (p,n,q) else kas_desc f p (n+1) (q+1)):=rfl
   rw [e2]
   by_cases d:lt (g p (n - 1)) (g p n)=true
   ·rw [if_pos d];exact ⟨p,n,q,rfl,D,Yj _ _⟩
   ·rw [if_neg d]
    obtain ⟨p',n',q',h1,h2,h3⟩:=desc_run O f _ _ _ (D.same O (by omega) c' (Vv _ ▸ d)) (by omega)
    exact ⟨p',n',q',h1,h2,by omega⟩
def Ran (lt:Nat→Nat→Bool)(N:Nat)(r:Nat×Array Nat):Prop:=1≤r.1∧Low N r.2 r.1∧Srt lt r.2 r.1
theorem tail_run (O:Ord lt){N n:Nat}{p:Array Nat}(L:Low N p n)(h1:1≤n)(R:∀i j,i<j→j<n→Bf lt (g p j) (g p i)):Ran lt N (run lt (kas_tail3 n N p)):=by
 have hs:n≤p.size:=by rw [L.size];exact L.le
 have L2:Low N (kas_rev p 0 n) n:=L.rev (zb _)
 have S2:Srt lt (kas_rev p 0 n) n:=fun i j hij hj=>by
  rw [rev_at hs,rev_at hs,if_pos (by omega),if_pos (by omega)]
  exact R _ _ (by omega) (by omega)
 have e:run lt (kas_tail3 n N p)=(run lt (kas_asc (kas_rev p 0 n) (N - n) n),kas_rev p 0 n):=by
  unfold kas_tail3
  rw [run_bind]
  rfl
 rw [e]
 obtain ⟨a1,a2,a3,_⟩:=asc_run (lt:=lt) (kas_rev p 0 n) (N - n) n
 have le:=L.le
 have S3:=srt_on O L2 S2 h1 (by omega) a3 (run lt (kas_asc (kas_rev p 0 n) (N - n) n) - n) (by omega)
 rw [show n+(run lt (kas_asc (kas_rev p 0 n) (N - n) n) - n)=run lt (kas_asc (kas_rev p 0 n) (N - n) n) by omega] at S3
 exact ⟨by show 1≤run lt _;omega,L2.upto a1 (by omega),S3⟩
theorem part_run (O:Ord lt){N n:Nat}{p:Array Nat}(hn:n+1≤N)(D:Dsc lt N p (n+1) 0):Ran lt N (run lt (kas_descPart n N p)):=by
 obtain ⟨p',n',q',h1,h2,h3⟩:=desc_run O (N - (n+1)) p (n+1) 0 D (by omega)
 have e:run lt (kas_descPart n N p)=run lt (if q' > 0 then kas_tail3 n' N (kas_rev p' (n' - (q'+1)) n') else kas_tail3 n' N p'):=by
  unfold kas_descPart
  rw [run_bind,h1]
 rw [e]
 have T:=h2.turn O
 have q1:=h2.q1
 by_cases hq:q' > 0
 ·rw [if_pos hq]
  simp only [if_pos hq] at T
  exact tail_run O (h2.low.rev (zb _)) (by omega) T
 ·rw [if_neg hq]
  simp only [if_neg hq] at T
  exact tail_run O h2.low (by omega) T
theorem count_run (O:Ord lt){N:Nat}(hN:1≤N):Ran lt N (run lt (kas_count N (zf N).toArray)):=by
 have at_:∀i,i<N→g (zf N).toArray i=i:=fun i hi=>(Low.start N 0 (zk _)).hi i (zk _) hi
 obtain ⟨a1,a2,a3,a4⟩:=asc_run (lt:=lt) (zf N).toArray (N - 1) 1
 unfold kas_count
 rw [run_bind]
 generalize run lt (kas_asc (zf N).toArray (N - 1) 1)=n at a1 a2 a3 a4
 have L1:=Low.start N 1 hN
 have S1:Srt lt (zf N).toArray n:=by
  have z:=srt_on O L1 (fun i j h1 h2=>absurd h2 (by omega)) (zb _) (by omega) a3 (n - 1) (by omega)
  rw [show 1+(n - 1)=n by omega] at z
  exact z
 have Ln:=L1.upto a1 (by omega)
 by_cases c:(n==N)=true
 ·rw [if_pos c];exact ⟨a1,Ln,S1⟩
 ·rw [if_neg c]
  have c':n≠N:=by simpa using c
  have nN:n+1≤N:=by omega
  have dn:=a4 (by omega)
  by_cases h1:n > 1
  ·rw [if_pos h1]
   show Ran lt N (run lt (if lt (g (zf N).toArray 0) (g (zf N).toArray (n - 1))=true then .ret (n,(zf N).toArray) else kas_descPart n N (kas_rev (zf N).toArray 0 n)))
   by_cases d:lt (g (zf N).toArray 0) (g (zf N).toArray (n - 1))=true
   ·rw [if_pos d];exact ⟨a1,Ln,S1⟩
   ·rw [if_neg d]
    have d':lt (g (zf N).toArray 0) (g (zf N).toArray (n - 1))=false:=Vv _ ▸ d
    have up:∀i j,i<j→j<n→lt (g (zf N).toArray j) (g (zf N).toArray i)=false:=fun i j hij hj=>by
     rcases S1 i j hij hj with z | z
     ·exact O.asymm z
     ·exact z.1
    have eq0:∀i,i<n→lt (g (zf N).toArray i) (g (zf N).toArray (n - 1))=false:=fun i hi=>by
     by_cases z:i=0
     ·rw [z];exact d'
     ·exact O.eq_trans (up 0 i (by omega) hi) d'
    have eq1:∀i j,i<n→j<n→lt (g (zf N).toArray i) (g (zf N).toArray j)=false:=fun i j hi hj=>by
     by_cases z:j=n - 1
     ·rw [z];exact eq0 i hi
     ·exact O.eq_trans (eq0 i hi) (up j (n - 1) (by omega) (by omega))
    have hs:n≤(zf N).toArray.size:=by simp;omega
    refine part_run O nN ⟨(Ln.rev (i:=0) (zb _)).next (by omega),by omega,fun i j hi h2 h3=>?_,fun i j hij hj=>?_,fun i j h2 h3 h4=>absurd h4 (by omega)⟩
    ·have ej:j=n:=by omega
     have hi':i<n:=by omega
     rw [ej,rev_at hs,rev_at hs,if_neg (by omega),if_pos (by omega)]
     exact O.lt_eq dn (eq0 _ (by omega))
    ·rw [rev_at hs,rev_at hs,if_pos (by omega),if_pos (by omega)]
     refine .inr ⟨eq1 _ _ (by omega) (by omega),?_⟩
     rw [at_ _ (by omega),at_ _ (by omega)]
     omega
  ·rw [if_neg h1]
   have n1:n=1:=by omega
   subst n1
   refine part_run O nN ⟨Ln.next (by omega),by omega,fun i j hi h2 h3=>?_,fun i j hij hj=>absurd hj (by omega),fun i j h2 h3 h4=>absurd h4 (by omega)⟩
   have ei:i=0:=by omega
   have ej:j=1:=by omega
   rw [ei,ej];exact dn
theorem place_run (O:Ord lt){k:Nat}{p:Array Nat}(S:Srt lt p k):∀(f l r:Nat),l≤r→r≤k→r≤l+f→(∀i,i<l→lt (g p k) (g p i)=false)→(∀i,r≤i→i<k→lt (g p k) (g p i)=true)→
  run lt (kas_place p k f l r)≤k∧(∀i,i<run lt (kas_place p k f l r)→lt (g p k) (g p i)=false)∧(∀i,run lt (kas_place p k f l r)≤i→i<k→lt (g p k) (g p i)=true)
 | 0,l,r,h1,h2,h3,a,b=>by
  have e:l=r:=by omega
  subst e
  exact ⟨h2,a,b⟩
 | f+1,l,r,h1,h2,h3,a,b=>by
  have e:run lt (kas_place p k (f+1) l r)=run lt (if l≥r then .ret l else .ask (g p k) (g p ((l+r) / 2)) fun c=>if c=true then kas_place p k f l ((l+r) / 2) else kas_place p k f ((l+r) / 2+1) r):=rfl
  rw [e]
  by_cases c:l≥r
  ·rw [if_pos c]
   have e:l=r:=by omega
   subst e
   exact ⟨h2,a,b⟩
  ·rw [if_neg c]
   have e2:run lt (KasT.ask (g p k) (g p ((l+r) / 2)) fun c=>if c=true then kas_place p k f l ((l+r) / 2) else kas_place p k f ((l+r) / 2+1) r)=run lt (if lt (g p k) (g p ((l+r) / 2))=true then kas_place p k f l ((l+r) / 2) else kas_place p k f ((l+r) / 2+1) r):=rfl
   rw [e2]
   by_cases d:lt (g p k) (g p ((l+r) / 2))=true
   ·rw [if_pos d]
    refine place_run O S f l ((l+r) / 2) (by omega) (by omega) (by omega) a fun i hi hk=>?_
    by_cases z:i=(l+r) / 2
    ·rw [z];exact d
    ·rcases S ((l+r) / 2) i (by omega) hk with w | w
     ·exact O.trans _ _ _ d w
     ·exact O.lt_eq d w.1
   ·rw [if_neg d]
    have d':lt (g p k) (g p ((l+r) / 2))=false:=Vv _ ▸ d
    refine place_run O S f ((l+r) / 2+1) r (by omega) h2 (by omega) (fun i hi=>?_) b
    by_cases z:i=(l+r) / 2
    ·rw [z];exact d'
    ·have w:lt (g p ((l+r) / 2)) (g p i)=false:=by
      rcases S i ((l+r) / 2) (by omega) (by omega) with w | w
      ·exact O.asymm w
      ·exact w.1
     exact O.eq_trans d' w
theorem bin_run (O:Ord lt){N:Nat}:∀(f k:Nat) (p:Array Nat),k+f=N→Low N p k→Srt lt p k→(run lt (kas_bin f p k)).toList.Perm (zf N)∧(run lt (kas_bin f p k)).size=N∧Srt lt (run lt (kas_bin f p k)) N
 | 0,k,p,h,L,S=>by
  have e:k=N:=by omega
  subst e
  exact ⟨L.perm,L.size,S⟩
 | f+1,k,p,h,L,S=>by
  have e:run lt (kas_bin (f+1) p k)=run lt (kas_bin f (bubble p k (k - run lt (kas_place p k k 0 k))) (k+1)):=by
   show run lt ((kas_place p k k 0 k).bind fun l=>kas_bin f (bubble p k (k - l)) (k+1))=_
   rw [run_bind]
  rw [e]
  obtain ⟨h1,h2,h3⟩:=place_run O S k 0 k (zk _) (zb _) (by omega) (fun i hi=>absurd hi (by omega)) (fun i h1 h2=>absurd h2 (by omega))
  generalize run lt (kas_place p k k 0 k)=l at h1 h2 h3
  have hk:k<p.size:=by rw [L.size];omega
  have up:g p k=k:=L.hi k (zb _) (by omega)
  have atb:=bub_at hk h1
  refine bin_run O f (k+1) _ (by omega) ⟨by rw [bubble_size];exact L.size,(Wu.mp (bubble_perm _ _ _)).trans L.perm,fun i hi=>?_,fun i a b=>?_,by omega⟩ fun i j hij hj=>?_
  ·rw [atb i]
   by_cases c:i=l
   ·rw [if_pos c,up];exact Yi _
   ·rw [if_neg c]
    by_cases d:l<i∧i≤k
    ·rw [if_pos d];exact jJ (L.lo _ (by omega))
    ·rw [if_neg d];exact jJ (L.lo _ (by omega))
  ·rw [atb i,if_neg (by omega),if_neg (by omega)];exact L.hi i (by omega) b
  ·rw [atb i,atb j]
   by_cases c:i=l
   ·rw [if_pos c,if_neg (by omega),if_pos (by omega)]
    exact .inl (h3 _ (by omega) (by omega))
   ·rw [if_neg c]
    by_cases d:j=l
    ·rw [if_pos d,if_neg (by omega)]
     refine .inr ⟨h2 i (by omega),?_⟩
     rw [up];exact L.lo i (by omega)
    ·rw [if_neg d]
     by_cases u:l<i∧i≤k
     ·rw [if_pos u,if_pos (by omega)]
      exact S _ _ (by omega) (by omega)
     ·rw [if_neg u]
      by_cases v:l<j∧j≤k
      ·rw [if_pos v];exact S _ _ (by omega) (by omega)
      ·rw [if_neg v];exact S _ _ hij (by omega)
theorem sort_run (O:Ord lt){N:Nat}(hN:1≤N):(run lt (kas_sort N)).toList.Perm (zf N)∧(run lt (kas_sort N)).size=N∧Srt lt (run lt (kas_sort N)) N:=by
 have R:=count_run O hN
 unfold kas_sort
 rw [run_bind]
 generalize run lt (kas_count N (zf N).toArray)=r at R
 obtain ⟨r1,L,S⟩:=R
 have le:=L.le
 by_cases c:r.1<N
 ·rw [if_pos c,show max r.1 1=r.1 by omega]
  exact bin_run O _ _ _ (by omega) L S
 ·rw [if_neg c]
  have e:r.1=N:=by omega
  rw [e] at S
  exact ⟨L.perm,L.size,S⟩
end
end KP
namespace HT
open PySem PyProof.Rows
section
open PySem.SeqAt
open PySem.AutoSeq1 (wpAny_loadPart')
open PySem.MeetsSeq PySem.MeetsSeq2 PySem.MeetsSeq3
theorem ints_at {us:Array Value}{ns:List Int}(h:IntsAre us.toList ns){i:Nat}(hi:i<us.size):∃a t,us[i]?=some (.int a t)∧ns.drop i=a::ns.drop (i+1):=by
 have key:∀{l:List Value} {ns:List Int} (i:Nat),IntsAre l ns→i<l.length→∃a t,l[i]?=some (.int a t)∧ns.drop i=a::ns.drop (i+1):=by
  intro l ns i h
  induction h generalizing i with
  | nil=>intro z;simp at z
  | cons a t h ih=>
   intro z
   cases i with
   | zero=>exact ⟨a,t,rfl,rfl⟩
   | succ i=>
    obtain ⟨b,u,e1,e2⟩:=ih i (by simpa using z)
    exact ⟨b,u,by simpa using e1,by simpa using e2⟩
 obtain ⟨a,t,e1,e2⟩:=key i h (by simpa using hi)
 exact ⟨a,t,by rw [←e1];simp,e2⟩
theorem lst_lt_loop (l b:Addr)(us vs:Array Value)(n n2:Nat)(dd dd2:Option Addr)(sl sl2:Array (Option Value))(ns ms:List Int)(hi:IntsAre us.toList ns)(hj:IntsAre vs.toList ms)(hsz:us.size=vs.size)(k:Nat) :
  ∀i:Nat,us.size - i=k→Meets (Builtin.«list.__eq__.loop» ⟨[.ref l,.ref b,rawInt i,rawInt 0],[]⟩)
   (fun A R s=>(s.heap.get? l=some { cls:=.type "list",dict:=dd,data:=.seq us n,slots:=sl }∧s.heap.get? b=some { cls:=.type "list",dict:=dd2,data:=.seq vs n2,slots:=sl2 })∧
    R (.ok (.ret (.bool (lexLt (ns.drop i) (ms.drop i))))) s):=by
 have z1:us.size=ns.length:=by rw [←hi.length];simp
 have z2:vs.size=ms.length:=by rw [←hj.length];simp
 induction k with
 | zero=>
  intro i hk prog w A R s ⟨⟨hl,hb⟩,h⟩
  obtain ⟨hp,g,d,tk,os⟩:=s
  wp_walk using wpAny_loadPart' hl,wpAny_loadPart' hb
  have e1:us[((i:Nat):Int).toNat]?=none:=by simp;omega
  have e2:vs[((i:Nat):Int).toNat]?=none:=by simp;omega
  have d1:ns.drop i=[]:=by simp;omega
  have d2:ms.drop i=[]:=by simp;omega
  rw [d1,d2,lexLt_nil_nil] at h
  rw [e1,e2]
  wp_walk using wpAny_loadPart' hl,wpAny_loadPart' hb
  show R (.ok (.ret (.bool (decide (us.size<vs.size))))) _
  rw [hsz,decide_eq_false (yY _)]
  exact h
 | succ k ih=>
  intro i hk prog w A R s ⟨⟨hl,hb⟩,h⟩
  obtain ⟨hp,g,d,tk,os⟩:=s
  wp_walk using wpAny_loadPart' hl,wpAny_loadPart' hb
  obtain ⟨a,t,ea,da⟩:=ints_at hi (show i<us.size by omega)
  obtain ⟨c,u,ec,dc⟩:=ints_at hj (show i<vs.size by omega)
  have e1:us[((i:Nat):Int).toNat]?=some (.int a t):=ea
  have e2:vs[((i:Nat):Int).toNat]?=some (.int c u):=ec
  have up:((i:Int)+1)=((i+1:Nat):Int):=by push_cast;rfl
  rw [da,dc,lexLt_cons] at h
  rw [e1,e2]
  obtain ⟨e,he,hiff⟩:=eqAt_int A.in1 ⟨hp,g,d,tk,os⟩ a t c u
  refine wpAny_bind (he prog w _ _ ?_)
  cases e with
  | true=>
   rw [if_pos (hiff.mp rfl)] at h
   wp_walk
   rw [up]
   exact ⟨plainId_quiet plain_eq_loop _,codeAny_builtin entry_eq_loop (by
    rw [Vw plain_eq_loop _]
    exact ih (i+1) (by omega) prog w A R _ ⟨⟨hl,hb⟩,h⟩)⟩
  | false=>
   rw [if_neg (fun q=>absurd (hiff.mpr q) zR)] at h
   have hri:=rcLt_int A.in1 ⟨hp,g,d,tk,os⟩ a t c u prog w
   wp_walk using wpAny_loadPart' hl,wpAny_loadPart' hb
   rw [e1,e2]
   wp_walk using hri
   exact h
theorem lst_lt_ints (l b:Addr)(us vs:Array Value)(n n2:Nat)(dd dd2:Option Addr)(sl sl2:Array (Option Value))(ns ms:List Int)(hi:IntsAre us.toList ns)(hj:IntsAre vs.toList ms)(hsz:us.size=vs.size) :
  Meets (Builtin.«list.__lt__» ⟨[.ref l,.ref b],[]⟩)
   (fun A R s=>(s.heap.get? l=some { cls:=.type "list",dict:=dd,data:=.seq us n,slots:=sl }∧s.heap.get? b=some { cls:=.type "list",dict:=dd2,data:=.seq vs n2,slots:=sl2 })∧
    R (.ok (.ret (.bool (lexLt ns ms)))) s):=by
 intro prog w A R s ⟨⟨hl,hb⟩,h⟩
 obtain ⟨hp,g,d,tk,os⟩:=s
 have f3:=AutoSeq1.sub_list_list
 wp_walk using wpAny_loadPart' hl,wpAny_loadPart' hb
 exact ⟨plainId_quiet plain_eq_loop _,codeAny_builtin entry_eq_loop (by
  rw [Vw plain_eq_loop _]
  exact lst_lt_loop l b us vs n n2 dd dd2 sl sl2 ns ms hi hj hsz _ 0 rfl prog w A R _ ⟨⟨hl,hb⟩,h⟩)⟩
end
section
variable {prog:Program}{w:World}{A:Around}{E:Value→Shared→Prop}{s:Shared}
theorem key_lt {l b:Addr}{us vs:Array Value}{ns ms:List Int}{Q:Bool→Shared→Prop}(hl:s.heap.IsList l us)(hb:s.heap.IsList b vs)(hi:IntsAre us.toList ns)(hj:IntsAre vs.toList ms)(hsz:us.size=vs.size)
  (hu:A.units<cLine) (h:Q (lexLt ns ms) s):wpAny (model prog w) A (keyLt' oneType' (.ref l) (.ref b)) Q E s:=by
 obtain ⟨⟨cls,dd,data,sl⟩,ho,hc,n,hd⟩:=id hl
 obtain ⟨⟨cls2,dd2,data2,sl2⟩,ho2,hc2,n2,hd2⟩:=id hb
 simp only at hc hd hc2 hd2
 subst hc hd hc2 hd2
 rw [keyLt'_oneType,oneLt'_eq]
 simp only [if_true]
 refine wpAny_bind (wpAny_cRoomFor hu ?_)
 refine wpAny_bind (wpAny_callSpecialIfBound?_slot ⟨_,ho,rfl⟩ z6N ?_)
 refine call_meets z6N ⟨_,ho,rfl⟩ PySem.F.entry_list_lt (PySem.F.args_list_lt_2 _ _) (lst_lt_ints l b us vs n n2 dd dd2 sl sl2 ns ms hi hj hsz) ⟨⟨ho,ho2⟩,?_⟩
 exact wpAny_truthy_bool h
end
end HT
namespace KP
open PySem PySem.W PyProof.Rows
section
variable {α β:Type}{lt:Nat→Nat→Bool}
def AllLt (n:Nat):KasT α→Prop
 | .ret _=>True
 | .ask i j k=>i<n∧j<n∧∀b,AllLt n (k b)
theorem AllLt.bind {n:Nat}{f:α→KasT β}(hf:∀a,AllLt n (f a)):∀t:KasT α,AllLt n t→AllLt n (t.bind f)
 | .ret a,_=>hf a
 | .ask _ _ k,h=>⟨h.1,h.2.1,fun b=>AllLt.bind hf (k b) (h.2.2 b)⟩
theorem AllLt.ite {n:Nat}{c:Prop}[Decidable c]{t u:KasT α}(h1:AllLt n t)(h2:AllLt n u):AllLt n (if c then t else u):=by
 split
 ·exact h1
 ·exact h2
def Bnd (n:Nat)(p:Array Nat):Prop:=∀k,g p k<n
theorem bnd_perm {n:Nat}{p q:Array Nat}(hn:0<n)(h:Bnd n p)(hp:q.Perm p):Bnd n q:=fun k=>by
 unfold g
 rw [ja]
 cases e:q[k]? with
 | none=>exact hn
 | some x=>
  have m:x∈p:=hp.mem_iff.mp (Array.mem_of_getElem? e)
  obtain ⟨i,hi,e2⟩:=Array.mem_iff_getElem.mp m
  have z:=h i
  unfold g at z
  rw [ja,J3 hi,e2] at z
  exact z
theorem bnd_rev {n i j:Nat}{p:Array Nat}(hn:0<n)(h:Bnd n p):Bnd n (kas_rev p i j):=bnd_perm hn h (mirror_perm _ _ _ _)
theorem bnd_bub {n i j:Nat}{p:Array Nat}(hn:0<n)(h:Bnd n p):Bnd n (bubble p i j):=bnd_perm hn h (bubble_perm _ _ _)
theorem lt_asc {n:Nat}{p:Array Nat}(h:Bnd n p):∀f k,AllLt n (kas_asc p f k)
 | 0,_=>trivial
 | f+1,k=>⟨h _,h _,fun b=>AllLt.ite trivial (lt_asc h f (k+1))⟩
theorem lt_desc {n:Nat}(hn:0<n):∀(f:Nat) (p:Array Nat) (k q:Nat),Bnd n p→AllLt n (kas_desc f p k q)
 | 0,_,_,_,_=>trivial
 | f+1,p,k,q,h=>⟨h _,h _,fun b=>AllLt.ite (AllLt.ite (lt_desc hn f _ _ _ (bnd_rev hn h)) (lt_desc hn f _ _ _ h)) ⟨h _,h _,fun d=>AllLt.ite trivial (lt_desc hn f _ _ _ h)⟩⟩
def Out (P:α→Prop):KasT α→Prop
 | .ret a=>P a
 | .ask _ _ k=>∀b,Out P (k b)
theorem AllLt.bind' {n:Nat}{P:α→Prop}{f:α→KasT β}(hf:∀a,P a→AllLt n (f a)):∀t:KasT α,AllLt n t→Out P t→AllLt n (t.bind f)
 | .ret a,_,o=>hf a o
 | .ask _ _ k,h,o=>⟨h.1,h.2.1,fun b=>AllLt.bind' hf (k b) (h.2.2 b) (o b)⟩
theorem Out.ite {P:α→Prop}{c:Prop}[Decidable c]{t u:KasT α}(h1:Out P t)(h2:Out P u):Out P (if c then t else u):=by
 split
 ·exact h1
 ·exact h2
theorem Out.bind {P:α→Prop}{R:β→Prop}{f:α→KasT β}(hf:∀a,P a→Out R (f a)):∀t:KasT α,Out P t→Out R (t.bind f)
 | .ret a,o=>hf a o
 | .ask _ _ k,o=>fun b=>Out.bind hf (k b) (o b)
theorem Out.any:∀t:KasT α,Out (fun _=>True) t
 | .ret _=>trivial
 | .ask _ _ k=>fun b=>Out.any (k b)
theorem out_desc {n:Nat}(hn:0<n):∀(f:Nat) (p:Array Nat) (k q:Nat),Bnd n p→Out (fun r:Array Nat×Nat×Nat=>Bnd n r.1) (kas_desc f p k q)
 | 0,_,_,_,h=>h
 | f+1,p,k,q,h=>fun b=>Out.ite (Out.ite (out_desc hn f _ _ _ (bnd_rev hn h)) (out_desc hn f _ _ _ h)) fun d=>Out.ite h (out_desc hn f _ _ _ h)
theorem lt_tail {n k N:Nat}{p:Array Nat}(hn:0<n)(h:Bnd n p):AllLt n (kas_tail3 k N p):=by
 unfold kas_tail3
 refine AllLt.bind (fun _=>?_) _ (lt_asc (bnd_rev hn h) _ _)
 exact UJ
theorem out_tail {n k N:Nat}{p:Array Nat}(hn:0<n)(h:Bnd n p):Out (fun r:Nat×Array Nat=>Bnd n r.2) (kas_tail3 k N p):=by
 unfold kas_tail3
 refine Out.bind (P:=fun _=>True) (fun _ _=>?_) _ (Out.any _)
 exact bnd_rev hn h
theorem lt_part {n k N:Nat}{p:Array Nat}(hn:0<n)(h:Bnd n p):AllLt n (kas_descPart k N p):=
 AllLt.bind' (P:=fun r:Array Nat×Nat×Nat=>Bnd n r.1) (fun r hr=>AllLt.ite (lt_tail hn (bnd_rev hn hr)) (lt_tail hn hr)) _ (lt_desc hn _ _ _ _ h) (out_desc hn _ _ _ _ h)
theorem out_part {n k N:Nat}{p:Array Nat}(hn:0<n)(h:Bnd n p):Out (fun r:Nat×Array Nat=>Bnd n r.2) (kas_descPart k N p):=
 Out.bind (P:=fun r:Array Nat×Nat×Nat=>Bnd n r.1) (fun r hr=>Out.ite (out_tail hn (bnd_rev hn hr)) (out_tail hn hr)) _ (out_desc hn _ _ _ _ h)
theorem lt_count {n N:Nat}{p:Array Nat}(hn:0<n)(h:Bnd n p):AllLt n (kas_count N p):=by
 unfold kas_count
 refine AllLt.bind (fun k=>?_) _ (lt_asc h _ _)
 refine AllLt.ite UJ (AllLt.ite ⟨h _,h _,fun c=>?_⟩ (lt_part hn h))
 exact AllLt.ite UJ (lt_part hn (bnd_rev hn h))
theorem out_count {n N:Nat}{p:Array Nat}(hn:0<n)(h:Bnd n p):Out (fun r:Nat×Array Nat=>Bnd n r.2) (kas_count N p):=by
 unfold kas_count
 refine Out.bind (P:=fun _=>True) (fun k _=>?_) _ (Out.any _)
 refine Out.ite (show Bnd n p from h) (Out.ite (fun c=>?_) (out_part hn h))
 exact Out.ite (show Bnd n p from h) (out_part hn (bnd_rev hn h))
theorem lt_place {n k:Nat}{p:Array Nat}(h:Bnd n p):∀f l r,AllLt n (kas_place p k f l r)
 | 0,_,_=>trivial
 | f+1,l,r=>AllLt.ite trivial ⟨h _,h _,fun c=>AllLt.ite (lt_place h f _ _) (lt_place h f _ _)⟩
theorem lt_bin {n:Nat}(hn:0<n):∀(f:Nat) (p:Array Nat) (k:Nat),Bnd n p→AllLt n (kas_bin f p k)
 | 0,_,_,_=>trivial
 | f+1,p,k,h=>AllLt.bind (fun l=>lt_bin hn f _ _ (bnd_bub hn h)) _ (lt_place h _ _ _)
theorem lt_sort {n:Nat}(hn:0<n):AllLt n (kas_sort n):=by
 have h:Bnd n (zf n).toArray:=fun k=>by
  by_cases q:k<n
  ·have e:=(Low.start n 0 (zk _)).hi k (zk _) q
   rw [e];exact q
  ·unfold g
   rw [ja,Array.getElem?_eq_none (by simp;omega)]
   exact hn
 unfold kas_sort
 refine AllLt.bind' (P:=fun r:Nat×Array Nat=>Bnd n r.2) (fun r hr=>?_) _ (lt_count hn h) (out_count hn h)
 exact AllLt.ite (lt_bin hn _ _ _ hr) UJ
theorem wp_run {n:Nat}{cmp:Nat→Nat→(Bool→Shared→Prop)→Shared→Prop}{Q:α→Shared→Prop}{s:Shared}(hc:∀i j C,i<n→j<n→C (lt i j) s→cmp i j C s) :
  ∀t:KasT α,AllLt n t→Q (run lt t) s→t.kasWp cmp Q s
 | .ret _,_,h=>h
 | .ask i j k,a,h=>hc i j _ a.1 a.2.1 (wp_run hc (k (lt i j)) (a.2.2 _) h)
end
end KP
namespace L2
open PySem PySem.Spec PyProof.Rows
section
variable {X:Cx}{pins:List (Addr×Obj)}{σ:St}{H:Hp}{s:Shared}
theorem Inv.adopt {D:Addr}{u:HO}(I:Inv X pins σ H s)(f:VF X pins H D)(new:YS X.prog X.w (upd H D u) s.heap D u):Inv X pins σ (upd H D u) s:=by
 obtain ⟨f0,f1,f2,f3,f4,f5⟩:=f
 have ne:∀b w,H b=some w→b≠D:=fun b w e z=>by rw [z,f0] at e;cases e
 refine ⟨I.ok,I.os,I.bare,⟨I.base.keep,I.base.slot,fun b o e n hx=>?_,I.base.there,fun b xs e=>?_,fun b o w e=>?_,fun b ps e=>?_⟩,I.loc,I.cell,?_,fun x c e=>?_,fun p hp=>?_,fun b w e=>?_,I.len⟩
 ·rw [zl ?_]
  ·exact I.base.free b o e n hx
  ·intro z
   rcases f3 with w | w
   ·exact hx (by rw [z];exact w)
   ·exact absurd (zW (zC e) (by rw [z];exact w)) (yY _)
 ·have q:=I.base.tups b xs e
  rw [zl (ne b _ q)];exact q
 ·have q:=I.base.frzs b o w e
  rw [zl (ne b _ q)];exact q
 ·obtain ⟨more,q⟩:=I.base.tbls b ps e
  exact ⟨more,by rw [zl (ne b _ q)];exact q⟩
 ·rw [zl (j1 f1)];exact I.free
 ·rw [zl (f4 x c e)];exact I.freeC x c e
 ·obtain ⟨q1,q2,q3,q4,q5⟩:=I.pin p hp
  exact ⟨q1,by rw [zl (f5 p hp)];exact q2,q3,q4,q5⟩
 ·by_cases z:b=D
  ·subst z;rw [z5] at e;cases e;exact new
  ·rw [zl z] at e
   exact (I.hok b w e).stay (fun _ _ _ q=>q) (fun c q=>by rw [zl (ne c _ q)];exact q) fun c xs q=>by rw [zl (ne c _ q)];exact q
theorem Inv.repin {D:Addr}{o:Obj}{pre:List (Addr×Obj)}{xs:Array Value}{n:Nat}{gf:Array Value→Array Value}(I:Inv X (pins++pre++[(D,seqObj "list" xs n)]) σ H s)(f:VF X (pins++pre) H D) :
  ∃c,Inv X (pins++pre++[(D,seqObj "list" (gf xs) c)]) σ H { s with heap:=s.heap.update D (yW gf) }:=by
 have at_:=I.pin (D,seqObj "list" xs n) (zq _ (zq _ (zi.mpr rfl)))
 have sb:=z4a s.heap D (yW gf)
 obtain ⟨c,hc⟩:∃c,(s.heap.update D (yW gf)).get? D=some (seqObj "list" (gf xs) c):=⟨_,get?_update_seq at_.1 gf⟩
 have I1:Inv X (pins++pre) σ H s:=I.pins_of fun p hp=>I.pin p (zq _ (zY _ hp))
 obtain ⟨f0,f1,f2,f3,f4,f5⟩:=f
 have I2:Inv X (pins++pre) σ H { s with heap:=s.heap.update D (yW gf) }:=I1.turned (t':=s.toks) (fun b o hb e=>(sb.2 b hb).trans e) f0 f1 f3 f4 f5
 refine ⟨c,I2.pins_of fun p hp=>?_⟩
 rcases zQ.mp hp with hp | hp
 ·exact I2.pin p (zq _ hp)
 ·rw [zi.mp hp]
  exact ⟨hc,f0,f1,f2,fun v z=>by cases z⟩
def V0 (H:Hp)(vs:List Value)(keys:List (List Int)):Prop:=Paired (fun v key=>∃p,v=yU p∧H p=some (.lst (key.map V.int))) vs keys
theorem V0.same {H H':Hp}{vs:List Value}{keys:List (List Int)}(k:V0 H vs keys)(h:W5 H H'):V0 H' vs keys:=Paired.mapP k fun _ _ ⟨p,e1,e2⟩=>⟨p,e1,h _ _ e2⟩
theorem V0.snoc {H:Hp}{vs:List Value}{keys:List (List Int)}{p:Addr}{key:List Int}:V0 H vs keys→H p=some (.lst (key.map V.int))→V0 H (vs++[.ref p]) (keys++[key]):=by
 intro k h
 induction k with
 | nil=>exact .cons ⟨p,rfl,h⟩ .nil
 | cons r _ ih=>exact .cons r ih
theorem V0.length {H:Hp}{vs:List Value}{keys:List (List Int)}(k:V0 H vs keys):vs.length=keys.length:=Paired.length k
theorem V0.get {H:Hp}:∀{vs:List Value}{keys:List (List Int)}{i:Nat},V0 H vs keys→i<vs.length→∃p,vs.getD i .none=.ref p∧H p=some (.lst ((keys.getD i []).map V.int))
 | _,_,_,.nil,h=>by simp at h
 | _,_,0,.cons ⟨p,e1,e2⟩ _,_=>⟨p,e1,e2⟩
 | _,_,i+1,.cons _ t,h=>by
  obtain ⟨p,e1,e2⟩:=V0.get (i:=i) t (by simpa using h)
  exact ⟨p,by simpa using e1,by simpa using e2⟩
end
open PySem.W (kas_sort kas_ask kas_item kas_kind kat_run kat_snds kas_range)
def klt (keys:List (List Int))(a b:Nat):Bool:=HT.lexLt (keys.getD a []) (keys.getD b [])
theorem z2T:∀l:List Int,HT.lexLt l l=false
 | []=>rfl
 | a::l=>by rw [HT.lexLt_cons,if_pos rfl];exact z2T l
theorem z3O:∀a b c:List Int,HT.lexLt a b=true→HT.lexLt b c=true→HT.lexLt a c=true
 | [],[],_,h,_=>by cases h
 | [],_::_,[],_,h=>by cases h
 | [],_::_,_::_,_,_=>rfl
 | _::_,[],_,h,_=>by cases h
 | _::_,_::_,[],_,h=>by cases h
 | x::a,y::b,z::c,h1,h2=>by
  rw [HT.lexLt_cons] at h1 h2 ⊢
  by_cases e1:x=y
  ·subst e1
   rw [if_pos rfl] at h1
   by_cases e2:x=z
   ·rw [if_pos e2] at h2 ⊢;exact z3O a b c h1 h2
   ·rw [if_neg e2] at h2 ⊢;exact h2
  ·rw [if_neg e1] at h1
   have l1:=of_decide_eq_true h1
   by_cases e2:y=z
   ·subst e2
    rw [if_neg e1];exact h1
   ·rw [if_neg e2] at h2
    have l2:=of_decide_eq_true h2
    rw [if_neg (by omega)];exact decide_eq_true (by omega)
theorem z8K:∀a b c:List Int,HT.lexLt a c=true→HT.lexLt a b=true∨HT.lexLt b c=true
 | [],[],_,h=>.inr h
 | [],_::_,_,_=>.inl rfl
 | _::_,_,[],h=>by cases h
 | _::_,[],_::_,_=>.inr rfl
 | x::a,y::b,z::c,h=>by
  rw [HT.lexLt_cons] at h
  rw [HT.lexLt_cons,HT.lexLt_cons]
  by_cases e1:x=z
  ·rw [if_pos e1] at h
   by_cases e2:x=y
   ·rw [if_pos e2,if_pos (by omega)];exact z8K a b c h
   ·rw [if_neg e2,if_neg (by omega)]
    by_cases l:x<y
    ·exact .inl (decide_eq_true l)
    ·exact .inr (decide_eq_true (by omega))
  ·rw [if_neg e1] at h
   have l:=of_decide_eq_true h
   by_cases e2:x=y
   ·rw [if_neg (show ¬y=z by omega)];exact .inr (decide_eq_true (by omega))
   ·rw [if_neg e2]
    by_cases l2:x<y
    ·exact .inl (decide_eq_true l2)
    ·rw [if_neg (show ¬y=z by omega)];exact .inr (decide_eq_true (by omega))
theorem klt_ord (keys:List (List Int)):KP.Ord (klt keys):=⟨fun _=>z2T _,fun _ _ _=>z3O _ _ _,fun _ _ _=>z8K _ _ _⟩
theorem yO.back {xs:List V}{us:List Value}(r:yO xs us){i:Nat}{u:Value}(h:us[i]?=some u):∃x,xs[i]?=some x∧jW x u:=by
 have hl:=r.length
 have hi:=(zo.mp h).1
 obtain ⟨u',e1,e2⟩:=r.get (i:=i) (x:=xs[i]) (z8 (by omega))
 rw [h] at e1;cases e1
 exact ⟨_,z8 (by omega),e2⟩
theorem yO.pick {xs:List V}{us:List Value}(r:yO xs us):∀(ps:List Nat),yO (ps.map fun i=>xs.getD i .non) (ps.map fun i=>us.getD i .none)
 | []=>.nil
 | i::ps=>by
  refine .cons ?_ (yO.pick r ps)
  by_cases h:i<xs.length
  ·obtain ⟨u,e1,e2⟩:=r.get (i:=i) (x:=xs[i]) (z8 h)
   have a:xs.getD i .non=xs[i]:=by simp [h]
   have b:us.getD i .none=u:=by rw [yE,e1];rfl
   show jW (xs.getD i .non) (us.getD i .none)
   rw [a,b];exact e2
  ·have hl:=r.length
   have a:xs.getD i V.non=.non:=by simp [Vx h]
   have b:us.getD i GY=.none:=by simp [Vx (hl ▸ h)]
   show jW (xs.getD i .non) (us.getD i .none)
   rw [a,b];rfl
section
variable {X:Cx}{pins:List (Addr×Obj)}{σ:St}{H:Hp}{s:Shared}{A2:Around}{E:Value→Shared→Prop}{xs:List V}{its:List Value}{keys:List (List Int)}{D kS:Addr}{P:PySem.Fin→Shared→Prop}{e1:Nat}
def z23 (X:Cx)(pins:List (Addr×Obj))(σ:St)(H:Hp)(D:Addr)(xs:List V)(keys:List (List Int))(P:Shared→Prop):Prop:=
 ∀H' s' (p:Array Nat),Inv X pins σ (upd H' D (.lst (p.toList.map fun i=>xs.getD i .non))) s'→W5 H H'→H' D=none→p.toList.Perm (zf xs.length)→
  (∀i j,i<j→j<xs.length→KP.Bf (klt keys) (KP.g p i) (KP.g p j))→P s'
theorem z9R {H1:Hp}{kA:Array Value}{e c:Nat}(I:Inv X (pins++[(D,seqObj "list" #[] e1)]++[(kS,seqObj "list" kA e)]) σ H1 s)(sm:W5 H H1)(kk:V0 H1 kA.toList keys)
  (fD:∀H2:Hp,H2 D=none→VF X pins H2 D) (fK:∀H2:Hp,H2 kS=none→VF X (pins++[(D,seqObj "list" #[] e1)]) H2 kS) (hv:yO xs its) (hlen:keys.length=xs.length) (h64:xs.length<64) (hc:∀k∈keys,k.length=c)
  (hu:A2.units<cLine) (fin:z23 X pins σ H D xs keys fun s'=>P (.done (.ret .none)) s'):wpAny (model X.prog X.w) A2 (ksk_end D false its.toArray e1 (.ref kS) kA) P E s:=by
 have hl:=hv.length
 have hkl:=kk.length
 rw [yh] at hkl
 have pD:=I.pin (D,seqObj "list" #[] e1) (zq _ (zY _ (zq _ (zi.mpr rfl))))
 have pK:=I.pin (kS,seqObj "list" kA e) (zq _ (zq _ (zi.mpr rfl)))
 have tail:∀(st:SortSt) (p:Array Nat),(arrOf st).map (·.2)=z1K (p.toList.map fun i=>its.getD i .none)→failedOf st=none→p.size=xs.length→p.toList.Perm (zf xs.length)→
   (∀i j,i<j→j<xs.length→KP.Bf (klt keys) (KP.g p i) (KP.g p j))→wpAny (model X.prog X.w) A2 (ksk_tail D false e1 (.ref kS) st) P E s:=by
  intro st p har hf hps hperm hbf
  obtain ⟨ck,I2⟩:=I.repin (o:=default) (gf:=fun _=>(#[]:Array Value)) (fK H1 pK.2.1)
  have qD:=I2.pin (D,seqObj "list" #[] e1) (zq _ (zY _ (zq _ (zi.mpr rfl))))
  have I3:Inv X (pins++[]++[(D,seqObj "list" #[] e1)]) σ H1 { s with heap:=s.heap.update kS (yW fun _=>(#[]:Array Value)) }:=I2.pins_of fun p hp=>I2.pin p (zq _ (zY _ (by simpa using hp)))
  obtain ⟨cd,I4⟩:=I3.repin (o:=default) (gf:=fun _=>z1K (p.toList.map fun i=>its.getD i .none)) (by simpa using fD H1 pD.2.1)
  have rD:=I4.pin (D,seqObj "list" (z1K (p.toList.map fun i=>its.getD i .none)) cd) (zq _ (zq _ (zi.mpr rfl)))
  have I5:Inv X pins σ H1 { s with heap:=(s.heap.update kS (yW fun _=>(#[]:Array Value))).update D (yW fun _=>z1K (p.toList.map fun i=>its.getD i .none)) }:=
   I4.pins_of fun p hp=>I4.pin p (zq _ (zY _ (by simpa using hp)))
  have hz:(p.toList.map fun i=>its.getD i GY).length=xs.length:=by rw [z0,yh,hps]
  have I6:=I5.adopt (u:=.lst (p.toList.map fun i=>xs.getD i .non)) (fD H1 pD.2.1) ⟨by rw [z0,yh,hps,sizeLine_eq];omega,_,cd,hv.pick p.toList,rD.1⟩
  unfold ksk_tail
  try dsimp only
  rw [har]
  refine wpAny_bind (listUpdate_at pK.1 rfl ?_ (by rw [sizeLine_eq];omega) (zk _))
  refine wpAny_bind (wpAny_letGo (wpAny_bind (seqEpoch_at qD.1 rfl ?_)))
  refine wpAny_bind (listUpdate_at qD.1 rfl ?_ (zk _) ?_)
  ·rw [hf]
   simp only [bne_self_eq_false,j9,if_false]
   exact wpAny_pure (fin H1 _ p I6 sm pD.2.1 hperm hbf)
  ·simp only [j9,if_false,zO]
   rw [hz,sizeLine_eq];omega
 unfold ksk_end
 simp only [j9,if_false,zO]
 by_cases h2:its.length<2
 ·rw [if_pos h2,if_pos h2]
  refine wpAny_bind (wpAny_pure ?_)
  rw [StateT.run_pure]
  refine wpAny_bind (wpAny_pure ?_)
  refine tail _ (zf xs.length).toArray ?_ rfl (by simp) (by simp) fun i j hij hj=>absurd hj (by omega)
  show (kA.zip its.toArray).map (·.2)=_
  apply Array.toList_inj.mp
  simp only [Array.toList_map,Array.toList_zip,List.toList_toArray]
  rw [hl]
  have a1:kA.toList.length=its.length:=by rw [yh];omega
  rw [z3i (by omega)]
  refine z1M fun i=>?_
  rw [zB]
  by_cases hi:i<its.length
  ·rw [Y9 hi];simp [hi]
  ·rw [jp (by omega),jp (by simp;omega)];rfl
 ·rw [if_neg h2,if_neg h2]
  have hkz:kA=kA.toList.toArray:=by simp
  refine wpAny_bind ?_
  rw [hkz]
  refine kas_kind (T:=.type "list") (by rw [yh];omega) (fun v hvm=>?_) rfl rfl ?_
  ·obtain ⟨i,hi,ev⟩:=List.mem_iff_getElem.mp hvm
   obtain ⟨p,e2,e3⟩:=kk.get (i:=i) hi
   obtain ⟨_,vs,n,_,e4⟩:=I.hok p _ e3
   have e5:v=.ref p:=by rw [←e2,←ev,yE,z8 hi];rfl
   rw [e5]
   exact (PySem.W.Looks.ld e4).andThen .now
  ·refine wpAny_bind (wpAny_mono (kat_run (ks:=kA.toList) (vs:=its) (Q:=fun st' s'=>s'=s∧∃p:Array Nat,p=KP.run (klt keys) (kas_sort its.length)∧p.size=its.length∧arrOf st'=p.map (kas_item (kA.toList.toArray.zip its.toArray))∧failedOf st'=none)
    (G:=fun p s'=>s'=s∧p=KP.run (klt keys) (kas_sort its.length)) (by rw [yh];omega) (by omega) (by omega) (fun p st' s' a1 a2 a3 a4=>⟨a4.1,p,a4.2,a1,a2,a3⟩)
    (KP.wp_run (n:=its.length) (lt:=klt keys) (fun i j C hi hj hC=>?_) _ (KP.lt_sort (by omega)) ⟨rfl,rfl⟩)) ?_ fun _ _ x=>x)
   ·obtain ⟨p1,a1,a2⟩:=kk.get (i:=i) (by rw [yh];omega)
    obtain ⟨p2,b1,b2⟩:=kk.get (i:=j) (by rw [yh];omega)
    obtain ⟨_,v1,n1,r1,g1⟩:=I.hok p1 _ a2
    obtain ⟨_,v2,n2,r2,g2⟩:=I.hok p2 _ b2
    have l1:(keys.getD i []).length=c:=hc _ (by rw [yE,z8 (show i<keys.length by omega)];exact Vt _)
    have l2:(keys.getD j []).length=c:=hc _ (by rw [yE,z8 (show j<keys.length by omega)];exact Vt _)
    have z1:=r1.length
    have z2:=r2.length
    rw [z0] at z1 z2
    unfold kas_ask
    rw [a1,b1]
    exact HT.key_lt ⟨_,g1,rfl,n1,rfl⟩ ⟨_,g2,rfl,n2,rfl⟩ (yO.ints r1) (yO.ints r2) (by rw [zO,zO];omega) hu hC
   ·rintro ⟨⟨⟩,st'⟩ s' ⟨rfl,p,rfl,hps,har,hf⟩
    obtain ⟨q1,q2,q3⟩:=KP.sort_run (klt_ord keys) (N:=its.length) (by omega)
    rw [←hl] at q1 q2 q3
    refine tail st' _ (kat_snds (ks:=kA.toList) (by rw [yh];omega) har) hf (by rw [hps];omega) (by rw [←hl];exact q1) fun i j hij hj=>?_
    rw [←hl]
    exact q3 i j hij hj
end
section
variable {X:Cx}{pins:List (Addr×Obj)}{σ:St}{H:Hp}{s:Shared}{A2:Around}{E:Value→Shared→Prop}{xs:List V}{its:List Value}{keys:List (List Int)}{D kS:Addr}{P:PySem.Fin→Shared→Prop}{e1:Nat}
def z5g (X:Cx)(σ:St)(H:Hp)(A2:Around)(f:Value)(xs:List V)(keys:List (List Int)):Prop:=
 ∀(i:Nat) (x:V) (key:List Int) (u:Value) (H1:Hp) (s1:Shared) (pins1:List (Addr×Obj)),xs[i]?=some x→keys[i]?=some key→Inv X pins1 σ H1 s1→W5 H H1→jW x u→
  wpAny (model X.prog X.w) A2 (call f [u]) (fun k s2=>∃p H2,k=.ref p∧Inv X pins1 σ H2 s2∧W5 H1 H2∧H2 p=some (.lst (key.map V.int))) (fun _ _=>False) s1
theorem z7p {f:Value}{c:Nat}(I:Inv X (pins++[(D,seqObj "list" #[] e1)]++[(kS,seqObj "list" #[] 0)]) σ H s)
  (fD:∀H2:Hp,H2 D=none→VF X pins H2 D) (fK:∀H2:Hp,H2 kS=none→VF X (pins++[(D,seqObj "list" #[] e1)]) H2 kS) (hv:yO xs its) (hlen:keys.length=xs.length) (h64:xs.length<64) (hc:∀k∈keys,k.length=c)
  (hu:A2.units<cLine) (turn:z5g X σ H A2 f xs keys) (fin:z23 X pins σ H D xs keys fun s'=>P (.done (.ret .none)) s'):wpAny (model X.prog X.w) A2 (ksk_rest D f false its.toArray e1 (.ref kS)) P E s:=by
 have hl:=hv.length
 unfold ksk_rest
 refine wpAny_bind (wpAny_rule ?_)
 rw [List.forIn_toArray]
 refine wpAny_bind (ksk_fold (fun i s'=>∃(H':Hp) (kA:Array Value) (e:Nat),Inv X (pins++[(D,seqObj "list" #[] e1)]++[(kS,seqObj "list" kA e)]) σ H' s'∧W5 H H'∧V0 H' kA.toList (keys.take i)) its 0 s
  ⟨H,#[],0,I,W5.refl _,by rw [List.take_zero];exact .nil⟩ ?step ?done)
 case step=>
  rintro j x s' hx ⟨H',kA,e,I',sm,kk⟩
  rw [z95] at kk ⊢
  obtain ⟨xv,hxv,rel⟩:=hv.back hx
  have hj:j<xs.length:=(zo.mp hxv).1
  have hkj:keys[j]?=some keys[j]:=z8 (by omega)
  have hz:=kk.length
  rw [yh,Zx] at hz
  refine wpAny_bind (wpAny_attempt (wpAny_mono (turn j xv keys[j] x H' s' _ hxv hkj I' sm rel) (fun v s'' he=>?_) fun _ _ z=>z.elim))
  obtain ⟨p,H2,rfl,I2,sm2,hp⟩:=he
  have pK:=I2.pin (kS,seqObj "list" kA e) (zq _ (zq _ (zi.mpr rfl)))
  obtain ⟨ck,I3⟩:=I2.repin (o:=default) (gf:=(·.push (.ref p))) (fK H2 pK.2.1)
  try dsimp only
  refine wpAny_bind (listUpdate_at pK.1 rfl ?_ (by rw [sizeLine_eq];omega) (by rw [Array.size_push,sizeLine_eq];omega))
  refine wpAny_pure ⟨rfl,H2,kA.push (.ref p),ck,I3,sm.trans sm2,?_⟩
  have e2:keys.take (j+1)=keys.take j++[keys[j]]:=by rw [List.take_add_one,hkj];rfl
  rw [e2,Array.toList_push]
  exact (kk.same sm2).snoc hp
 case done=>
  rintro s' ⟨H',kA,e,I',sm,kk⟩
  rw [z95,Zu (by omega)] at kk
  have pK:=I'.pin (kS,seqObj "list" kA e) (zq _ (zq _ (zi.mpr rfl)))
  refine wpAny_bind (listItems_at pK.1 rfl ?_)
  exact z9R I' sm kk fD fK hv hlen h64 hc hu fin
theorem z6Z {f:Value}{c n:Nat}(I:Inv X pins σ H s)(fD:∀H2:Hp,H2 D=none→VF X pins H2 D)(hDn:H D=none)(hD:s.heap.get? D=some (seqObj "list" its.toArray n))(hv:yO xs its)(hlen:keys.length=xs.length)(h64:xs.length<64)(hc:∀k∈keys,k.length=c)
  (hu:A2.units<cLine) (turn:z5g X σ H A2 f xs keys) (fin:z23 X pins σ H D xs keys fun s'=>P (.done (.ret .none)) s'):wpAny (model X.prog X.w) A2 (ksk_tree D f false) P E s:=by
 have hl:=hv.length
 have sb:=z4a s.heap D (yW fun _=>(#[]:Array Value))
 obtain ⟨e1,ho1⟩:∃e1,(s.heap.update D (yW fun _=>(#[]:Array Value))).get? D=some (seqObj "list" #[] e1):=⟨_,get?_update_seq hD fun _=>#[]⟩
 obtain ⟨f0,f1,f2,f3,f4,f5⟩:=fD H hDn
 have I2:Inv X pins σ H { s with heap:=s.heap.update D (yW fun _=>(#[]:Array Value)) }:=I.turned (t':=s.toks) (fun b o hb e=>(sb.2 b hb).trans e) f0 f1 f3 f4 f5
 have I3:Inv X (pins++[(D,seqObj "list" #[] e1)]) σ H { s with heap:=s.heap.update D (yW fun _=>(#[]:Array Value)) }:=I2.pins_of fun p hp=>by
  rcases zQ.mp hp with hp | hp
  ·exact I2.pin p (zq _ hp)
  ·rw [zi.mp hp];exact ⟨ho1,hDn,f1,f2,fun v z=>by cases z⟩
 have I4:Inv X (pins++[(D,seqObj "list" #[] e1)]) σ H { s with heap:=(s.heap.update D (yW fun _=>(#[]:Array Value))).push (seqObj "tuple" its.toArray 0) }:=I3.kept (t':=s.toks) fun b u e=>ze _ e
 have I5:Inv X (pins++[(D,seqObj "list" #[] e1)]) σ H { s with heap:=((s.heap.update D (yW fun _=>(#[]:Array Value))).push (seqObj "tuple" its.toArray 0)).push (seqObj "list" #[] 0) }:=I4.kept (t':=s.toks) fun b u e=>ze _ e
 have fK:∀H2:Hp,H2 ((s.heap.update D (yW fun _=>(#[]:Array Value))).push (seqObj "tuple" its.toArray 0)).objs.size=none→VF X (pins++[(D,seqObj "list" #[] e1)]) H2 ((s.heap.update D (yW fun _=>(#[]:Array Value))).push (seqObj "tuple" its.toArray 0)).objs.size:=fun H2 z=>I4.fpOk (zb _) z
 have nK:=I4.hok.fresh (a:=((s.heap.update D (yW fun _=>(#[]:Array Value))).push (seqObj "tuple" its.toArray 0)).objs.size) (zb _)
 unfold ksk_tree
 refine wpAny_bind (listItems_at hD rfl ?_)
 refine wpAny_bind (listUpdate_at hD rfl ?_ (by rw [zO,sizeLine_eq];omega) (zk _))
 refine wpAny_bind (seqEpoch_at ho1 rfl (wpAny_bind (wpAny_newTuple ?_ (by show its.length≤_;rw [sizeLine_eq];omega))))
 refine wpAny_bind (wpAny_newList (wpAny_holding ?_) (zk _))
 refine z7p (I5.pins_of fun p hp=>?_) fD fK hv hlen h64 hc hu turn fin
 rcases zQ.mp hp with hp | hp
 ·exact I5.pin p (zq _ hp)
 ·rw [zi.mp hp]
  obtain ⟨g0,g1,g2,_⟩:=fK H nK
  exact ⟨yd _ rfl,nK,g1,g2,fun v z=>by cases z⟩
theorem z4i {l q:Addr}{c:Nat}{Q:Value→Shared→Prop}(I:Inv X pins σ H s)(hl:SqL X.K H l xs)(hlen:keys.length=xs.length)(h64:xs.length<64)(hc:∀k∈keys,k.length=c)(hu:X.A.in1.in1.units<cLine)
  (turn:z5g X σ H X.A.in1.in1 (.ref q) xs keys) (fin:∀D,z23 X pins σ H D xs keys fun s'=>Q (.ref D) s'):wpAny (model X.prog X.w) X.A (call (.builtin "sorted") [.ref l] [(YB "key",.ref q)]) Q E s:=by
 obtain ⟨its,hv,hpl,hz⟩:=I.list hl
 have hle:=hv.length
 refine call_function_entry_kw kind_sorted plain_sorted entry_sorted (ksk_s1 _ _) ?_
 unfold Builtin.«sorted»
 refine wpAny_bind (m:=checkCount "sorted" 1 1 _) (wpAny_pure (wpAny_bind (collect_list hpl.isList ?_ (by rw [sizeLine_eq];omega))))
 refine wpAny_bind (wpAny_newList ?_ (by rw [sizeLine_eq];omega))
 have sz:((s.heap.push (seqObj "list" #[] 0)).update s.heap.objs.size (yW (·++its.toArray))).objs.size=s.heap.objs.size+1:=(Heap.size_update ..).trans (size_push' ..)
 have kp:∀b o,s.heap.get? b=some o→(((s.heap.push (seqObj "list" #[] 0)).update s.heap.objs.size (yW (·++its.toArray))).push (seqObj "list" its.toArray 0)).get? b=some o:=fun b o e=>by
  refine ze _ ?_
  have lt:b<s.heap.objs.size:=zC e
  rw [Heap.get?_update_ne _ _ _ _ (yF lt)]
  exact ze _ e
 have hD:(((s.heap.push (seqObj "list" #[] 0)).update s.heap.objs.size (yW (·++its.toArray))).push (seqObj "list" its.toArray 0)).get? (s.heap.objs.size+1)=some (seqObj "list" its.toArray 0):=by
  rw [←sz];exact yd _ rfl
 have I1:Inv X pins σ H { s with heap:=((s.heap.push (seqObj "list" #[] 0)).update s.heap.objs.size (yW (·++its.toArray))).push (seqObj "list" its.toArray 0) }:=I.kept (t':=s.toks) kp
 show wpAny _ _ _ _ _ { s with heap:=((s.heap.push (seqObj "list" #[] 0)).update s.heap.objs.size (yW (·++its.toArray))).push (seqObj "list" its.toArray 0) }
 rw [sz]
 refine wpAny_bind (wpAny_holding (wpAny_call_entry_kw slot_list_sort ⟨_,hD,rfl⟩ entry_list_sort ?body (ksk_l1 _ _)))
 case body=>
  show wpAny (model X.prog X.w) X.A.in1.in1 (Builtin.«list.sort» ⟨[.ref (s.heap.objs.size+1)],[(YB "key",.ref q)]⟩) _ _ _
  rw [ksk_t1]
  refine z6Z I1 (fun H2 z=>I.fpOk (QQ _) z) (I.hok.fresh (QQ _)) hD hv hlen h64 hc hu turn fun H' s' p a1 a2 a3 a4 a5=>?_
  exact ⟨_,rfl,wpAny_pure ⟨_,rfl,fin _ H' s' p a1 a2 a3 a4 a5⟩⟩
end
def z1d (X:Cx)(qual:Str)(scope:Scope)(L f:Addr)(cd:Value):Env:=
 { scope:=scope,locals:=L,globals:=mainGlobals,cells:=cellsFrom (L+1) scope.names (jh X.env.cells scope.names []),qual:=qual++".<locals>.",func:=some f,code:=cd,frame:=some L,builtins:=builtinsNs }
abbrev Cx.lam (X:Cx)(A2:Around)(s:Shared)(H:Hp)(scope:Scope)(env:Env):Cx:=
 { X with A:=A2.deeper env,s_0:=s,H_0:=H,env:=env,outer:=X.stack,stack:=env::X.stack,ex:=[],fn:=fun x=>scope.names.lookup x==some .cell,calm:=true,pn:=[],xe:=fun _ _=>False }
section
variable {X:Cx}{pins:List (Addr×Obj)}{σ:St}{H:Hp}{s:Shared}
theorem z9I {A2:Around}{qual:Str}{scope:Scope}{f:Addr}{cd:Value}{own:List (Str×Nat)}(I:Inv X pins σ H s)(ok:UH X.N X.env.scope scope own)(hN:X.N.Nodup)(hfr:A2.frames=some X.stack)(hhd:A2.handled=none) :
  Inv (X.lam A2 s H scope (z1d X qual scope s.heap.objs.size f cd)) [] (ZF σ (own.map (·.2))) H { s with heap:=pushCells (s.heap.push { cls:=.type "frame",data:=.dict #[] }) scope.names }:=by
 have hfree:∀y∈scope.names,y.2=.free→∃c,X.env.cells.lookup y.1=some c:=fun y hy e=>by
  rcases ok.free y hy e with k | k
  ·exact I.ok.has _ (.inl k)
  ·exact I.ok.has _ (.inr k)
 generalize hcenv:z1d X qual scope s.heap.objs.size f cd=cenv
 have kp:∀b o,s.heap.get? b=some o→(pushCells (s.heap.push { cls:=.type "frame",data:=.dict #[] }) scope.names).get? b=some o:=fun b o e=>pushCells_keeps _ _ _ _ (ze _ e)
 have hL:cenv.locals=s.heap.objs.size:=by rw [←hcenv];rfl
 have hcl:cenv.cells=cellsFrom (s.heap.objs.size+1) scope.names (jh X.env.cells scope.names []):=by rw [←hcenv];rfl
 have hsc:cenv.scope=scope:=by rw [←hcenv];rfl
 rw [←yN s.heap { cls:=.type "frame",data:=.dict #[] }] at hcl
 have cm:∀{y c},(y,c)∈jh X.env.cells scope.names []→X.env.cells.lookup y=some c∧c<s.heap.objs.size:=fun {y c} hm=>by
  rcases Jf hm with hm | ⟨h1,rfl⟩
  ·cases hm
  ·obtain ⟨c,hc⟩:=hfree _ h1 rfl
   rw [hc]
   obtain ⟨w,z⟩:=I.cell _ _ hc
   exact ⟨rfl,z.lt⟩
 have mem:∀{y c},cenv.cells.lookup y=some c→(X.env.cells.lookup y=some c∧c<s.heap.objs.size)∨(s.heap.objs.size+1≤c∧z8j (pushCells (s.heap.push { cls:=.type "frame",data:=.dict #[] }) scope.names) c none):=fun {y c} e=>by
  rw [hcl] at e
  rcases Jg (zM e) with hm | ⟨_,h2,h3⟩
  ·exact .inl (cm hm)
  ·rw [yN] at h2;exact .inr ⟨h2,h3⟩
 have look:∀{y},scope.names.lookup y=some .free→∃c,cenv.cells.lookup y=some c∧X.env.cells.lookup y=some c:=fun {y} hl=>by
  have hy:(y,J2)∈scope.names:=zM hl
  obtain ⟨c',e'⟩:=VV (G4 (names:=scope.names) (n:=(s.heap.push { cls:=.type "frame",data:=.dict #[] }).objs.size) (Wp (cells:=X.env.cells) (acc:=[]) hy))
  rw [←hcl] at e'
  refine ⟨c',e',?_⟩
  rw [hcl] at e'
  rcases Jg (zM e') with hm | ⟨h1,_,_⟩
  ·exact (cm hm).1
  ·have:=ok.uniq _ h1
   rw [hl] at this;cases this
 have okB:(X.lam A2 s H scope cenv).Ok:=by
  refine ⟨I.ok.mod,by show cenv.scope.kind=_;rw [hsc];exact ok.kind,by show cenv.globals=_;rw [←hcenv];rfl,by show cenv.builtins=_;rw [←hcenv];rfl,by show s.heap.objs.size≤cenv.locals;rw [hL];exact zb _,
   fun y z c e1 e2=>?_,fun y hy=>?_,fun y c z e=>?_,fun _=>hhd,z8s hfr,.inr ⟨rfl,by show cenv.frame=some cenv.locals;rw [←hcenv];rfl⟩,fun b hb=>absurd hb (by simp),I.bs,zd I.ok.bsz I.sz,fun b o e hb=>absurd hb (by simp),fun b hb=>absurd hb (by simp),I.stack,I.stkFree⟩
  ·have e1:cenv.cells.lookup y=some c:=e1
   have e2:cenv.cells.lookup z=some c:=e2
   rw [hcl] at e1 e2
   refine qt (fun p hp=>?_) (fun y z c a b=>I.ok.inj y z c (cm a).1 (cm b).1) (zM e1) (zM e2)
   rw [yN]
   exact jJ (cm (y:=p.1) (c:=p.2) hp).2
  ·show ∃c,cenv.cells.lookup y=some c
   have hy:scope.names.lookup y=some .cell∨scope.names.lookup y=some .free:=by
    rcases hy with z | z
    ·have z:cenv.scope.names.lookup y=some .cell:=z
     rw [hsc] at z;exact .inl z
    ·have z:cenv.scope.names.lookup y=some .free:=z
     rw [hsc] at z;exact .inr z
   rcases hy with e | e
   ·obtain ⟨c,hm⟩:=qu (n:=(s.heap.push { cls:=.type "frame",data:=.dict #[] }).objs.size) (acc:=jh X.env.cells scope.names []) (zM e)
    obtain ⟨c',e'⟩:=VV hm
    exact ⟨c',by rw [hcl];exact e'⟩
   ·obtain ⟨c,h1,_⟩:=look e
    exact ⟨c,h1⟩
  ·have z:(scope.names.lookup y==some WJ)=true:=z
   have z:scope.names.lookup y=some .cell:=by simpa using z
   have e:cenv.cells.lookup y=some c:=e
   rw [hcl] at e
   rcases Jg (zM e) with hm | ⟨_,h2,_⟩
   ·rcases Jf hm with hm | ⟨h1,_⟩
    ·cases hm
    ·have q:=ok.uniq _ h1
     rw [z] at q;cases q
   ·rw [yN] at h2
    exact YQ h2
 refine ⟨okB,rfl,I.bare,Un.kept kp,⟨fun _=>none,?_,fun i y av e1 e2 e3=>?_⟩,fun y c e=>?_,?_,fun y c e=>?_,fun p hp=>?_,I.hok.kept kp,by rw [V4];exact I.len⟩
 ·show Heap.Ns _ cenv.locals _
  rw [hL]
  exact Heap.Ns.keeps (Heap.Ns.new ..) fun b o e=>pushCells_keeps _ _ _ _ e
 ·obtain ⟨e2,hne⟩:=WP e2
  have hfr:scope.names.lookup y=some .free∧cenv.kindOf y=some .free:=by
   have key:∀k,cenv.scope.names.lookup y=some k→k=.local∨k=.cell∨k=.free→scope.names.lookup y=some .free∧cenv.kindOf y=some .free:=fun k hk hk'=>by
    have hk0:=hk
    rw [hsc] at hk
    have no:¬(k=.local∨k=.cell):=fun hh=>by
     rcases ok.own _ (zM hk) hh with e' | e'
     ·obtain ⟨p,hp,hpy⟩:=yr.mp e'
      have e3:=ok.ix p hp
      have:p.1=y:=hpy
      rw [this] at e3
      exact hne (yr.mpr ⟨p,hp,z0d hN e3 e1⟩)
     ·exact e' (zt e1)
    rcases hk' with rfl | rfl | rfl
    ·exact absurd (.inl rfl) no
    ·exact absurd (.inr rfl) no
    ·exact ⟨hk,hk0⟩
   have e3:Vis cenv.scope y:=e3
   rcases e3 with e3 | e3 | e3
   ·exact key _ e3 (.inl rfl)
   ·exact key _ e3 (.inr (.inl rfl))
   ·exact key _ e3 (.inr (.inr rfl))
  obtain ⟨m,hn,hl⟩:=I.loc
  have hvis:Vis X.env.scope y:=(ok.free _ (zM hfr.1) rfl).elim (fun k=>.inr (.inl k)) (fun k=>.inr (.inr k))
  obtain ⟨w,r,q⟩:=hl i y av e1 e2 hvis
  refine ⟨w,r,.inr ⟨.inr hfr.2,?_⟩⟩
  obtain ⟨c,h1,h2⟩:=look hfr.1
  rcases q with ⟨k,_⟩ | ⟨_,c',e',z⟩
  ·have k:X.env.scope.names.lookup y=some .local:=k
   rcases ok.free _ (zM hfr.1) rfl with k' | k' <;> rw [show X.env.scope.names.lookup y=_ from k'] at k <;> cases k
  ·rw [h2] at e';cases e'
   exact ⟨c,h1,z.keeps kp⟩
 ·have e:cenv.cells.lookup y=some c:=e
  rcases mem e with ⟨h1,_⟩ | ⟨_,z⟩
  ·obtain ⟨w,z⟩:=I.cell y c h1
   exact ⟨w,z.keeps kp⟩
  ·exact ⟨_,z⟩
 ·show H cenv.locals=none
  rw [hL];exact I.hok.fresh (zb _)
 ·have e:cenv.cells.lookup y=some c:=e
  rcases mem e with ⟨h1,_⟩ | ⟨h1,_⟩
  ·exact I.freeC y c h1
  ·exact I.hok.fresh (YQ h1)
 ·exact absurd (show p∈([]:List (Addr×Obj))++[] from hp) (by simp)
abbrev Uv (X:Cx)(qual:Str)(params:Arguments)(body:Expr)(scope:Scope)(c:Addr)(ct:Value):Obj:=
 PySem.W.kla_obj "<lambda>" qual params body scope (jh X.env.cells scope.names []) ((X.mg "__name__").getD .none) c ct
theorem zaP {A2:Around}{qual x:Str}{params:Arguments}{body:Expr}{scope:Scope}{own:List (Str×Nat)}{f c ix:Addr}{ct u:Value}{v:V}{te:TE}{Q:VK}(I:Inv X pins σ H s)(ok:UH X.N X.env.scope scope own)(hN:X.N.Nodup)
  (hfr:A2.frames=some X.stack) (hhd:A2.handled=none) (hroom:A2.depth<recursionLimit) (ho:s.heap.get? f=some (Uv X qual params body scope c ct)) (hcd:s.heap.CodeRec (.ref c) qual) (hco:scope.isCoroutine=false) (hgen:scope.isGenerator=false)
  (hb:∀fd:FuncData,fd.params=params→fd.defaults=.none→fd.kwdefaults=.none→bindArgs fd ⟨[u],[]⟩=pure [(x,u)]) (hix:X.N[ix]?=some x) (hx:scope.names.lookup x=some .cell) (r:jW v u)
  (he:∀env,env=z1d X qual scope s.heap.objs.size f (.ref c)→PE (X.lam A2 s H scope env) body te) (ht:te ((ZF σ (own.map (·.2))).set ix (some v)) H Q) :
  wpAny (model X.prog X.w) A2 (call (.ref f) [u]) (EP X pins σ Q) (fun _ _=>False) s:=by
 have I1:=z9I (A2:=A2) (qual:=qual) (f:=f) (cd:=.ref c) I ok hN hfr hhd
 have lim:s.heap.NoLimit:=I.nolimit
 refine wpAny_call (PySem.W.kla_callFunE hroom ho rfl hco hgen rfl hcd ?_)
 rw [hb _ rfl rfl rfl]
 refine wpAny_pure ?_
 show wpAny _ _ (newFunctionEnv scope mainGlobals (jh X.env.cells scope.names []) [(x,u)] (qual++".<locals>.") (some f) (.ref c) none builtinsNs) _ _ s
 simp only [newFunctionEnv,Option.isSome_none,j9,if_false]
 refine wpAny_bind (wpAny_alloc ?_)
 refine wpAny_bind (wpAny_layCells _ (fun n k c=>by cases hkc:k==WJ <;> simp [hkc]) scope.names _ _ _ ?_)
 rw [show ({ s with heap:=s.heap.push { cls:=.type "frame",data:=.dict #[] } }:Shared).heap.objs.size=s.heap.objs.size+1 from yN ..]
 simp only [List.forIn_cons,z5k]
 have fn:(X.lam A2 s H scope (z1d X qual scope s.heap.objs.size f (.ref c))).fn x=true:=by show (scope.names.lookup x==some .cell)=true;rw [hx];rfl
 refine wpAny_bind (wpAny_bind (wpAny_bind (QT (X:=X.lam A2 s H scope (z1d X qual scope s.heap.objs.size f (.ref c))) (v:=v) I1 hN hix (.inr hx) r (fun s' I2=>?_) (.inl fn))))
 refine wpAny_pure (wpAny_pure (wpAny_pure ⟨?_,?_⟩))
 ·exact I2.nolimit
 ·refine PySem.W.kla_codeExpr (wpAny_mono (he _ rfl [] s' _ H Q I2 ht) (fun w s2 hq=>?_) fun _ _ z=>z.elim)
  obtain ⟨y,H2,I3,ry,q⟩:=hq
  refine ⟨y,H2,?_,ry,q⟩
  exact I.call' (ch:=[]) I3.os I3.base I3.hok I3.bare fun b z=>nomatch z
end
def lamO (f:Addr)(o:Obj):HO:=.ext fun h=>h.get? f=some o
def z3Z (c:Addr)(qual:Str):HO:=.ext fun h=>∃o vs t,h.get? c=some o∧o.data=.fields vs∧vs[1]?=some (.str qual t)
def Yv (H:Hp)(P:Addr)(pos:Pos)(qual:Str):Prop:=∃ps,H P=some (.tbl ps)∧(ps=#[]∨∃c,ps=#[rawInt pos.line,rawInt pos.col,.ref c]∧H c=some (z3Z c qual))
def Wq (P:Addr)(H H':Hp):Prop:=∀b o,H b=some o→b≠P→H' b=some o
theorem Wq.trans {P:Addr}{H H1 H2:Hp}(a:Wq P H H1)(b:Wq P H1 H2):Wq P H H2:=fun c o e n=>b c o (a c o e n) n
theorem W5.x {P:Addr}{H H':Hp}(a:W5 H H'):Wq P H H':=fun b o e _=>a b o e
theorem Yv.same {P:Addr}{H H':Hp}{pos:Pos}{qual:Str}(t:Yv H P pos qual)(a:W5 H H'):Yv H' P pos qual:=by
 obtain ⟨ps,e,h⟩:=t
 refine ⟨ps,a _ _ e,?_⟩
 rcases h with h | ⟨c,h1,h2⟩
 ·exact .inl h
 ·exact .inr ⟨c,h1,a _ _ h2⟩
theorem Wq.seq {K:z4}{P:Addr}{H H':Hp}{a:Addr}{xs:List V}{ps:Array Value}(e:Wq P H H')(hP:H P=some (.tbl ps))(h:SqL K H a xs):SqL K H' a xs:=by
 rcases h with (h | ⟨o,h⟩) | h
 ·exact .inl (.inl (e _ _ h (Zg h hP (by intro q;cases q))))
 ·exact .inl (.inr ⟨o,e _ _ h (Zg h hP (by intro q;cases q))⟩)
 ·exact .inr h
def tLam (X:Cx)(P:Addr)(qual:Str)(params:Arguments)(body:Expr)(scope:Scope)(pos:Pos):TE:=fun σ H Q=>Yv H P pos qual∧
 ∀f c ct H',Wq P H H'→Yv H' P pos qual→H f=none→H' f=some (lamO f (Uv X qual params body scope c ct))→H' c=some (z3Z c qual)→Q (.ref f) H'
section
variable {X:Cx}{pins:List (Addr×Obj)}{σ:St}{H:Hp}{s:Shared}{P c0:Addr}{qual:Str}{params:Arguments}{body:Expr}{scope:Scope}{pos:Pos}
theorem Inv.tblGrown {ps more:Array Value}{h':Heap}{t':Nat}(I:Inv X pins σ H s)(hP:H P=some (.tbl ps))(hx:Heap.ExtBut P s.heap h')(hp:h'.get? P=some { cls:=.none,data:=.fields (ps++more) }) :
  Inv X pins σ (upd H P (.tbl (ps++more))) { s with heap:=h',toks:=t' }:=by
 have neP:∀b u,H b=some u→(∀qs,u≠.tbl qs)→b≠P:=fun b u e n z=>by rw [z,hP] at e;cases e;exact n _ rfl
 have nn:∀b,H b=none→b≠P:=fun b e z=>by rw [z,hP] at e;cases e
 refine I.un ⟨fun b o e n _ _=>hx b o (nn b n) e,fun b o e n _ _=>⟨o.slots,hx b o (nn b n) e⟩,fun b o e n _=>by rw [zl (nn b n)];exact n,fun b o e _=>?_,fun b xs e=>by rw [zl (neP b _ e (by intro _ q;cases q))];exact e,
  fun b o u e=>by rw [zl (neP b _ e (by intro _ q;cases q))];exact e,fun b qs e=>?_⟩ fun b u e=>?_
 ·by_cases z:b=P
  ·exact ⟨_,by rw [z];exact hp⟩
  ·exact ⟨o,hx b o z e⟩
 ·by_cases z:b=P
  ·rw [z,hP] at e;cases e
   exact ⟨more,by rw [z,z5]⟩
  ·exact ⟨#[],by rw [zl z,e];simp⟩
 ·by_cases z:b=P
  ·subst z;rw [z5] at e;cases e;exact hp
  ·rw [zl z] at e
   refine (I.hok b u e).stay (fun c v hc q=>hx c v ?_ q) (fun c q=>by rw [zl (neP c _ q (by intro _ w;cases w))];exact q) fun c xs q=>by rw [zl (neP c _ q (by intro _ w;cases w))];exact q
   rcases hc with w | w
   ·rw [w];exact z
   ·exact neP c _ w (by intro _ v;cases v)
theorem z8M {Pm:Program}{w:World}{H':Hp}{h:Heap}{f:Addr}{o:Obj}(e:h.get? f=some o):YS Pm w H' h f (lamO f o):=⟨e,⟨o,e⟩,fun _ _ a k=>k _ a⟩
theorem zb7 {Pm:Program}{w:World}{H':Hp}{h:Heap}{c:Addr}(e:h.CodeRec (.ref c) qual):YS Pm w H' h c (z3Z c qual):=by
 obtain ⟨c',o,vs,t,e1,e2,e3,e4⟩:=e
 cases e1
 exact ⟨⟨o,vs,t,e2,e3,e4⟩,⟨o,e2⟩,fun _ _ ⟨o',vs',t',a1,a2,a3⟩ k=>⟨o',vs',t',k _ a1,a2,a3⟩⟩
theorem z9T {Pm:Program}{w:World}{H':Hp}{h:Heap}{c:Addr}(ok:YS Pm w H' h c (z3Z c qual)):h.CodeRec (.ref c) qual:=by
 obtain ⟨⟨o,vs,t,a1,a2,a3⟩,_⟩:=ok
 exact ⟨c,o,vs,t,rfl,a1,a2,a3⟩
theorem pe_lam {own:List (Str×Nat)}(ok:UH X.N X.env.scope scope own)(hcode:X.env.code=.ref c0)(hC:∀h,X.K.In h→qC h c0 P)(hB:X.base.BuiltinsAt X.mg P)(hdef:defaultsOf params X.env=([],[]))(hq:X.env.qual++"<lambda>"=qual) :
  PE X (.Lambda params body scope pos) (tLam X P qual params body scope pos):=by
 rintro pins s σ H Q I ⟨⟨ps,hP,alt⟩,k⟩
 have hfree:∀y∈scope.names,y.2=.free→∃c,X.env.cells.lookup y.1=some c:=fun y hy e=>by
  rcases ok.free y hy e with k | k
  ·exact I.ok.has _ (.inl k)
  ·exact I.ok.has _ (.inr k)
 have hcl:=QB hfree
 have hPh:s.heap.get? P=some (PySem.W.tabObj ps):=I.hok P _ hP
 have hg:s.heap.Ns mainGlobals X.mg:=I.mod.glob.keeps I.bk
 have hgP:mainGlobals≠P:=fun z=>by
  obtain ⟨o,es,ep,e,_⟩:=I.mod.glob
  have:=(I.bs _ _ e).2
  rw [z,hP] at this;cases this
 have hb:s.heap.BuiltinsAt X.mg P:=by
  obtain ⟨bm,o,b1,b2,b3,b4,b5,b6⟩:=hB
  exact ⟨bm,o,b1,b2,b3,b4,I.bk _ _ b5,b6⟩
 refine PySem.W.kla_eval hdef ?_
 rw [hq]
 rcases alt with rfl | ⟨c,rfl,hc⟩
 ·refine PySem.W.kla_makeFunction (mg:=X.mg) hcl I.ok.glob hg hcode (hC _ I.kIn) hPh trivial rfl hgP hb fun c' ctv h' tk hx hge hlt hrec htb=>?_
  have I1:=I.tblGrown (more:=#[rawInt pos.line,rawInt pos.col,.ref c']) (t':=tk) hP hx htb
  have nc:H c'=none:=I.hok.fresh hge
  have cP:c'≠P:=fun z=>by rw [z,hP] at nc;cases nc
  have nc1:upd H P (.tbl (#[]++#[rawInt pos.line,rawInt pos.col,.ref c'])) c'=none:=by rw [zl cP];exact nc
  have I2:=I1.adopt (D:=c') (u:=z3Z c' qual) (I.fpOk hge nc1) (zb7 hrec)
  have I3:=I2.laid (h':=h'.push (Uv X qual params body scope c' ctv)) (a:=h'.objs.size) (o:=lamO h'.objs.size (Uv X qual params body scope c' ctv)) (t':=tk) (fun b u e=>ze _ e) (zb _) (z8M (yd _ rfl))
  have nf:H h'.objs.size=none:=I.hok.fresh (zd hge (J8 hlt))
  have fP:P≠h'.objs.size:=fun z=>by rw [←z,hP] at nf;cases nf
  have cf:c'≠h'.objs.size:=yF hlt
  refine ⟨.ref h'.objs.size,_,I3,rfl,k _ c' ctv _ (fun b o e n=>?_) ⟨#[]++#[rawInt pos.line,rawInt pos.col,.ref c'],?_,.inr ⟨c',rfl,?_⟩⟩ nf z5 ?_⟩
  ·rw [zl (zT e nf),zl (zT e nc),zl n];exact e
  ·rw [zl fP,zl (j1 cP),z5]
  ·rw [zl cf,z5]
  ·rw [zl cf,z5]
 ·have hit:codeAmong pos (#[rawInt pos.line,rawInt pos.col,.ref c]:Array Value).toList=some (.ref c):=by simp [codeAmong,rawInt]
  refine PySem.W.kla_makeFunctionHit (mg:=X.mg) hcl I.ok.glob hg hcode (hC _ I.kIn) hPh trivial hit hb fun ctv h' tk hk hsz=>?_
  have I1:Inv X pins σ H { s with heap:=h',toks:=tk }:=I.kept (t':=tk) hk
  have I3:=I1.laid (h':=h'.push (Uv X qual params body scope c ctv)) (a:=h'.objs.size) (o:=lamO h'.objs.size (Uv X qual params body scope c ctv)) (t':=tk) (fun b u e=>ze _ e) (zb _) (z8M (yd _ rfl))
  have nf:H h'.objs.size=none:=I.hok.fresh hsz
  refine ⟨.ref h'.objs.size,_,I3,rfl,k _ c ctv _ (fun b o e n=>?_) ⟨_,?_,.inr ⟨c,rfl,?_⟩⟩ nf z5 ?_⟩
  ·rw [zl (zT e nf)];exact e
  ·rw [zl (zT hP nf)];exact hP
  ·rw [zl (zT hc nf)];exact hc
  ·rw [zl (zT hc nf)];exact hc
def tSortL (K:z4)(P:Addr)(qual:Str)(pos:Pos)(own:List (Str×Nat))(ix:Nat)(tl tb:TE):TE:=fun σ H Q=>tl σ H fun x H1=>Yv H1 P pos qual∧
 ∃(l:Addr) (xs:List V) (keys:List (List Int)) (n:Nat),x=.ref l∧SqL K H1 l xs∧keys.length=xs.length∧xs.length<64∧(∀k∈keys,k.length=n)∧
  (∀(H2:Hp) (i:Nat) (x:V) (key:List Int),Wq P H1 H2→xs[i]?=some x→keys[i]?=some key→tb ((ZF σ (own.map (·.2))).set ix (some x)) H2 fun v H3=>∃p,v=.ref p∧W5 H2 H3∧H3 p=some (.lst (key.map V.int)))∧
  ∀D H2 (p:Array Nat),Wq P H1 H2→Yv H2 P pos qual→H2 D=none→p.toList.Perm (zf xs.length)→(∀i j,i<j→j<xs.length→KP.Bf (klt keys) (KP.g p i) (KP.g p j))→Q (.ref D) (upd H2 D (.lst (p.toList.map fun i=>xs.getD i .non)))
theorem zat {own : List (Str × Nat)} {ix k : Nat} {x : Str} {e : Expr} {tl tb : TE} {p lpos kpos : Pos} (hr : Yu k X.A) (hcalm : X.calm = true) (hN : X.N.Nodup) (ok : UH X.N X.env.scope scope own) (hcode : X.env.code = .ref c0) (hC : ∀ h, X.K.In h → qC h c0 P) (hB : X.base.BuiltinsAt X.mg P) (hdef : defaultsOf params X.env = ([], []))
    (hq : X.env.qual ++ "<lambda>" = qual) (hg : Gl X "sorted") (hm : X.mg "sorted" = none) (hl : PE X e tl) (hco : scope.isCoroutine = false) (hgen : scope.isGenerator = false)
    (hb : ∀ (u : Value) (fd : FuncData), fd.params = params → fd.defaults = .none → fd.kwdefaults = .none → bindArgs fd ⟨[u], []⟩ = pure [(x, u)]) (hix : X.N[ix]? = some x) (hx : scope.names.lookup x = some .cell)
    (hbody : ∀ (s : Shared) (H : Hp) (f c : Addr), PE (X.lam X.A.in1.in1 s H scope (z1d X qual scope s.heap.objs.size f (.ref c))) body tb)
    (he : starEach [e] X.env = [(false, eval e X.env)] := by rfl) :
    PE X (.Call (.Name "sorted" p) [e] [⟨some "key", .Lambda params body scope lpos, kpos⟩] pos) (tSortL X.K P qual lpos own ix tl tb) := by
  intro pins s σ H Q I h
  refine wpAny_Call_Name_kw (VW I hg hm boot_sorted ?_ (by decide) (by decide))
  have hkwl : backToKw pos (keywordEach [⟨some "key", .Lambda params body scope lpos, kpos⟩] X.env) = [(some ("key" : Str), do let v ← eval (.Lambda params body scope lpos) X.env; standAt pos; pure v)] := rfl
  obtain ⟨y, hargs⟩ : ∃ y, backTo pos (starEach [e] X.env) = [(false, y)] := by rw [he]; exact ⟨_, rfl⟩
  have pa := (z3 hl z7 he) pos pins s σ H (fun vs H1 => match vs with
    | [x] => Yv H1 P lpos qual ∧ ∃ (l : Addr) (xs : List V) (keys : List (List Int)) (n : Nat), x = .ref l ∧ SqL X.K H1 l xs ∧ keys.length = xs.length ∧ xs.length < 64 ∧ (∀ k ∈ keys, k.length = n) ∧
      (∀ (H2 : Hp) (i : Nat) (x : V) (key : List Int), Wq P H1 H2 → xs[i]? = some x → keys[i]? = some key → tb ((ZF σ (own.map (·.2))).set ix (some x)) H2 fun v H3 => ∃ p, v = .ref p ∧ W5 H2 H3 ∧ H3 p = some (.lst (key.map V.int))) ∧
      ∀ D H2 (p : Array Nat), Wq P H1 H2 → Yv H2 P lpos qual → H2 D = none → p.toList.Perm (zf xs.length) → (∀ i j, i < j → j < xs.length → KP.Bf (klt keys) (KP.g p i) (KP.g p j)) → Q (.ref D) (upd H2 D (.lst (p.toList.map fun i => xs.getD i .non)))
    | _ => False) I h
  refine callWith_builtin_kwB (by rw [hargs]; rfl) (by rw [hkwl]; rfl) ?_
  rw [hargs] at pa ⊢
  refine evalArgs_kwB (by rw [hkwl]; rfl) (thn pa fun us s1 ⟨vs, H1, I1, r1, q1⟩ => ?_)
  match vs, r1, q1 with
  | [], _, q1 => exact q1.elim
  | _ :: _ :: _, _, q1 => exact q1.elim
  | [x0], r1, ⟨tab, l, xs, keys, n, ex, hS, hlen, h64, hn, hturn, hfin⟩ =>
    subst ex
    obtain ⟨u0, rfl, ru⟩ := z2e r1
    have ru : u0 = .ref l := ru
    subst ru
    have pk := (z8F (kpos := kpos) (nm := some "key") (pe_lam (X := X) (pos := lpos) (body := body) ok hcode hC hB hdef hq) zas) pos pins s1 σ H1 (fun zs H2 => ∃ f c ct, zs = [.ref f] ∧ Wq P H1 H2 ∧ Yv H2 P lpos qual ∧ H2 f = some (lamO f (Uv X qual params body scope c ct)) ∧ H2 c = some (z3Z c qual)) I1
      ⟨tab, fun f c ct H' a1 a2 a3 a4 a5 => ⟨f, c, ct, rfl, a1, a2, a4, a5⟩⟩
    refine thn pk fun ws s2 ⟨zs, H2, I2, rz, f, c, ct, ez, sx, tab2, hf, hc⟩ => ?_
    subst ez
    obtain ⟨w0, rfl, rw0⟩ := z2e rz
    have rw0 : w0 = .ref f := rw0
    subst rw0
    show wpAny _ _ (call (.builtin "sorted") [.ref l] [(YB "key", .ref f)]) _ _ s2
    obtain ⟨ps, hPs, _⟩ := tab
    have un := hr.un
    have dp := hr.dp
    refine z4i I2 (sx.seq hPs hS) hlen h64 hn (by show X.A.units + 1 + 1 < cLine; omega) (fun i x key u H3 s3 pins3 hxi hki I3 sm rel => ?_) fun D H3 s3 p a1 a2 a3 a4 a5 => ?_
    · have ho : s3.heap.get? f = some (Uv X qual params body scope c ct) := (I3.hok f _ (sm _ _ hf)).1
      have hcr := z9T (I3.hok c _ (sm _ _ hc))
      refine wpAny_mono (zaP (A2 := X.A.in1.in1) I3 ok hN I3.ok.frames (I3.ok.hd hcalm) (by show X.A.depth < recursionLimit; omega) ho hcr hco hgen (hb u) hix hx rel (fun env e => by subst e; exact hbody s3 H3 f c) (hturn H3 i x key (sx.trans sm.x) hxi hki)) (fun k s4 hq => ?_) fun _ _ z => z
      obtain ⟨v, H4, I4, rv, pp, ev, sm4, h4⟩ := hq
      subst ev
      exact ⟨pp, H4, rv, I4, sm4, h4⟩
    · exact ⟨.ref D, _, a1, rfl, hfin D H3 p (sx.trans a2.x) (tab2.same a2) a3 a4 a5⟩
end
end L2
section
namespace L2
open PySem PySem.Spec PyProof.Rows
open PySem.W (WData Codec OpenSpec Well WellAll ReadsW ReadsAllW)
mutual
inductive Dw (K:z4)(H:Hp):V→WData→Prop
 | non:Dw K H .non .none
 | bl (b:Bool):Dw K H (.bl b) (.bool b)
 | int (i:Int):Dw K H (.int i) (.int i)
 | str (x:Str):Dw K H (.str x) (.str x)
 | byt (b:Array UInt8):Dw K H (.byt b) (.bytes b.toList)
 | lst {a:Addr} {xs:List V} {ds:List WData}:SqL K H a xs→JF K H xs ds→Dw K H (.ref a) (.list ds)
 | tup {a:Addr} {xs:List V} {ds:List WData}:SqT K H a xs→JF K H xs ds→Dw K H (.ref a) (.tuple ds)
inductive JF (K:z4)(H:Hp):List V→List WData→Prop
 | nil:JF K H [] []
 | cons {v:V} {vs:List V} {d:WData} {ds:List WData}:Dw K H v d→JF K H vs ds→JF K H (v::vs) (d::ds)
end
theorem z8R {K:z4}{H:Hp}:∀ns:List Int,JF K H (ns.map V.int) (ns.map WData.int)
 | []=>.nil
 | n::r=>.cons (.int n) (z8R r)
theorem z8N {K:z4}{H:Hp}:∀(ns:List Int) (xs:List V),JF K H xs (ns.map WData.int)→xs=ns.map V.int
 | [],xs,h=>by
  cases h
  rfl
 | n::r,xs,h=>by
  cases h with
  | cons h1 h2=>
   cases h1
   rw [z8N r _ h2] <;> rfl
section
variable {P:Program}{w:World}{K:z4}{H:Hp}{h:Heap}{R:PySem.W.WRecords}{cl:Str→Option Addr}
theorem sqL_at {a:Addr}{xs:List V}(hok:HOk P w H h)(KX:K.In h)(q:SqL K H a xs):∃(its:List Value) (o:Obj) (n:Nat),yO xs its∧h.get? a=some o∧o.cls=.type "list"∧o.data=.seq its.toArray n:=by
 rcases q with q | ⟨o,its,n,e,hc,_,hd,_,hv⟩
 ·obtain ⟨_,its,n,hv,e⟩:=(show YS P w H h a (.lst xs) from q.ok hok)
  exact ⟨its,_,n,hv,e,rfl,rfl⟩
 ·exact ⟨its.toList,o,n,hv,KX _ _ e,hc,by simp [hd]⟩
theorem sqT_at {a:Addr}{xs:List V}(hok:HOk P w H h)(KX:K.In h)(q:SqT K H a xs):∃(its:List Value) (o:Obj) (n:Nat),yO xs its∧h.get? a=some o∧o.cls=.type "tuple"∧o.data=.seq its.toArray n:=by
 rcases q with q | ⟨o,its,n,e,hc,hd,_,hv⟩
 ·obtain ⟨_,its,hv,o,e,hc,n,hd⟩:=(show YS P w H h a (.tup xs) from q.ok hok)
  exact ⟨its,o,n,hv,e,hc,hd⟩
 ·exact ⟨its.toList,o,n,hv,KX _ _ e,hc,by simp [hd]⟩
mutual
theorem Dw.reads (hok:HOk P w H h)(KX:K.In h):∀(d:WData) (v:V) (u:Value),Dw K H v d→jW v u→∃as,ReadsW R cl h u d as
 | .none,_,_,x,r=>by
  cases x
  cases r
  exact ⟨_,ReadsW.none⟩
 | .bool b,_,_,x,r=>by
  cases x
  cases r
  exact ⟨_,ReadsW.bool b⟩
 | .int i,_,_,x,r=>by
  cases x
  obtain ⟨t,rfl⟩:=r
  exact ⟨_,ReadsW.int i t⟩
 | .str s,_,_,x,r=>by
  cases x
  obtain ⟨t,rfl⟩:=r
  exact ⟨_,ReadsW.str s t⟩
 | .bytes b,_,_,x,r=>by
  cases x
  obtain ⟨t,rfl⟩:=r
  exact ⟨_,ReadsW.bytes _ t⟩
 | .list ds,_,_,x,r=>by
  cases x with
  | lst hs ha=>
   cases r
   obtain ⟨its,o,n,rv,ho,hc,hd⟩:=sqL_at hok KX hs
   obtain ⟨as,hr⟩:=Dw.readsAll hok KX ds _ its ha rv
   exact ⟨_,ReadsW.list ho hc hd hr⟩
 | .tuple ds,_,_,x,r=>by
  cases x with
  | tup hs ha=>
   cases r
   obtain ⟨its,o,n,rv,ho,hc,hd⟩:=sqT_at hok KX hs
   obtain ⟨as,hr⟩:=Dw.readsAll hok KX ds _ its ha rv
   exact ⟨_,ReadsW.tuple ho hc hd hr⟩
 | .float _,_,_,x,_=>by cases x
 | .dict _,_,_,x,_=>by cases x
 | .bytearray _,_,_,x,_=>by cases x
 | .set _,_,_,x,_=>by cases x
 | .frozenset _,_,_,x,_=>by cases x
 | .obj _ _,_,_,x,_=>by cases x
theorem Dw.readsAll (hok:HOk P w H h)(KX:K.In h):∀(ds:List WData) (vs:List V) (us:List Value),JF K H vs ds→yO vs us→∃as,ReadsAllW R cl h us ds as
 | [],_,_,x,r=>by
  cases x
  cases r
  exact ⟨_,ReadsAllW.nil⟩
 | d::ds,_,_,x,r=>by
  cases x with
  | cons h1 h2=>
   cases r with
   | cons r1 r2=>
    obtain ⟨as,q1⟩:=Dw.reads hok KX d _ _ h1 r1
    obtain ⟨bs,q2⟩:=Dw.readsAll hok KX ds _ _ h2 r2
    exact ⟨_,ReadsAllW.cons q1 q2⟩
end
end
mutual
def plW:WData→Bool
 | .none=>true
 | .bool _=>true
 | .int _=>true
 | .str _=>true
 | .bytes _=>true
 | .list xs=>z1E xs
 | .tuple xs=>z1E xs
 | _=>false
def z1E:List WData→Bool
 | []=>true
 | x::r=>plW x&&z1E r
end
theorem z5X {α:Type}{f:α→WData}(h:∀a,plW (f a)=true):∀l:List α,z1E (l.map f)=true
 | []=>rfl
 | x::r=>by
  show (plW (f x)&&z1E (r.map f))=true
  rw [h x,z5X h r] <;> rfl
theorem Ul:∀(c:Codec) (a:c.denote),plW (c.enc a)=true
 | .unit,_=>rfl
 | .bool,_=>rfl
 | .int _ _,_=>rfl
 | .nat _ _,_=>rfl
 | .u8,_=>rfl
 | .bytes _ _,_=>rfl
 | .text _ _ _ _,_=>rfl
 | .list _ _ c,a=>z5X (fun x=>Ul c x) a
 | .pair c d,a=>by
  show (plW (c.enc a.1)&&(plW (d.enc a.2)&&true))=true
  rw [Ul c a.1,Ul d a.2] <;> rfl
 | .triple c d e,a=>by
  show (plW (c.enc a.1)&&(plW (d.enc a.2.1)&&(plW (e.enc a.2.2)&&true)))=true
  rw [Ul c a.1,Ul d a.2.1,Ul e a.2.2] <;> rfl
 | .option c,none=>rfl
 | .option c,some x=>Ul c x
theorem z3N:∀(cs:List Codec) (a:UM cs),z1E (W4 cs a)=true
 | [],_=>rfl
 | c::cs,a=>by
  show (plW (c.enc a.1)&&z1E (W4 cs a.2))=true
  rw [Ul c a.1,z3N cs a.2] <;> rfl
theorem qX:∀{xs:List WData}{d:WData},d∈xs→d.weight≤UI xs
 | [],d,h=>absurd h (by simp)
 | x::r,d,h=>by
  show d.weight≤x.weight+1+UI r
  rcases zx.mp h with e | m
  ·rw [e]
   omega
  ·have z:=qX m
   omega
def toV:Value→V
 | .none=>.non
 | .bool b=>.bl b
 | .int i _=>.int i
 | .str x _=>.str x
 | .bytes b _=>.byt b
 | .ref a=>.ref a
 | _=>.non
def OkU (A:List Addr):Value→Prop
 | .none=>True
 | .bool _=>True
 | .int _ _=>True
 | .str _ _=>True
 | .bytes _ _=>True
 | .ref a=>a∈A
 | _=>False
theorem OkU.mono {A B:List Addr}(h:∀a∈A,a∈B):∀{u:Value},OkU A u→OkU B u:=fun {u} x=>by
 cases u with
 | ref a=>exact h a x
 | none=>trivial
 | bool b=>trivial
 | int i t=>trivial
 | str s t=>trivial
 | bytes b t=>trivial
 | _=>exact Z0 x
theorem zan {A:List Addr}{u:Value}(x:OkU A u):jW (toV u) u:=by
 cases u with
 | ref a=>rfl
 | none=>rfl
 | bool b=>rfl
 | int i t=>exact ⟨t,rfl⟩
 | str s t=>exact ⟨t,rfl⟩
 | bytes b t=>exact ⟨t,rfl⟩
 | _=>exact Z0 x
theorem WQ {A:List Addr}:∀{vs:List Value},(∀u∈vs,OkU A u)→yO (vs.map toV) vs
 | [],_=>.nil
 | u::r,h=>.cons (zan (h u (zn ..))) (WQ fun x hx=>h x (zg _ hx))
def GU (h:Heap)(A:List Addr)(a:Addr):Prop:=∃vs:List Value,vs.length≤sizeLine∧(∀u∈vs,OkU A u)∧
 (h.get? a=some { cls:=.type "list",data:=.seq vs.toArray }∨h.get? a=some { cls:=.type "tuple",data:=.seq vs.toArray })
theorem GU.mono {h:Heap}{A B:List Addr}{a:Addr}(k:∀a∈A,a∈B)(x:GU h A a):GU h B a:=by
 obtain ⟨vs,h1,h2,h3⟩:=x
 exact ⟨vs,h1,fun u hu=>(h2 u hu).mono k,h3⟩
theorem W8 {P:Params}{h:Heap}:∀{vs:List Value}{ds:List WData},WellAll P h vs ds→vs.length=ds.length
 | _,_,.nil=>rfl
 | _,_,.cons _ b=>by
  show _+1=_+1
  rw [W8 b]
theorem z3D {P:Params}{h:Heap}{v:Value}{ds:List WData}(x:Well P h v (.list ds)):∃(a:Addr) (vs:List Value),v=.ref a∧h.get? a=some { cls:=.type "list",data:=.seq vs.toArray }∧WellAll P h vs ds:=by
 cases x with
 | list ho hall=>exact ⟨_,_,rfl,ho,hall⟩
theorem z2d {P:Params}{h:Heap}{v:Value}{ds:List WData}(x:Well P h v (.tuple ds)):∃(a:Addr) (vs:List Value),v=.ref a∧h.get? a=some { cls:=.type "tuple",data:=.seq vs.toArray }∧WellAll P h vs ds:=by
 cases x with
 | tuple ho hall=>exact ⟨_,_,rfl,ho,hall⟩
theorem z3E {P:Params}{h:Heap}{us:List Value}{d:WData}{ds:List WData}(x:WellAll P h us (d::ds)):∃(v:Value) (vs:List Value),us=v::vs∧Well P h v d∧WellAll P h vs ds:=by
 cases x with
 | cons a b=>exact ⟨_,_,rfl,a,b⟩
theorem z8J {n:Nat}(h:n≤1048576):n≤sizeLine:=zd h (by decide)
section
variable {P:Params}{h:Heap}
mutual
theorem zbc:∀(d:WData) (v:Value),Well P h v d→plW d=true→d.weight≤1048576→∃A:List Addr,OkU A v∧∀a∈A,GU h A a
 | .none,_,x,_,_=>by
  cases x
  exact ⟨[],trivial,fun a m=>absurd m (by simp)⟩
 | .bool b,_,x,_,_=>by
  cases x
  exact ⟨[],trivial,fun a m=>absurd m (by simp)⟩
 | .int i,_,x,_,_=>by
  cases x
  exact ⟨[],trivial,fun a m=>absurd m (by simp)⟩
 | .str s,_,x,_,_=>by
  cases x
  exact ⟨[],trivial,fun a m=>absurd m (by simp)⟩
 | .bytes b,_,x,_,_=>by
  cases x
  exact ⟨[],trivial,fun a m=>absurd m (by simp)⟩
 | .list ds,_,x,p,z=>by
  obtain ⟨a,vs,rfl,ho,hall⟩:=z3D x
  have z2:UI ds≤1048576:=z
  obtain ⟨A,h1,h2⟩:=z0q ds _ hall p fun d hd=>zd (qX hd) z2
  have k:∀b∈A,b∈a::A:=fun b hb=>zg _ hb
  refine ⟨a::A,zn ..,fun b hb=>?_⟩
  rcases zx.mp hb with e | m
  ·rw [e]
   exact ⟨vs,z8J (by rw [W8 hall];exact zd (z26 ds) z2),fun u hu=>(h1 u hu).mono k,.inl ho⟩
  ·exact (h2 b m).mono k
 | .tuple ds,_,x,p,z=>by
  obtain ⟨a,vs,rfl,ho,hall⟩:=z2d x
  have z2:UI ds≤1048576:=z
  obtain ⟨A,h1,h2⟩:=z0q ds _ hall p fun d hd=>zd (qX hd) z2
  have k:∀b∈A,b∈a::A:=fun b hb=>zg _ hb
  refine ⟨a::A,zn ..,fun b hb=>?_⟩
  rcases zx.mp hb with e | m
  ·rw [e]
   exact ⟨vs,z8J (by rw [W8 hall];exact zd (z26 ds) z2),fun u hu=>(h1 u hu).mono k,.inr ho⟩
  ·exact (h2 b m).mono k
 | .float _,_,_,p,_=>j5 (show false=true from p)
 | .dict _,_,_,p,_=>j5 (show false=true from p)
 | .bytearray _,_,_,p,_=>j5 (show false=true from p)
 | .set _,_,_,p,_=>j5 (show false=true from p)
 | .frozenset _,_,_,p,_=>j5 (show false=true from p)
 | .obj _ _,_,_,p,_=>j5 (show false=true from p)
theorem z0q:∀(ds:List WData) (vs:List Value),WellAll P h vs ds→z1E ds=true→(∀d∈ds,d.weight≤1048576)→∃A:List Addr,(∀u∈vs,OkU A u)∧∀a∈A,GU h A a
 | [],_,x,_,_=>by
  cases x
  exact ⟨[],fun u m=>absurd m (by simp),fun a m=>absurd m (by simp)⟩
 | d::ds,_,x,p,z=>by
  obtain ⟨v,vs,rfl,x1,x2⟩:=z3E x
  have q:plW d=true∧z1E ds=true:=QK.mp p
  obtain ⟨A,a1,a2⟩:=zbc d v x1 q.1 (z d (zn ..))
  obtain ⟨B,b1,b2⟩:=z0q ds vs x2 q.2 fun e he=>z e (zg _ he)
  have kA:∀b∈A,b∈A++B:=fun b hb=>zQ.mpr (.inl hb)
  have kB:∀b∈B,b∈A++B:=fun b hb=>zQ.mpr (.inr hb)
  refine ⟨A++B,fun u hu=>?_,fun b hb=>?_⟩
  ·rcases zx.mp hu with e | m
   ·rw [e]
    exact a1.mono kA
   ·exact (b1 u m).mono kB
  ·rcases zQ.mp hb with m | m
   ·exact (a2 b m).mono kA
   ·exact (b2 b m).mono kB
end
end
def hoOf (o:Obj):Option HO:=match o.data with
 | .seq vs _=>if (o.cls==Yr "list")=true then some (.frz o (.lst (vs.toList.map toV))) else some (.frz o (.tup (vs.toList.map toV)))
 | _=>none
def G6 (K:z4)(h:Heap)(A:List Addr):Hp:=fun b=>if b∈A then (if (K.lookup b).isNone=true then (h.get? b).bind hoOf else none) else none
def OnlyF (H:Hp):Prop:=∀b,H b=none∨∃o u,H b=some (.frz o u)
theorem z6q (vs:List Value):hoOf { cls:=.type "list",data:=.seq vs.toArray }=some (.frz { cls:=.type "list",data:=.seq vs.toArray } (.lst (vs.map toV))):=by
 show (if (Yr "list"==Yr "list")=true then some (HO.frz { cls:=.type "list",data:=.seq vs.toArray } (.lst (vs.toArray.toList.map toV))) else some (HO.frz { cls:=.type "list",data:=.seq vs.toArray } (.tup (vs.toArray.toList.map toV))))=_
 rw [if_pos (beq_self_eq_true _)]
theorem z6p (vs:List Value):hoOf { cls:=.type "tuple",data:=.seq vs.toArray }=some (.frz { cls:=.type "tuple",data:=.seq vs.toArray } (.tup (vs.map toV))):=by
 show (if (Yr "tuple"==Yr "list")=true then some (HO.frz { cls:=.type "tuple",data:=.seq vs.toArray } (.lst (vs.toArray.toList.map toV))) else some (HO.frz { cls:=.type "tuple",data:=.seq vs.toArray } (.tup (vs.toArray.toList.map toV))))=_
 rw [if_neg (by decide)]
section
variable {P:Program}{w:World}{K:z4}{h:Heap}{A:List Addr}
theorem z22 {b:Addr}{o:Obj}(hb:b∈A)(hk:K.lookup b=none)(e:h.get? b=some o):G6 K h A b=hoOf o:=by
 unfold G6
 rw [if_pos hb,hk,if_pos (show (none:Option Obj).isNone=true from rfl),e] <;> rfl
theorem of_argH {b:Addr}{u:HO}(q:G6 K h A b=some u):b∈A∧K.lookup b=none:=by
 unfold G6 at q
 by_cases hb:b∈A
 ·rw [if_pos hb] at q
  cases hk:K.lookup b with
  | none=>exact ⟨hb,rfl⟩
  | some o=>
   rw [hk,if_neg (by simp)] at q
   cases q
 ·rw [if_neg hb] at q
  cases q
theorem z21 (ar : ∀ a ∈ A, GU h A a) {b : Addr} {u : HO} (q : G6 K h A b = some u) : K.lookup b = none ∧ ∃ vs : List Value, vs.length ≤ sizeLine ∧ (∀ u ∈ vs, OkU A u) ∧
    ((h.get? b = some { cls := .type "list", data := .seq vs.toArray } ∧ u = .frz { cls := .type "list", data := .seq vs.toArray } (.lst (vs.map toV))) ∨
     (h.get? b = some { cls := .type "tuple", data := .seq vs.toArray } ∧ u = .frz { cls := .type "tuple", data := .seq vs.toArray } (.tup (vs.map toV)))) := by
  obtain ⟨hb, hk⟩ := of_argH q
  obtain ⟨vs, h1, h2, h3⟩ := ar b hb
  refine ⟨hk, vs, h1, h2, ?_⟩
  rcases h3 with e | e
  · rw [z22 hb hk e, z6q] at q
    exact .inl ⟨e, (zG q).symm⟩
  · rw [z22 hb hk e, z6p] at q
    exact .inr ⟨e, (zG q).symm⟩
theorem z9Z (ar:∀a∈A,GU h A a):OnlyF (G6 K h A):=fun b=>by
 cases q:G6 K h A b with
 | none=>exact .inl rfl
 | some u=>
  obtain ⟨_,vs,_,_,⟨_,e⟩ | ⟨_,e⟩⟩:=z21 ar q
  ·exact .inr ⟨_,_,by rw [e]⟩
  ·exact .inr ⟨_,_,by rw [e]⟩
theorem argH_ok (ar:∀a∈A,GU h A a):HOk P w (G6 K h A) h:=fun b u q=>by
 obtain ⟨_,vs,h1,h2,⟨e,rfl⟩ | ⟨e,rfl⟩⟩:=z21 ar q
 ·exact ⟨e,by rw [z0];exact h1,vs,_,WQ h2,e⟩
 ·exact ⟨e,by rw [z0];exact h1,vs,WQ h2,_,e,rfl,_,rfl⟩
theorem z1U {c c':Value}{vs us:List Value}(e:(some { cls:=c,data:=.seq vs.toArray }:Option Obj)=some { cls:=c',data:=.seq us.toArray }):c=c'∧vs=us:=by
 have e1:=zG e
 have e2:c=c':=congrArg Obj.cls e1
 have e3:Data.seq vs.toArray=Data.seq us.toArray:=congrArg Obj.data e1
 injection e3 with e4
 refine ⟨e2,?_⟩
 have e5:=congrArg z6R e4
 simpa using e5
theorem argL (KX:K.In h)(ar:∀a∈A,GU h A a){a:Addr}{vs:List Value}(ha:a∈A)(e:h.get? a=some { cls:=.type "list",data:=.seq vs.toArray }):(∀u∈vs,OkU A u)∧SqL K (G6 K h A) a (vs.map toV):=by
 obtain ⟨us,h1,h2,h3⟩:=ar a ha
 have hu:us=vs:=by
  rcases h3 with q | q
  ·rw [e] at q
   exact (z1U q).2.symm
  ·rw [e] at q
   exact absurd (za0 (z1U q).1) (by decide)
 subst hu
 refine ⟨h2,?_⟩
 cases hk:K.lookup a with
 | none=>exact .inl (.inr ⟨_,by rw [z22 ha hk e,z6q]⟩)
 | some o=>
  have e2:=KX a o hk
  rw [e] at e2
  obtain rfl:=zG e2
  exact .inr ⟨_,us.toArray,_,hk,rfl,rfl,rfl,by rw [zO];exact h1,by simpa using WQ h2⟩
theorem argT (KX:K.In h)(ar:∀a∈A,GU h A a){a:Addr}{vs:List Value}(ha:a∈A)(e:h.get? a=some { cls:=.type "tuple",data:=.seq vs.toArray }):(∀u∈vs,OkU A u)∧SqT K (G6 K h A) a (vs.map toV):=by
 obtain ⟨us,h1,h2,h3⟩:=ar a ha
 have hu:us=vs:=by
  rcases h3 with q | q
  ·rw [e] at q
   exact absurd (za0 (z1U q).1) (by decide)
  ·rw [e] at q
   exact (z1U q).2.symm
 subst hu
 refine ⟨h2,?_⟩
 cases hk:K.lookup a with
 | none=>exact .inl (.inr ⟨_,by rw [z22 ha hk e,z6p]⟩)
 | some o=>
  have e2:=KX a o hk
  rw [e] at e2
  obtain rfl:=zG e2
  exact .inr ⟨_,us.toArray,_,hk,rfl,rfl,by rw [zO];exact h1,by simpa using WQ h2⟩
mutual
theorem dw_one {Pm:Params}(KX:K.In h)(ar:∀a∈A,GU h A a):∀(d:WData) (v:Value),Well Pm h v d→plW d=true→OkU A v→Dw K (G6 K h A) (toV v) d
 | .none,_,x,_,_=>by
  cases x
  exact .non
 | .bool b,_,x,_,_=>by
  cases x
  exact .bl b
 | .int i,_,x,_,_=>by
  cases x
  exact .int i
 | .str s,_,x,_,_=>by
  cases x
  exact .str s
 | .bytes b,_,x,_,_=>by
  cases x
  have z:=Dw.byt (K:=K) (H:=G6 K h A) b.toArray
  exact z
 | .list ds,_,x,p,hu=>by
  obtain ⟨a,vs,rfl,ho,hall⟩:=z3D x
  obtain ⟨h2,hs⟩:=argL KX ar hu ho
  exact .lst hs (z5a KX ar ds _ hall p h2)
 | .tuple ds,_,x,p,hu=>by
  obtain ⟨a,vs,rfl,ho,hall⟩:=z2d x
  obtain ⟨h2,hs⟩:=argT KX ar hu ho
  exact .tup hs (z5a KX ar ds _ hall p h2)
 | .float _,_,_,p,_=>j5 (show false=true from p)
 | .dict _,_,_,p,_=>j5 (show false=true from p)
 | .bytearray _,_,_,p,_=>j5 (show false=true from p)
 | .set _,_,_,p,_=>j5 (show false=true from p)
 | .frozenset _,_,_,p,_=>j5 (show false=true from p)
 | .obj _ _,_,_,p,_=>j5 (show false=true from p)
theorem z5a {Pm:Params}(KX:K.In h)(ar:∀a∈A,GU h A a):∀(ds:List WData) (vs:List Value),WellAll Pm h vs ds→z1E ds=true→(∀u∈vs,OkU A u)→JF K (G6 K h A) (vs.map toV) ds
 | [],_,x,_,_=>by
  cases x
  exact .nil
 | d::ds,_,x,p,hu=>by
  obtain ⟨v,vs,rfl,x1,x2⟩:=z3E x
  have q:plW d=true∧z1E ds=true:=QK.mp p
  exact .cons (dw_one KX ar d v x1 q.1 (hu _ (zn ..))) (z5a KX ar ds vs x2 q.2 fun u m=>hu u (zg _ m))
end
end
theorem z2X {ds:List WData}(h:WData.layableAll ds=true):∀d∈ds,d.weight≤1048576:=fun d hd=>
 (PySem.W.layableW_iff.mp (j4.mp h d hd)).2.2
theorem z37:∀(cs:List Codec) (a:UM cs),(W4 cs a).length=cs.length
 | [],_=>rfl
 | c::cs,a=>by
  show (W4 cs a.2).length+1=cs.length+1
  rw [z37 cs a.2]
end L2
end
namespace L2
open PySem PySem.Spec PyProof.Rows
open PySem.W (WData Codec OpenSpec Well WellAll ReadsW ReadsAllW CodeHd tabObj)
structure z8Z (P:Addr)(H:Hp):Prop where
 tab:H P=some (.tbl #[])
 oth:∀b,b≠P→(H b=none∨∃o u,H b=some (.frz o u))
theorem SqL.updT {K:z4}{H:Hp}{P a:Addr}{o:HO}{xs:List V}(hP:H P=none)(h:SqL K H a xs):SqL K (upd H P o) a xs:=by
 rcases h with (h | ⟨w,h⟩) | h
 ·exact .inl (.inl (by rw [zl (zT h hP)];exact h))
 ·exact .inl (.inr ⟨w,by rw [zl (zT h hP)];exact h⟩)
 ·exact .inr h
theorem SqT.updT {K:z4}{H:Hp}{P a:Addr}{o:HO}{xs:List V}(hP:H P=none)(h:SqT K H a xs):SqT K (upd H P o) a xs:=by
 rcases h with (h | ⟨w,h⟩) | h
 ·exact .inl (.inl (by rw [zl (zT h hP)];exact h))
 ·exact .inl (.inr ⟨w,by rw [zl (zT h hP)];exact h⟩)
 ·exact .inr h
mutual
theorem Dw.updT {K:z4}{H:Hp}{P:Addr}{o:HO}(hP:H P=none):∀(d:WData) (v:V),Dw K H v d→Dw K (upd H P o) v d
 | _,_,.non=>.non
 | _,_,.bl b=>.bl b
 | _,_,.int i=>.int i
 | _,_,.str x=>.str x
 | _,_,.byt b=>.byt b
 | _,_,.lst s d=>.lst (s.updT hP) (JF.updT hP _ _ d)
 | _,_,.tup s d=>.tup (s.updT hP) (JF.updT hP _ _ d)
theorem JF.updT {K:z4}{H:Hp}{P:Addr}{o:HO}(hP:H P=none):∀(ds:List WData) (vs:List V),JF K H vs ds→JF K (upd H P o) vs ds
 | _,_,.nil=>.nil
 | _,_,.cons a b=>.cons (Dw.updT hP _ _ a) (JF.updT hP _ _ b)
end
theorem z72 {Pg:Program}{w:World}{K:z4}{mg mb:Str→Option Value}{CX:CXT}{k:Nat}{fa c P:Addr}{fd:FuncData}{ps:List Str}{sp:Sp}{s₁:Shared}{vals:List Value}{ds:List WData}{R:PySem.W.WRecords}{cl:Str→Option Addr}{d0:WData}
  (KX:K.In s₁.heap) (hns:s₁.heap.Ns mainGlobals mg) (hb:s₁.heap.Ns builtinsNs mb) (hbb:∀x:Str,x≠"__name__"→mb x=bootBuiltins x) (hlim:s₁.heap.NoLimit) (hg:s₁.gens=#[]) (hC:CodeHd s₁.heap c P) (hPt:s₁.heap.get? P=some (tabObj #[])) (hKP:K.lookup P=none)
  (hbm:s₁.heap.BuiltinsAt mg P) (hwl:WellAll w.params s₁.heap vals ds) (hpl:z1E ds=true) (hwt:∀d∈ds,d.weight≤1048576) (hr:Yu k callerA)
  (F:∀base:Heap,K.In base→base.Ns mainGlobals mg→base.BuiltinsAt mg P→GX Pg w K mg base CX k fa fd ps sp) (hbind:∀(s:Shared) (us:List Value),us.length=ps.length→BindsTo s fd ⟨us,[]⟩ (ps.zip us)) (hlen:ds.length=ps.length)
  (hsp:∀(H:Hp) (xs:List V),z8Z P H→JF K H xs ds→sp xs H (fun v H'=>Dw K H' v d0) fun _ _ _=>False)
  (hCX:∀H e s',CX [] H s₁ (fun _ _ _=>False) e s'→False) :
  codeAny (model Pg w) callerA (.call (.ref fa) ⟨vals,[]⟩) (fun r s'=>∃u as,r=.ok (.ret u)∧ReadsW R cl s'.heap u d0 as∧OldK s₁.heap s'.heap∧s'.os=s₁.os∧AllBare s'.gens) s₁:=by
 obtain ⟨A,ho,ar⟩:=z0q ds vals hwl hpl hwt
 have hO:OnlyF (G6 K s₁.heap A):=z9Z ar
 have hok:HOk Pg w (G6 K s₁.heap A) s₁.heap:=argH_ok ar
 have hS:=z5a KX ar ds vals hwl hpl ho
 have hV:=WQ ho
 have hK:∀b u,G6 K s₁.heap A b=some u→K.lookup b=none:=fun b u q=>(z21 ar q).1
 have noA:∀{b:Addr} {o:Obj},s₁.heap.get? b=some o→(∀(vs:List Value) n,o.data≠.seq vs.toArray n)→G6 K s₁.heap A b=none:=fun {b o} e d=>by
  cases q:G6 K s₁.heap A b with
  | none=>rfl
  | some u=>
   obtain ⟨_,vs,_,_,⟨e2,_⟩ | ⟨e2,_⟩⟩:=z21 ar q
   ·rw [e2] at e;cases e;exact absurd rfl (d vs _)
   ·rw [e2] at e;cases e;exact absurd rfl (d vs _)
 have hP0:G6 K s₁.heap A P=none:=noA hPt fun vs n z=>by cases z
 generalize G6 K s₁.heap A=H0 at hO hok hS hK noA hP0
 generalize hH:upd H0 P (.tbl #[])=H
 have hHP:H P=some (.tbl #[]):=by rw [←hH,z5]
 have hHn:∀b,b≠P→H b=H0 b:=fun b n=>by rw [←hH,zl n]
 have hOT:z8Z P H:=⟨hHP,fun b n=>by rw [hHn b n];exact hO b⟩
 have hok1:HOk Pg w H s₁.heap:=fun b u e=>by
  by_cases z:b=P
  ·subst z;rw [hHP] at e;cases e;exact hPt
  ·rw [hHn b z] at e
   refine (hok b u e).stay (fun _ _ _ q=>q) (fun d q=>?_) fun d xs q=>?_
   ·rw [hHn d (zT q hP0)];exact q
   ·rw [hHn d (zT q hP0)];exact q
 have hS1:JF K H (vals.map toV) ds:=by rw [←hH];exact hS.updT hP0
 have free:∀{b:Addr} {o:Obj},s₁.heap.get? b=some o→(∀(vs:List Value) n,o.data≠.seq vs.toArray n)→b≠P→(z3u s₁.heap H).get? b=some o:=fun {b o} e d n=>z6r e (by rw [hHn b n];exact noA e d)
 have dictP:∀{b:Addr} {o:Obj} {es:Array DictEntry} {ep:Nat},s₁.heap.get? b=some o→o.data=.dict es ep→b≠P:=fun {b o es ep} e d z=>by rw [z,hPt] at e;cases e;cases d
 have nsK:∀{b:Addr} {m:Str→Option Value},s₁.heap.Ns b m→(z3u s₁.heap H).Ns b m:=fun {b m} ⟨o,es,ep,e,d,r⟩=>⟨o,es,ep,free e (fun vs n z=>by rw [d] at z;cases z) (dictP e d),d,r⟩
 have nK:∀b o,K.lookup b=some o→b≠P∧H b=none:=fun b o e=>by
  have n:b≠P:=fun z=>by rw [z,hKP] at e;cases e
  refine ⟨n,?_⟩
  rw [hHn b n]
  cases q:H0 b with
  | none=>rfl
  | some u=>rw [hK b u q] at e;cases e
 have hKb:K.In (z3u s₁.heap H):=fun b o e=>z6r (KX b o e) (nK b o e).2
 have hM:Mod K mg (z3u s₁.heap H):=⟨hKb,nsK hns,⟨mb,nsK hb,hbb⟩,let ⟨mc,h1,h2⟩:=hlim;⟨mc,nsK h1,h2⟩⟩
 have hBB:(z3u s₁.heap H).BuiltinsAt mg P:=by
  obtain ⟨bm,o,b1,b2,b3,b4,b5,b6,b7,b8⟩:=hbm
  exact ⟨bm,o,b1,b2,b3,b4,free b5 (fun vs n z=>by rw [b8] at z;cases z) b4,b6,b7,b8⟩
 have e0:Env0 Pg w K mg (z3u s₁.heap H) callerA [] s₁ H:=⟨rfl,hM,fun b o e=>of_hidT e,Wt (z9N _ _),trivial,fun b hb=>absurd (show b∈([]:List Addr) from hb) (by simp),hok1,.of_eq hg⟩
 have hl:vals.length=ps.length:=by rw [W8 hwl];exact hlen
 refine codeAny_mono ((F _ hKb (nsK hns) hBB).run callerA [] s₁ H ⟨vals,[]⟩ vals (vals.map toV) _ _ hr e0 (hbind s₁ vals hl) hV (hsp H _ hOT hS1)) fun r s' x=>?_
 cases r with
 | error e=>exact (hCX H e s' x).elim
 | ok fl=>
  cases fl with
  | next=>exact Z0 x
  | brk=>exact Z0 x
  | cont=>exact Z0 x
  | ret u=>
   obtain ⟨v,H',os,bare,un,hok',r',q⟩:=x
   have kept:∀b o,b≠P→s₁.heap.get? b=some o→s'.heap.get? b=some o:=fun b o n e=>by
    cases q2:H b with
    | none=>exact un.keep b o e q2 (by intro z;exact absurd (show b∈([]:List Addr) from z) (by simp)) (by simp)
    | some u2=>
     rcases hOT.oth b n with z | ⟨ob,u3,z⟩
     ·rw [q2] at z;cases z
     ·have z2:=un.frzs b ob _ z
      obtain ⟨e1,_⟩:=hok1 b _ z
      obtain ⟨e2,_⟩:=hok' b _ z2
      rw [e] at e1;cases e1
      exact e2
   have KX':K.In s'.heap:=fun b o e=>kept b o (nK b o e).1 (KX b o e)
   obtain ⟨as,hrd⟩:=Dw.reads (R:=R) (cl:=cl) hok' KX' d0 v u q r'
   obtain ⟨more,hm⟩:=un.tbls P _ hHP
   have hP':s'.heap.get? P=some { cls:=.none,data:=.fields (#[]++more) }:=hok' P _ hm
   have tabl:=(hC.tab hPt).isCodeTable
   refine ⟨u,as,rfl,hrd,⟨fun b o e=>?_,fun b o e=>?_⟩,os,bare⟩
   ·by_cases z:b=P
    ·rw [z] at e ⊢
     rw [hPt] at e;cases e
     exact .inr (.inl ⟨tabl,rfl,#[],more,rfl,hP'⟩)
    ·exact .inl (kept b o z e)
   ·by_cases z:b=P
    ·exact ⟨_,by rw [z];exact hP'⟩
    ·exact ⟨o,kept b o z e⟩
theorem z6W {r:OpenSpec}{k:Nat}{q:Program}{loose:List Str}{XP:(Str→Option Value)→Heap→Prop}{YP:World→Heap→Prop}{d d0:DefRec}{K:Params→z4}{ps:List Str}{sp:World→Sp}{x0:Str}{c P:Addr}
  (hwell:r.wellSaid=true) (hdf:d.params.defaults=[]) (hlen:r.args.length=ps.length) (hr:Yu k callerA) (hrec:(recsOf q).find? (fun e=>e.name==x0)=some d0)
  (hY:∀(w:World) (h:Heap),YP w h→(K w.params).In h) (htab:∀Pm:Params,PySem.W.tabIn (K Pm) x0=some (c,P)) (hKP:∀Pm:Params,(K Pm).lookup P=none) (hKc:∀Pm:Params,((K Pm).lookup c).isSome=true)
  (F:∀(w:World) (mg:Str→Option Value) (fa:Addr) (h:Heap),YP w h→(K w.params).In h→h.Ns mainGlobals mg→mg d.name=some (.ref fa)→(∀h',(K w.params).In h'→CodeHd h' c P)→
   ∃fd:FuncData,(∀(s:Shared) (us:List Value),us.length=ps.length→BindsTo s fd ⟨us,[]⟩ (ps.zip us))∧
    ∀base:Heap,(K w.params).In base→base.Ns mainGlobals mg→base.BuiltinsAt mg P→GX r.prog w (K w.params) mg base (CX1 r.prog w) k fa fd ps (sp w))
  (hsp:∀(w:World) (H:Hp) (xs:List V) (a:UM r.args),z8Z P H→Codec.withinAll r.args a=true→z2a r.args r.asked a=true→JF (K w.params) H xs (W4 r.args a)→
   sp w xs H (fun v H'=>Dw (K w.params) H' v (r.ret.enc (z2a r.args r.f a))) fun _ _ _=>False) :
  PySem.W.WalkOS q loose XP YP r d [] (fun f vs=>PySem.call f vs):=by
 intro w s_0 s₁ mg mb G Y fa o pm cd doc dV kV ho hd hcd hD hmg hg args vals as hpre hlay hrd hwl hlo
 obtain ⟨a,e1,e2⟩:=PySem.W.os_pre_some hpre
 obtain ⟨e3,hwi⟩:=Codec.encAll_of_decAll r.args args a e1
 subst e3
 have KX:=hY w _ Y
 obtain ⟨hC,hPt⟩:=PySem.W.tab_of G.T KX hrec (htab w.params)
 have hCa:∀h',(K w.params).In h'→CodeHd h' c P:=fun h' X'=>by
  obtain ⟨oc,lk⟩:=jI.mp (hKc w.params)
  obtain ⟨oo,vs,file,tf,flags,tg,inF,text,tt,g1,gr⟩:=hC
  have g2:=KX _ _ lk
  rw [g1] at g2;cases g2
  exact ⟨oc,vs,file,tf,flags,tg,inF,text,tt,X' _ _ lk,gr⟩
 have hbm:s₁.heap.BuiltinsAt mg P:=by
  obtain ⟨bm,ob,b1,b2,b3,b4,b5,b6⟩:=G.T.bmain
  refine ⟨bm,ob,b1,b2,fun z=>?_,fun z=>?_,b3,b4,b5,b6⟩
  ·obtain ⟨o',es,ep,e,hd',_⟩:=G.T.g
   rw [z,e] at b3;cases b3;rw [hd'] at b6;cases b6
  ·rw [z,hPt] at b3;cases b3;cases b4
 obtain ⟨fd,hb,hF⟩:=F w mg fa _ Y KX G.T.g hmg hCa
 refine PySem.W.enter_call (codeAny_mono (z72 (R:=[]) (cl:=classAt s_0.heap) (d0:=r.ret.enc (z2a r.args r.f a)) KX G.T.g G.T.b G.T.builtins G.T.nolimit hg hC hPt (hKP w.params) hbm hwl (z3N _ _) (z2X hlay) hr hF hb (by rw [z37];exact hlen)
  (fun H xs hO hS=>hsp w H xs a hO hwi e2 hS) fun H e s' ⟨_,_,_,_,_,_,_,_,_,_,_,z⟩=>z) fun r' s' hq=>?_)
 obtain ⟨u,as',rfl,h1,h2,h3,h4⟩:=hq
 exact ⟨.inl ⟨u,_,as',rfl,fun _=>rfl,h1,(OpenSpec.post_iff hwell hwi _ _).mpr rfl,fun z=>j5 (show false=true from z)⟩,h2,h3,h4⟩
theorem z6V {r:OpenSpec}{k:Nat}{q:Program}{loose:List Str}{XP:(Str→Option Value)→Heap→Prop}{YP:World→Heap→Prop}{d:DefRec}{K:Params→z4}{ps:List Str}{sp:z4→Sp}{x0:Str}(c P:Addr)
  (hwell:r.wellSaid=true) (hdf:d.params.defaults=[]) (hlen:r.args.length=ps.length) (hr:Yu k callerA) (hrec:((recsOf q).find? (fun e=>e.name==x0)).isSome=true)
  (hY:∀(w:World) (h:Heap),YP w h→(K w.params).In h) (htab:∀Pm:Params,PySem.W.tabIn (K Pm) x0=some (c,P)) (hKP:∀Pm:Params,(K Pm).lookup P=none) (hKc:∀Pm:Params,((K Pm).lookup c).isSome=true)
  (F:∀(w:World) (mg:Str→Option Value) (fa:Addr) (h:Heap),YP w h→(K w.params).In h→h.Ns mainGlobals mg→mg d.name=some (.ref fa)→(∀h',(K w.params).In h'→CodeHd h' c P)→
   ∃fd:FuncData,(∀(s:Shared) (us:List Value),us.length=ps.length→BindsTo s fd ⟨us,[]⟩ (ps.zip us))∧
    ∀base:Heap,(K w.params).In base→base.Ns mainGlobals mg→base.BuiltinsAt mg P→GX r.prog w (K w.params) mg base (CX1 r.prog w) k fa fd ps (sp (K w.params)))
  (hsp:∀(K:z4) (H:Hp) (xs:List V) (a:UM r.args),z8Z P H→Codec.withinAll r.args a=true→z2a r.args r.asked a=true→JF K H xs (W4 r.args a)→
   sp K xs H (fun v H'=>Dw K H' v (r.ret.enc (z2a r.args r.f a))) fun _ _ _=>False) :
  PySem.W.WalkOS q loose XP YP r d [] (fun f vs=>PySem.call f vs):=by
 obtain ⟨d0,e⟩:=jI.mp hrec
 exact z6W (sp:=fun w=>sp (K w.params)) hwell hdf hlen hr e hY htab hKP hKc F fun w=>hsp (K w.params)
end L2
namespace RevL
open PySem PyProof.Rows
theorem nolen_rev:typeLookup (.type "list_reverseiterator") "__len__"=pure none:=by rw [typeLookup_type,builtinLookup_eq_fast];kernel_rfl
theorem hint_rev:typeLookup (.type "list_reverseiterator") "__length_hint__"=pure (some (.builtin "list_reverseiterator.__length_hint__")):=by rw [typeLookup_type,builtinLookup_eq_fast];kernel_rfl
section
variable {prog:Program}{w:World}{A:Around}{E:Value→Shared→Prop}{s:Shared}{I l:Addr}{items:Array Value}
def St (I l:Addr)(items:Array Value)(i:Nat)(s:Shared):Prop:=i≤items.size∧s.heap.IsRevIter I l ((items.size:Int) - 1 - (i:Nat))∧s.heap.IsList l items
theorem walks (hh:A.handled=none)(hIl:I≠l):WalksS prog w A I [I,l] [I] (fun a b=>b=a) items.size (fun i v=>items[items.size - 1 - i]?=some v) (St I l items) where
 sub:=fun b hb=>by rw [zi.mp hb];exact zn
 grefl:=fun _=>rfl
 gtrans:=fun a b c h1 h2=>h2.trans h1
 frame:=fun i s h' tk h _ k=>by
  obtain ⟨h0,h1,⟨o,ho,r⟩⟩:=h
  exact ⟨h0,h1.at fun o e=>k I (by simp) o e,o,k l (by simp) o ho,r⟩
 item:=fun i s Q E hi h hQ=>by
  obtain ⟨h0,h1,h2⟩:=h
  have e:((items.size:Int) - 1 - (i:Nat))=((items.size - 1 - i:Nat):Int):=by omega
  rw [e] at h1
  refine wpAny_pyNext_rev_item h1 h2 (J3 (show items.size - 1 - i<items.size by omega)) fun h' h3 sb=>?_
  refine hQ _ _ (J3 (by omega)) ⟨by omega,?_,?_⟩ ?_
  ·have e2:(((items.size - 1 - i:Nat):Int) - 1)=((items.size:Int) - 1 - ((i+1:Nat):Int)):=by omega
   rw [←e2];exact h3
  ·exact h2.extBut sb.extBut (j1 hIl)
  ·exact ⟨fun b o hb e=>(sb.2 b fun z=>hb (by rw [z];exact zi.mpr rfl)).trans e,rfl,rfl,rfl,zb _⟩
 done:=fun s Q E h hQ=>by
  obtain ⟨h0,h1,h2⟩:=h
  have e:((items.size:Int) - 1 - (items.size:Nat))=-1:=by omega
  rw [e] at h1
  refine wpAny_pyNext_rev_end hh h1 fun h' hx=>hQ _ ?_
  exact ⟨fun b o hb e=>hx b o (fun z=>hb (by rw [z];exact zi.mpr rfl)) e,rfl,rfl,rfl,zb _⟩
 self:=fun i s Q E h hq=>wpAny_pyIter_revIter h.2.1 hq
theorem extend_rev {R:Result→Shared→Prop}{S:Addr}{res:Value}{c₀:Nat}(hh:A.handled=none)(hIl:I≠l)(hst:St I l items 0 s)(hSf:S ∉ [I,l])(hn:items.size≤sizeLine)
  (hS:s.heap.get? S=some { cls:=.type "list",data:=.seq #[] c₀ })
  (hR:∀s' acc' c',Moved [S,I] (fun a b=>b=a) s s'→s'.heap.get? S=some { cls:=.type "list",dict:=none,data:=.seq acc' c',slots:=#[] }→ItemsOf (fun i v=>items[items.size - 1 - i]?=some v) acc' items.size→R (.ok (.ret res)) s') :
  wpAny (model prog w) A.in1 (Vi (.ref S) (.ref I) res)
   (fun fin s'=>match fin with | .done f=>R (.ok f) s' | .again c'=>c'.quiet=true∧codeAny (model prog w) A c' R s') (fun e s'=>R (.error e) s') s:=by
 have hSI:S≠I:=fun e=>hSf (by simp [e])
 have W:WalksS prog w A.in1 I [I,l] [I] (fun a b=>b=a) items.size (fun i v=>items[items.size - 1 - i]?=some v) (St I l items):=walks hh hIl
 have hT:∀i s,St I l items i s→s.TypeIs (.ref I) "list_reverseiterator":=fun i s h=>h.2.1.typeIs
 unfold Vi
 refine wpAny_bind (wpAny_typeOf (hT 0 _ hst) ?_)
 have h1:z1P (.ref S) (.ref I)=false:=by simp [z1P,hSI]
 have h2:(Yr "list_reverseiterator"==Yr "list")=false:=by decide
 have h3:(Yr "list_reverseiterator"==Yr "tuple")=false:=by decide
 simp only [h1,h2,h3,z6J,j9,if_false]
 refine wpAny_bind (W.self 0 _ _ _ hst (wpAny_bind (wpAny_holding ?_)))
 unfold Builtin.List.listLengthHint
 refine wpAny_bind (wpAny_specialOf (hT 0 _ hst) nolen_rev ?_)
 show wpAny _ A.in1 (specialOf (yU I) (YB "__length_hint__") >>= _) _ _ _
 refine wpAny_bind (wpAny_specialOf (hT 0 _ hst) hint_rev ?_)
 generalize hid:("list_reverseiterator.__length_hint__":String)=id0
 (fail_if_success (clear hid id0))
 wp_delta
 rw [show splitId id0=some ("list_reverseiterator","__length_hint__") from by subst hid;decide +kernel]
 subst hid
 refine wpAny_bind (wpAny_isInstance (b:=true) (hT 0 _ hst) (by rw [isSubtype_type];kernel_rfl) (wpAny_pure ?_))
 rw [if_neg (by decide)]
 refine wpAny_pure ⟨plainId_quiet F.plain_extend_loop _,codeAny_extend_loopS W hn _ hSf _ items.size 0 _ _ _ rfl (zk _) hst hS (ItemsOf.nil _) fun s' acc' c' hm hS' hacc=>?_⟩
 exact hR s' acc' c' hm hS' hacc
theorem call_list_rev {Q:Value→Shared→Prop}(hh:A.handled=none)(hIl:I≠l)(hst:St I l items 0 s)(hn:items.size≤sizeLine)
  (hQ:∀h' tk acc' c',(∀b o,b≠I→s.heap.get? b=some o→h'.get? b=some o)→h'.get? s.heap.objs.size=some { cls:=.type "list",dict:=none,data:=.seq acc' c',slots:=#[] }→
   ItemsOf (fun i v=>items[items.size - 1 - i]?=some v) acc' items.size→Q (.ref s.heap.objs.size) { s with heap:=h',toks:=tk }) :
  wpAny (model prog w) A (call (.type "list") [.ref I]) Q E s:=by
 refine callType_codes (Q₁:=fun obj s₁=>obj=.ref s.heap.objs.size∧s₁={ s with heap:=s.heap.push { cls:=.type "list",data:=.seq #[] } }) F.called_list (F.typeCall_list_1 _) F.entry_list_init
  (code_list_new _ ⟨rfl,rfl⟩) ?_
 rintro obj s₁ ⟨rfl,rfl⟩
 obtain ⟨h0,hr,⟨ol,hol,rl⟩⟩:=hst
 obtain ⟨oI,hoI,rI⟩:=id hr
 have hIs:I<s.heap.objs.size:=zC hoI
 have hls:l<s.heap.objs.size:=zC hol
 have hS:(s.heap.push { cls:=.type "list",data:=.seq #[] }).get? s.heap.objs.size=some { cls:=.type "list",data:=.seq #[] }:=yd _ rfl
 refine ⟨⟨_,hS,rfl⟩,F.args_list_init_2 _ _,?_⟩
 show wpAny _ _ (do let old ←Builtin.List.listItems (.ref s.heap.objs.size);Builtin.List.listUpdate (.ref s.heap.objs.size) (fun _=>#[]);letGo old.toList.reverse;Vi (.ref s.heap.objs.size) (.ref I) .none) _ _ _
 refine wpAny_bind (listItems_at hS rfl (wpAny_bind (listUpdate_at hS rfl ?_)))
 have hS2:=Vm (yW (fun _=>(#[]:Array Value))) hS rfl
 have oth:∀b o,b≠s.heap.objs.size→(s.heap.push { cls:=.type "list",data:=.seq #[] }).get? b=some o→((s.heap.push { cls:=.type "list",data:=.seq #[] }).update s.heap.objs.size (yW (fun _=>(#[]:Array Value)))).get? b=some o:=
  fun b o hb e=>(yV _ _ (j1 hb)).trans e
 refine wpAny_bind (wpAny_letGo ?_)
 refine extend_rev (A:=A.in1) hh hIl ⟨h0,hr.at fun o e=>oth I o (yF hIs) (ze _ e),ol,oth l ol (yF hls) (ze _ hol),rl⟩ (by
  intro z
  rcases zx.mp z with z | z
  ·exact absurd z (Ws hIs)
  ·exact absurd (zi.mp z) (Ws hls)) hn hS2 fun s' acc' c' hm hS' hacc=>?_
 have e':=hm.eq_with
 rw [e']
 refine ⟨rfl,hQ s'.heap s'.toks acc' c' (fun b o hb e=>?_) hS' hacc⟩
 have hbs:b≠s.heap.objs.size:=yF (zC e)
 exact hm.heap b o (fun z=>(zx.mp z).elim hbs fun z=>hb (zi.mp z)) (oth b o hbs (ze _ e))
theorem items_rev {acc:Array Value}(h:ItemsOf (fun i v=>items[items.size - 1 - i]?=some v) acc items.size):acc.toList=items.toList.reverse:=by
 obtain ⟨hsz,hit⟩:=h
 refine z1M fun i=>?_
 by_cases hi:i<items.size
 ·have e1:acc.toList[i]?=some acc[i]:=by simp [hsz,hi]
  rw [e1]
  have e2:=hit i acc[i] (J3 _)
  rw [qH (by simpa using hi)]
  rw [←e2]
  simp
 ·rw [jp (by simp;omega),jp (by simp;omega)]
end
end RevL
namespace L2
open PySem PySem.Spec PyProof.Rows
section
variable {X:Cx}
inductive RevK (K:z4)(Q:VK)(x:V)(H:Hp):Prop | mk (a:Addr) (xs:List V) (_:x=.ref a) (_:SqL K H a xs) (_:∀l,H l=none→Q (.ref l) (upd H l (.lst xs.reverse)))
def tRevL (K:z4)(te:TE):TE:=fun σ H Q=>te σ H (RevK K Q)
theorem z39:bootBuiltins "reversed"=some (.type "reversed"):=by decide +kernel
theorem z3a:bootBuiltins "list"=some (.type "list"):=by decide +kernel
theorem z7v {e:Expr}{te:TE}{p p2 pos pos2:Pos}(hc:X.calm=true)(hg:Gl X "list")(hm:X.mg "list"=none)(hg2:Gl X "reversed")(hm2:X.mg "reversed"=none)(he:PE X e te)
  (hs:starEach [e] X.env=[(false,eval e X.env)]:=by rfl) (hs2:starEach [.Call (.Name "reversed" p2) [e] [] pos2] X.env=[(false,eval (.Call (.Name "reversed" p2) [e] [] pos2) X.env)]:=by rfl) :
  PE X (.Call (.Name "list" p) [.Call (.Name "reversed" p2) [e] [] pos2] [] pos) (tRevL X.K te):=by
 intro pins s σ H Q I h
 have inner:wpAny (model X.prog X.w) X.A (eval (.Call (.Name "reversed" p2) [e] [] pos2) X.env) (fun v s2=>∃(it a:Addr) (xs:List V) (its:List Value) (H1:Hp),v=.ref it∧Inv X pins σ H1 s2∧VF X pins H1 it∧it≠a∧RevL.St it a its.toArray 0 s2∧yO xs its∧xs.length≤sizeLine∧
   ∀l,H1 l=none→Q (.ref l) (upd H1 l (.lst xs.reverse))) X.xe s:=by
  refine wpAny_Call_Name_kw (VW I hg2 hm2 z39 ?_ (by decide) (by decide))
  refine j0 (thn ((z3 he z7 hs) pos2 pins s σ H (fun vs H1=>match vs with
   | [x]=>RevK X.K Q x H1
   | _=>False) I h) fun us s1 ⟨vs,H1,I1,r1,q1⟩=>?_) hs rfl
  match vs,r1,q1 with
  | [],_,q1=>exact q1.elim
  | _::_::_,_,q1=>exact q1.elim
  | [x0],r1,⟨a,xs,ex,hS,hfin⟩=>
   subst ex
   obtain ⟨u0,rfl,ru⟩:=z2e r1
   have ru:u0=.ref a:=ru
   subst ru
   obtain ⟨its,rv,pl,hz⟩:=I1.list hS
   refine call_reversed_list pl.isList ?_
   obtain ⟨o,ho,hcl,n,hd⟩:=pl.isList
   have hlt:a<s1.heap.objs.size:=zC ho
   refine ⟨s1.heap.objs.size,a,xs,its,H1,rfl,I1.kept (t':=s1.toks) fun b u e=>ze _ e,I1.fpOk (zb _) (I1.hok.fresh (zb _)),Ws hlt,⟨zk _,⟨_,yd _ rfl,rfl,?_⟩,o,ze _ ho,hcl,n,hd⟩,rv,hz,hfin⟩
   simp [revObj]
 refine wpAny_Call_Name_kw (VW I hg hm z3a ?_ (by decide) (by decide))
 refine j0 (Q:=EP X pins σ Q) ?_ hs2 rfl
 rw [hs2]
 refine z0C (thn inner fun v s2 ⟨it,a,xs,its,H1,ev,I1,f1,ne,st,rv,hz,hfin⟩=>z1C ?_)
 subst ev
 have hl:=rv.length
 refine RevL.call_list_rev (I1.ok.hd hc) ne st (by rw [zO];omega) fun h' tk acc' c' kp hS' hacc=>?_
 obtain ⟨f0,f2,f3,f4,f5,f6⟩:=f1
 have I2:Inv X pins σ H1 { s2 with heap:=h',toks:=tk }:=I1.turned (t':=tk) kp f0 f2 f4 f5 f6
 have nl:H1 s2.heap.objs.size=none:=I1.hok.fresh (zb _)
 have ea:=RevL.items_rev hacc
 have I3:=I2.adopt (D:=s2.heap.objs.size) (u:=.lst xs.reverse) (I1.fpOk (zb _) nl) ⟨by rw [Y8];exact hz,acc'.toList,c',by rw [ea];simpa using rv.reverse,by simpa using hS'⟩
 exact ⟨.ref s2.heap.objs.size,_,I3,rfl,hfin _ nl⟩
inductive rCount (K:z4)(x:V)(xs:List V)(H:Hp)(Q:VK):Prop | mk (a:Addr) (ys:List V) (y:V) (_:x=V.ref a) (_:xs=[y]) (_:SqL K H a ys) (_:Ve y=true) (_:ys.all Ve=true) (_:Q (.int (ys.countP fun z=>eqV z y:Nat)) H)
theorem z3Y {y:V}:∀{ys:List V}{us:List Value},yO ys us→ys.all Ve=true→us.countP (eqU y)=ys.countP fun z=>eqV z y
 | _,_,.nil,_=>rfl
 | _,_,.cons r t,f=>by
  rw [Vz,ye] at f
  rw [z3j,z3j,z3Y t f.2,z8b r f.1]
theorem z3s:MtR X "list.count" (rCount X.K):=by
 intro pins s σ H x xs v us Q I rx rxs h
 obtain ⟨a,ys,y,rfl,rfl,hs,fy,fys,q⟩:=h
 cases rx
 obtain ⟨uy,rfl,ry⟩:=z2e rxs
 obtain ⟨its,rv,⟨⟨cls,dd,data,sl⟩,n,ho,hc,hdn,hd⟩,hlen⟩:=I.list hs
 simp only at hc hd
 subst hc hd
 refine call_meets z5j ⟨_,ho,rfl⟩ PySem.F.entry_list_count (PySem.F.args_list_count_2 _ _) (SeqAt.list_countAt a its.toArray n dd sl uy (eqU y)) ⟨ho,fun u' hu'=>G2 ry fy rv fys u' (by simpa using hu'),?_⟩
 refine ⟨.int _,H,I.tok _,⟨_,rfl⟩,?_⟩
 have e:(its.toArray.toList.countP (eqU y))=ys.countP fun z=>eqV z y:=by rw [List.toList_toArray];exact z3Y rv fys
 rw [e];exact q
end
end L2
namespace MinD
open PySem PyProof.Rows
theorem lname:(toString "min"++toString ".loop":String)="min.loop":=by decide
theorem args_dflt (a v:Value):argsOk "min" ⟨[a],[(YB "default",v)]⟩:=by unfold argsOk;kernel_rfl
section
variable {prog:Program}{w:World}{A:Around}{E:Value→Shared→Prop}{R:Result→Shared→Prop}{I:Addr}{fp wr:List Addr}{n:Nat}{P:Nat→Value→Prop}{St:Nat→Heap→Prop}
def Kept (P:Nat→Value→Prop)(bt:Nat→Nat→Bool)(j:Nat)(arr:Array Value):Prop:=(j=0∧arr=#[])∨∃vb,0<j∧arr=#[vb,vb]∧P (argBest bt (j - 1)) vb
theorem loop {dv:Value}(W:Walks prog w A.in1 I fp wr n P St)(bt:Nat→Nat→Bool)(hcmp:CmpOf prog w A.in1 .Lt P bt)(S:Addr)(hSf:S ∉ fp) :
  ∀(k j:Nat) (s:Shared) (arr:Array Value) (c:Nat),n - j=k→j≤n→St j s.heap→Kept P bt j arr→s.heap.get? S=some (seqObj "list" arr c)→
  (∀v h' tk,((n=0∧v=dv)∨(0<n∧P (argBest bt (n - 1)) v))→(∀b o,b ∉ wr→b≠S→s.heap.get? b=some o→h'.get? b=some o)→R (.ok (.ret v)) { s with heap:=h',toks:=tk })→
  codeAny (model prog w) A (.builtin "min.loop" ⟨[.ref I,.none,.ref S],[(YB "default",dv)]⟩) R s:=by
 have hSw:S ∉ wr:=fun h=>hSf (W.sub _ h)
 intro k
 induction k with
 | zero=>
  intro j s arr c hk hj hst hK hS hR
  have hin:j=n:=by omega
  refine codeAny_builtin z5p ?_
  rw [Vw Zq _]
  show wpAny (model prog w) A.in1 (seqItems? (.ref S) >>= _) _ _ s
  refine wpAny_bind (wpAny_seqItems hS rfl ?_)
  show wpAny (model prog w) A.in1 (tryCatch (pyNext (.ref I)) _ >>= _) _ _ s
  refine wpAny_bind (wpAny_tryCatch (W.done s _ _ (hin ▸ hst) fun h2 tk2 kk=>?_))
  rcases hK with ⟨z,rfl⟩ | ⟨vb,z,rfl,hPb⟩
  ·show wpAny (model prog w) A.in1 (rule _ >>= _) _ _ _
   refine wpAny_bind (wpAny_rule (wpAny_pure (hR dv _ tk2 (.inl ⟨by omega,rfl⟩) fun b o hbw _ e=>kk b o hbw e)))
  ·have g2:=kk S _ hSw hS
   show wpAny (model prog w) A.in1 (updateSeq S (fun _=>#[]) >>= _) _ _ _
   refine wpAny_bind ?_
   refine wpAny_updateSeq g2 rfl (wpAny_bind (wpAny_letGo (wpAny_pure ?_)))
   exact hR vb _ tk2 (.inr ⟨by omega,by rw [←hin];exact hPb⟩) fun b o hbw hbS e=>(yV _ _ (j1 hbS)).trans (kk b o hbw e)
 | succ k ih=>
  intro j s arr c hk hj hst hK hS hR
  have hlt:j<n:=by omega
  refine codeAny_builtin z5p ?_
  rw [Vw Zq _]
  show wpAny (model prog w) A.in1 (seqItems? (.ref S) >>= _) _ _ s
  refine wpAny_bind (wpAny_seqItems hS rfl ?_)
  show wpAny (model prog w) A.in1 (tryCatch (pyNext (.ref I)) _ >>= _) _ _ s
  refine wpAny_bind (wpAny_tryCatch (W.item j s _ _ hlt hst fun v h2 tk2 hP st2 kk=>?_))
  have g2:=kk S _ hSw hS
  rcases hK with ⟨z,rfl⟩ | ⟨vb,z,rfl,hPb⟩
  ·subst z
   show wpAny (model prog w) A.in1 (updateSeq S (fun _=>#[v,v]) >>= _) _ _ _
   refine wpAny_bind ?_
   refine wpAny_updateSeq g2 rfl ?_
   rw [lname]
   refine wpAny_pure ⟨plainId_quiet Zq _,ih 1 _ #[v,v] _ (by omega) (by omega) (W.frame _ _ _ st2 fun b hbf o e=>?_) (.inr ⟨v,by decide,rfl,hP⟩) (Vm _ g2 rfl) fun v' h3 tk3 hP' kk3=>?_⟩
   ·exact (yV _ _ (fun (h:S=b)=>hSf (by rw [h];exact hbf))).trans e
   ·exact hR v' h3 tk3 hP' fun b o hbw hbS e=>kk3 b o hbw hbS ((yV _ _ (j1 hbS)).trans (kk b o hbw e))
  ·obtain ⟨i,rfl⟩:∃i,j=i+1:=⟨j - 1,by omega⟩
   have hPb:P (argBest bt i) vb:=hPb
   show wpAny (model prog w) A.in1 (tryCatch (holding [v,v] (richCompare .Lt v vb >>= _)) _ >>= _) _ _ _
   refine wpAny_bind (wpAny_tryCatch (wpAny_holding (wpAny_bind (hcmp (i+1) (argBest bt i) v vb _ _ _ hP hPb ?_))))
   refine wpAny_bind (wpAny_holding (wpAny_truthy_bool (wpAny_bind (wpAny_letGo (wpAny_pure ?_)))))
   cases hb:bt (i+1) (argBest bt i) with
   | true=>
    simp only [if_true]
    refine wpAny_bind ?_
    refine wpAny_updateSeq g2 rfl (wpAny_bind (wpAny_letGo ?_))
    rw [lname]
    refine wpAny_pure ⟨plainId_quiet Zq _,ih (i+1+1) _ #[v,v] _ (by omega) hlt (W.frame _ _ _ st2 fun b hbf o e=>?_) (.inr ⟨v,by omega,rfl,?_⟩) (Vm _ g2 rfl) fun v' h3 tk3 hP' kk3=>?_⟩
    ·exact (yV _ _ (fun (h:S=b)=>hSf (by rw [h];exact hbf))).trans e
    ·show P (argBest bt (i+1)) v
     simp only [argBest,hb,if_true];exact hP
    ·exact hR v' h3 tk3 hP' fun b o hbw hbS e=>kk3 b o hbw hbS ((yV _ _ (j1 hbS)).trans (kk b o hbw e))
   | false=>
    simp only [j9,if_false]
    refine wpAny_bind (wpAny_letGo ?_)
    rw [lname]
    refine wpAny_pure ⟨plainId_quiet Zq _,ih (i+1+1) _ #[vb,vb] c (by omega) hlt st2 (.inr ⟨vb,by omega,rfl,?_⟩) g2 fun v' h3 tk3 hP' kk3=>?_⟩
    ·show P (argBest bt (i+1)) vb
     simp only [argBest,hb,j9,if_false];exact hPb
    ·exact hR v' h3 tk3 hP' fun b o hbw hbS e=>kk3 b o hbw hbS (kk b o hbw e)
end
section
variable {prog:Program}{w:World}{A:Around}{E:Value→Shared→Prop}{s:Shared}{l:Addr}{its:List Value}{ns:List Int}{Q:Value→Shared→Prop}
theorem raw {dv:Value}(hh:A.handled=none)(hl:s.heap.IsList l its.toArray)(hi:IntsAre its ns)
  (h0:ns=[]→∀h' tk,(∀b o,s.heap.get? b=some o→h'.get? b=some o)→Q dv { s with heap:=h',toks:=tk })
  (h:∀h' tk M t',(∀b o,s.heap.get? b=some o→h'.get? b=some o)→M∈ns→(∀a,a∈ns→M≤a)→Q (.int M t') { s with heap:=h',toks:=tk }) :
  wpAny (model prog w) A (call (.builtin "min") [.ref l] [(YB "default",dv)]) Q E s:=by
 obtain ⟨xs,e⟩:=hi.allInts.items
 have hn:numsOf (intItems xs).toList=ns:=by rw [←e];exact hi.numsOf
 rw [nums_intItems] at hn
 subst hn
 rw [e] at hl
 refine kmb_tree PySem.F.kind_min PySem.F.plain_min PySem.F.entry_min (args_dflt _ _) ?_
 show wpAny _ A.in1 (qU "min" ["key","default"] 0 ⟨[],[(YB "default",dv)]⟩ >>= _) _ _ s
 refine wpAny_bind (wpAny_of_eq (show qU "min" ["key","default"] 0 ⟨[],[(YB "default",dv)]⟩=pure [none,some dv] from rfl) ?_)
 refine wpAny_bind (wpAny_pure (wpAny_bind (iter_intList hl fun s2 e2 st hfp hlI=>?_)))
 subst e2
 refine wpAny_bind (wpAny_newList ?_ (zk _))
 rw [lname]
 refine wpAny_pure ⟨plainId_quiet Zq _,?_⟩
 have W:=Walks.list (prog:=prog) (w:=w) (A:=A.in1) hh s.heap.objs.size l hlI (intItems xs)
 refine loop (dv:=dv) W (fun i j=>decide (numAt xs i<numAt xs j)) (CmpOf.ints_lt (numAt xs) (fun _ _=>intItems_at)) _ (fun z=>yY _ (hfp _ z)) _ 0 _ #[] 0 rfl (zk _) ?_ (.inl ⟨rfl,rfl⟩) (yd _ rfl) fun v h' tk hv kk=>?_
 ·exact ⟨st.1.at fun o e=>ze _ e,st.2.at fun o e=>ze _ e⟩
 ·have kp:∀b o,s.heap.get? b=some o→h'.get? b=some o:=fun b o e=>by
   have lt:=zC e
   refine kk b o (fun z=>yF lt (zi.mp z)) (fun z=>?_) (ze _ (ze _ e))
   have:=yN s.heap { cls:=.type "list_iterator",data:=.fields #[.ref l,.int 0 0] }
   rw [z] at lt
   change (s.heap.push _).objs.size<_ at lt
   omega
  have hsz:(intItems xs).size=xs.size:=by simp [intItems]
  rw [hsz] at hv
  rcases hv with ⟨z,rfl⟩ | ⟨z,hv⟩
  ·exact h0 (by have:xs=#[]:=Array.eq_empty_of_size_eq_zero z;subst this;rfl) _ _ kp
  ·obtain ⟨t,rfl⟩:=intItems_at hv
   obtain ⟨h1,h2⟩:=argBest_lt (numAt xs) (xs.size - 1)
   refine h _ _ _ t kp ?_ fun a ha=>?_
   ·rw [numAt_eq];exact z48 (by rw [z0,yh];omega)
   ·obtain ⟨j,hj,rfl⟩:=mem_getD ha
    rw [z0,yh] at hj
    rw [←numAt_eq];exact h2 j (by omega)
end
end MinD
namespace L2
open PySem PySem.Spec PyProof.Rows
section
variable {X:Cx}
inductive MinK (K:z4)(Q:VK)(x dv:V)(H:Hp):Prop | mk (l:Addr) (ns:List Int) (_:x=.ref l) (_:SqL K H l (ns.map V.int)) (_:ns=[]→Q dv H) (_:∀m,m∈ns→(∀y,y∈ns→m≤y)→Q (.int m) H)
def tMinD (K:z4)(te td:TE):TE:=fun σ H Q=>te σ H fun x H1=>td σ H1 (MinK K Q x)
theorem z9X:bootBuiltins "min"=some (.builtin "min"):=by decide +kernel
theorem pe_minD {e d:Expr}{te td:TE}{p pos kpos:Pos}(hc:X.calm=true)(hg:Gl X "min")(hm:X.mg "min"=none)(he:PE X e te)(hd:PE X d td)(hs:starEach [e] X.env=[(false,eval e X.env)]:=by rfl) :
  PE X (.Call (.Name "min" p) [e] [⟨some "default",d,kpos⟩] pos) (tMinD X.K te td):=by
 intro pins s σ H Q I h
 refine wpAny_Call_Name_kw (VW I hg hm z9X ?_ (by decide) (by decide))
 have hkwl:backToKw pos (keywordEach [⟨some "default",d,kpos⟩] X.env)=[(some ("default":Str),do let v ←eval d X.env;standAt pos;pure v)]:=rfl
 obtain ⟨y,hargs⟩:∃y,backTo pos (starEach [e] X.env)=[(false,y)]:=by rw [hs];exact ⟨_,rfl⟩
 have pa:=(z3 he z7 hs) pos pins s σ H (fun vs H1=>match vs with
  | [x]=>td σ H1 (MinK X.K Q x)
  | _=>False) I h
 refine callWith_builtin_kwB (by rw [hargs];rfl) (by rw [hkwl];rfl) ?_
 rw [hargs] at pa ⊢
 refine evalArgs_kwB (by rw [hkwl];rfl) (thn pa fun us s1 ⟨vs,H1,I1,r1,q1⟩=>?_)
 match vs,r1,q1 with
 | [],_,q1=>exact q1.elim
 | _::_::_,_,q1=>exact q1.elim
 | [x0],r1,q1=>
  obtain ⟨u0,rfl,ru⟩:=z2e r1
  have pk:=(z8F (kpos:=kpos) (nm:=some "default") hd zas) pos pins s1 σ H1 (fun zs H2=>match zs with
   | [dv]=>MinK X.K Q x0 dv H2
   | _=>False) I1 q1
  refine thn pk fun ws s2 ⟨zs,H2,I2,rz,q2⟩=>?_
  match zs,rz,q2 with
  | [],_,q2=>exact q2.elim
  | _::_::_,_,q2=>exact q2.elim
  | [dv],rz,⟨l,ns,ex,hS,q0,qm⟩=>
   obtain ⟨w0,rfl,rw0⟩:=z2e rz
   subst ex
   have ru:u0=.ref l:=ru
   subst ru
   obtain ⟨its,rv,hl,_⟩:=I2.list hS
   exact MinD.raw (I2.ok.hd hc) hl.isList rv.ints (fun z h' tk hk=>⟨dv,H2,I2.kept hk,rw0,q0 z⟩) fun h' tk m t' hk h1 h2=>⟨.int m,H2,I2.kept hk,⟨_,rfl⟩,qm m h1 h2⟩
end
end L2
namespace L2
open PySem PySem.Spec PyProof.Rows
theorem Um {α β:Type}{f:α→β}:∀{l:List β}{ps:List α},l.Perm (ps.map f)→∃qs:List α,qs.Perm ps∧l=qs.map f
 | [],ps,h=>by
  have e:ps.map f=[]:=h.nil_eq.symm
  rw [W2] at e
  subst e
  exact ⟨[],.nil,rfl⟩
 | a::l,ps,h=>by
  have m:a∈ps.map f:=h.subset zn
  obtain ⟨x,hx,rfl⟩:=yr.mp m
  obtain ⟨s,t,rfl⟩:=List.append_of_mem hx
  have h2:(f x::l).Perm (f x::(s++t).map f):=h.trans (by
   rw [zw,zw,zJ]
   exact z3g)
  obtain ⟨qs,h3,rfl⟩:=Um (List.Perm.cons_inv h2)
  exact ⟨x::qs,(h3.cons x).trans z3g.symm,rfl⟩
def le2 (x y:Int×Int):Prop:=x.1<y.1∨(x.1=y.1∧x.2≤y.2)
theorem lex2 {a b c d:Int}(h:PyProof.Rows.lexLt itemOrd [J6 c,J6 d] [J6 a,J6 b]=false):le2 (a,b) (c,d):=by
 have h:(decide (c<a)||(!decide (a<c)&&(decide (d<b)||(!decide (b<d)&&false))))=false:=h
 unfold le2
 simp at h
 simp only
 omega
theorem z8z:∀{ps:List (Addr×Int×Int)}{us:List Value},yO (ps.map fun p=>V.ref p.1) us→us=ps.map fun p=>yU p.1
 | [],us,h=>by cases h;rfl
 | p::ps,us,h=>by
  cases h with
  | cons r t=>
   rw [z8z t]
   have r:_=yU p.1:=r
   rw [r]
   rfl
section
variable {X:Cx}
def zao (K:z4):List V→Hp→VK→Prop:=fun vs H Q=>∃(a:Addr) (ps:List (Addr×Int×Int)),vs=[V.ref a]∧SqL K H a (ps.map fun p=>V.ref p.1)∧(∀p∈ps,H p.1=some (.tup [.int p.2.1,.int p.2.2]))∧
 ∀(qs:List (Addr×Int×Int)) (D:Addr),qs.Perm ps→qs.Pairwise (fun x y=>le2 x.2 y.2)→H D=none→Q (.ref D) (upd H D (.lst (qs.map fun p=>V.ref p.1)))
theorem z8d:z1A X (.builtin "sorted") (zao X.K):=by
 intro pins s σ H vs us Q I r h
 obtain ⟨a,ps,rfl,hs,htup,q⟩:=h
 obtain ⟨its,rv,hl,hz⟩:=I.list hs
 rw [yO.ref1 r]
 have hits:=z8z rv
 subst hits
 rw [z0] at hz
 have key:∀p∈ps,G.tupKeyC s.heap (fun _=>false) (.ref p.1)=some [J6 p.2.1,J6 p.2.2]∧∃f,TupOf s.heap (fun _=>false) (.ref p.1) f:=fun p hp=>by
  obtain ⟨_,us,ru,o,e,c,n,d⟩:=I.hok p.1 _ (htup p hp)
  obtain ⟨u1,u2,rfl,⟨t1,rfl⟩,⟨t2,rfl⟩⟩:∃u1 u2,us=[u1,u2]∧jW (.int p.2.1) u1∧jW (.int p.2.2) u2:=by
   cases ru with
   | cons r1 t=>cases t with
    | cons r2 t=>cases t;exact ⟨_,_,rfl,r1,r2⟩
  refine ⟨?_,_,p.1,o,_,n,rfl,e,c,d,rfl,fun _=>⟨_,_,rfl⟩,fun z=>by cases z⟩
  unfold G.tupKeyC
  rw [if_pos (by simp [G.isTupObj,e,c])]
  simp only [tupKey,e,d]
  rfl
 have tups:∀l:List (Addr×Int×Int),(∀p∈l,∃f,TupOf s.heap (fun _=>false) (.ref p.1) f)→∃fs,TupsOf s.heap (fun _=>false) (l.map fun p=>yU p.1) fs:=fun l=>by
  induction l with
  | nil=>exact fun _=>⟨[],.nil⟩
  | cons p l ih=>
   intro h
   obtain ⟨f,hf⟩:=h p zn
   obtain ⟨fs,hfs⟩:=ih fun p hp=>h p (zg _ hp)
   exact ⟨f::fs,.cons hf hfs⟩
 obtain ⟨fs,hfs⟩:=tups ps fun p hp=>(key p hp).2
 refine G.sorted_tups hl.isList hfs (fun v hv=>?_) (by rw [z0];exact hz) fun st' h1 h2 _=>?_
 ·obtain ⟨p,hp,rfl⟩:=yr.mp hv
  exact ⟨_,(key p hp).1⟩
 ·have hp1:=Wu.mp h1
  rw [pairsOf_toList] at hp1
  have zz:∀l:List (Addr×Int×Int),(l.map fun p=>yU p.1).zip (l.map fun p=>yU p.1)=l.map fun p=>(yU p.1,yU p.1):=fun l=>by
   induction l with
   | nil=>rfl
   | cons p l ih=>simp only [zJ,List.zip_cons_cons,ih]
  rw [zz] at hp1
  obtain ⟨qs,hq1,hq2⟩:=Um hp1
  have hout:((arrOf st').map (·.2)).toList=qs.map fun p=>yU p.1:=by
   rw [Array.toList_map,hq2,zI];rfl
  have hlen:=hq1.length_eq
  obtain ⟨ep,he'⟩:=PyProof.Rows.sortedAll_at s.heap (ps.map fun p=>yU p.1) ((arrOf st').map (·.2))
  have hvs:∀l:List (Addr×Int×Int),yO (l.map fun p=>V.ref p.1) (l.map fun p=>yU p.1):=fun l=>by
   induction l with
   | nil=>exact .nil
   | cons p l ih=>exact .cons rfl ih
  refine ⟨.ref _,upd H (s.heap.objs.size+1) (.lst (qs.map fun p=>V.ref p.1)),I.laid (t':=s.toks) (fun _ _=>PyProof.Rows.sortedAll_old) (QQ _) ⟨by rw [z0,hlen];exact hz,((arrOf st').map (·.2)).toList,ep,?_,he'⟩,rfl,q qs _ hq1 ?_ (I.hok.fresh (QQ _))⟩
  ·rw [hout];exact hvs qs
  ·have hget:∀i (hi:i<qs.length),KK (G.tupKindC s.heap (fun _=>false)) (arrOf st') i=[J6 qs[i].2.1,J6 qs[i].2.2]:=fun i hi=>by
    unfold KK
    have e:(arrOf st')[i]?=some (yU qs[i].1,yU qs[i].1):=by
     rw [←qF,hq2,zB,z8 hi];rfl
    rw [e]
    show (G.tupKeyC s.heap (fun _=>false) (.ref qs[i].1)).getD []=_
    rw [(key qs[i] (hq1.subset (Vt hi))).1]
    rfl
   rw [z5q]
   intro i j hi hj hij
   have e:=h2 i j (J8 hij) (by rw [pairsOf_size,z0,←hlen];exact hj)
   rw [hget i hi,hget j hj] at e
   exact lex2 e
end
structure LT where
 P:Addr
 pos:Pos
 qual:Str
structure Kp (L:List LT)(H H':Hp):Prop where
 obj:∀b o,H b=some o→(∀ps,o≠.tbl ps)→H' b=some o
 tab:∀b ps,H b=some (.tbl ps)→∃ps',H' b=some (.tbl ps')
 lam:∀t∈L,Yv H t.P t.pos t.qual→Yv H' t.P t.pos t.qual
section
variable {L:List LT}{K:z4}{H H' H1 H2:Hp}{a l:Addr}
theorem Kp.refl:Kp L H H:=⟨fun _ _ e _=>e,fun _ ps e=>⟨ps,e⟩,fun _ _ h=>h⟩
theorem Kp.trans (a:Kp L H H1)(b:Kp L H1 H2):Kp L H H2:=
 ⟨fun c o e n=>b.obj c o (a.obj c o e n) n,fun c ps e=>let ⟨ps',e'⟩:=a.tab c ps e;b.tab c ps' e',fun t ht h=>b.lam t ht (a.lam t ht h)⟩
theorem W5.kp (a:W5 H H'):Kp L H H':=⟨fun b o e _=>a b o e,fun b ps e=>⟨ps,a b _ e⟩,fun _ _ h=>h.same a⟩
theorem Kp.free (k:Kp L H H')(h:H' l=none):H l=none:=by
 cases q:H l with
 | none=>rfl
 | some o=>
  by_cases z:∃ps,o=.tbl ps
  ·obtain ⟨ps,rfl⟩:=z
   obtain ⟨ps',e⟩:=k.tab _ _ q
   rw [e] at h;cases h
  ·rw [k.obj _ _ q fun ps e=>z ⟨ps,e⟩] at h;cases h
theorem Yn {o:HO}(h:H l=none):W5 H (upd H l o):=fun b u e=>by rw [zl (zT e h)];exact e
theorem Kp.new {o:HO}(k:Kp L H H')(h:H' l=none):Kp L H (upd H' l o):=k.trans (Yn h).kp
theorem Kp.put {o u:HO}(k:Kp L H H')(h:H l=none)(h':H' l=some u)(n:∀φ,u≠.ext φ):Kp L H (upd H' l o):=by
 refine ⟨fun b v e z=>?_,fun b ps e=>?_,fun t ht hl=>?_⟩
 ·rw [zl (zT e h)];exact k.obj b v e z
 ·rw [zl (zT e h)];exact k.tab b ps e
 ·obtain ⟨ps0,e0,_⟩:=id hl
  obtain ⟨ps,e1,alt⟩:=k.lam t ht hl
  refine ⟨ps,by rw [zl (zT e0 h)];exact e1,?_⟩
  rcases alt with q | ⟨c,q1,q2⟩
  ·exact .inl q
  ·exact .inr ⟨c,q1,by rw [zl (Zg q2 h' fun z=>n _ z.symm)];exact q2⟩
theorem Kp.putL {o:HO}{xs:List V}(k:Kp L H H')(h:H l=none)(h':H' l=some (.lst xs)):Kp L H (upd H' l o):=k.put h h' (by intro _ z;cases z)
theorem Kp.putI {o:HO}{C dx:Addr}{fs:List (Str×V)}(k:Kp L H H')(h:H l=none)(h':H' l=some (.ins C dx fs)):Kp L H (upd H' l o):=k.put h h' (by intro _ z;cases z)
theorem Kp.lst {xs:List V}(k:Kp L H H')(h:H a=some (.lst xs)):H' a=some (.lst xs):=k.obj _ _ h (by intro _ z;cases z)
theorem Kp.ins {C dx:Addr}{fs:List (Str×V)}(k:Kp L H H')(h:H a=some (.ins C dx fs)):H' a=some (.ins C dx fs):=k.obj _ _ h (by intro _ z;cases z)
theorem Kp.seq {xs:List V}(k:Kp L H H')(h:SqL K H a xs):SqL K H' a xs:=by
 rcases h with (h | ⟨o,h⟩) | h
 ·exact .inl (.inl (k.lst h))
 ·exact .inl (.inr ⟨o,k.obj _ _ h (by intro _ z;cases z)⟩)
 ·exact .inr h
theorem Kp.sortX {t:LT}(hL:t∈L)(hu:∀t'∈L,t'=t∨t'.P≠t.P)(s:Wq t.P H H')(a:Yv H t.P t.pos t.qual)(b:Yv H' t.P t.pos t.qual):Kp L H H':=by
 obtain ⟨ps,e,_⟩:=a
 obtain ⟨ps',e',alt⟩:=id b
 refine ⟨fun c o q n=>s c o q (fun z=>by rw [z,e] at q;cases q;exact n _ rfl),fun c qs q=>?_,fun t' ht' h=>?_⟩
 ·by_cases z:c=t.P
  ·exact ⟨ps',by rw [z];exact e'⟩
  ·exact ⟨qs,s c _ q z⟩
 ·rcases hu t' ht' with rfl | z
  ·exact b
  ·obtain ⟨qs,q,alt⟩:=h
   refine ⟨qs,s _ _ q z,?_⟩
   rcases alt with w | ⟨c,w1,w2⟩
   ·exact .inl w
   ·exact .inr ⟨c,w1,s _ _ w2 (Zg w2 e (by intro z;cases z))⟩
theorem Kp.tabs (k:Kp L H H')(h:∀t∈L,Yv H t.P t.pos t.qual):∀t∈L,Yv H' t.P t.pos t.qual:=fun t ht=>k.lam t ht (h t ht)
end
section
variable (P:Program)(w:World)(K:z4)(mg:Str→Option Value)(base:Heap)
def yT (k:Nat)(ps:List Str)(sp:Sp)(f:Addr):Prop:=∃j fd,j≤k∧GX P w K mg base (CX1 P w) j f fd ps sp∧GT K fd ps []
def ya (k:Nat)(x:Str)(ps:List Str)(sp:Sp):Prop:=∃f,mg x=some (.ref f)∧YG K (.ref f)=true∧yT P w K mg base k ps sp f
def zD (k:Nat)(C:Addr)(m:Str)(ps:List Str)(sp:Sp):Prop:=∃f,Cls K C∧Meth K C m f∧yT P w K mg base k ps sp f
def ju (k:Nat)(x:Str)(C:Addr)(ps:List Str)(sp:Sp):Prop:=∃f j,mg x=some (.ref C)∧Mk K C f∧j+1≤k∧yT P w K mg base j ps sp f
end
section
variable {P:Program}{w:World}{K:z4}{mg:Str→Option Value}{base:Heap}{k k':Nat}{ps:List Str}{sp:Sp}{f C:Addr}{x m:Str}
theorem yT.mono (h:yT P w K mg base k ps sp f)(q:k≤k'):yT P w K mg base k' ps sp f:=let ⟨j,fd,a,b⟩:=h;⟨j,fd,zd a q,b⟩
theorem ya.mono (h:ya P w K mg base k x ps sp)(q:k≤k'):ya P w K mg base k' x ps sp:=let ⟨f,a,b,c⟩:=h;⟨f,a,b,c.mono q⟩
theorem zD.mono (h:zD P w K mg base k C m ps sp)(q:k≤k'):zD P w K mg base k' C m ps sp:=let ⟨f,a,b,c⟩:=h;⟨f,a,b,c.mono q⟩
theorem ju.mono (h:ju P w K mg base k x C ps sp)(q:k≤k'):ju P w K mg base k' x C ps sp:=let ⟨f,j,a,b,c,d⟩:=h;⟨f,j,a,b,zd c q,d⟩
end
def tCl (sp:Sp)(E:XK)(t:TA):TE:=fun σ H Q=>t σ H fun vs H1=>sp vs H1 Q E
def tMt (C:Addr)(m:Str)(sp:Sp)(E:XK)(ta:TE)(t:TA):TE:=fun σ H Q=>ta σ H fun x H1=>MetK C m x H1 (t σ H1 fun vs H2=>sp (x::vs) H2 Q E)
def tMk (C:Addr)(sp:Sp)(E:XK)(t:TA):TE:=fun σ H Q=>t σ H fun vs H1=>∀x dx,H1 x=none→H1 dx=none→dx≠x→
 sp (.ref x::vs) (upd (upd H1 dx (.own x)) x (.ins C dx [])) (fun v H2=>v=.non∧Q (.ref x) H2) E
theorem tCl_eq {sp:Sp}{E:XK}{t:TA}:tCall sp [] E t=tCl sp E t:=by funext σ H Q;unfold tCall tCl;simp only [jn]
theorem zag {C:Addr}{m:Str}{sp:Sp}{E:XK}{ta:TE}{t:TA}:z8v C m sp [] E ta t=tMt C m sp E ta t:=by funext σ H Q;unfold z8v tMt;simp only [jn]
theorem zah {C:Addr}{sp:Sp}{E:XK}{t:TA}:z8w C sp [] E t=tMk C sp E t:=by funext σ H Q;unfold z8w tMk;simp only [jn]
theorem zL {P:Program}{w:World}{X:Cx}:JD (CX1 P w) X E0:=fun _ _ _ _ _ _ _ ⟨_,_,_,_,_,_,_,_,_,_,_,q⟩=>q.elim
section
variable {X:Cx}{k:Nat}{C:Addr}{ps:List Str}{sp:Sp}{E:XK}{x m:Str}{p pos apos:Pos}{e o:Expr}{es:List Expr}{ta:TE}{t:TA}
theorem yH (D:ya X.prog X.w X.K X.mg X.base k x ps sp)(hr:Yu k X.A)(hg:Gl X x)(hx:JD (CX1 X.prog X.w) X E)(ha:PA X (e::es) t)
  (hdb:(x==("__debug__":Str))=false:=by decide) (he:starEach (e::es) X.env=(false,eval e X.env)::starEach es X.env:=by rfl) (hpl:(backTo pos (starEach es X.env)).any (·.1)=false:=by rfl) :
  PE X (.Call (.Name x p) (e::es) [] pos) (tCl sp E t):=by
 obtain ⟨f,a,b,j,fd,hj,F,B⟩:=D
 rw [←tCl_eq]
 exact pe_call F (hr.mono hj) hg a b B .nil hx ha hdb he hpl
theorem jv {pl:Sem Bool}(D:zD X.prog X.w X.K X.mg X.base k C m ps sp)(hr:Yu k X.A)(hx:JD (CX1 X.prog X.w) X E)(ho:PE X o ta)(ha:PA X (e::es) t)
  (hst:starEach (e::es) X.env=(false,eval e X.env)::starEach es X.env:=by rfl) (hpl:(backTo pos (starEach es X.env)).any (·.1)=false:=by rfl)
  (ht:eval (.Call (.Attribute o m apos) (e::es) [] pos) X.env=(do
   let ov ←eval o X.env
   standAt apos.atName
   let (f,first) ←holding [ov] (getMethod ov m pl)
   callWith pos f first (backTo pos (starEach (e::es) X.env)) (backToKw pos (keywordEach [] X.env))):=by rfl) :
  PE X (.Call (.Attribute o m apos) (e::es) [] pos) (tMt C m sp E ta t):=by
 obtain ⟨f,c,a,j,fd,hj,F,B⟩:=D
 rw [←zag]
 exact pe_meth ho c a F (hr.mono hj) B .nil hx ha hst hpl ht
theorem jQ {pl:Sem Bool}(D:zD X.prog X.w X.K X.mg X.base k C m ps sp)(hr:Yu k X.A)(hx:JD (CX1 X.prog X.w) X E)(ho:PE X o ta)
  (ht:eval (.Call (.Attribute o m apos) [] [] pos) X.env=(do
   let ov ←eval o X.env
   standAt apos.atName
   let (f,first) ←holding [ov] (getMethod ov m pl)
   callWith pos f first (backTo pos (starEach [] X.env)) (backToKw pos (keywordEach [] X.env))):=by rfl) :
  PE X (.Call (.Attribute o m apos) [] [] pos) (tMt C m sp E ta Yl):=by
 obtain ⟨f,c,a,j,fd,hj,F,B⟩:=D
 rw [←zag]
 exact zau ho c a F (hr.mono hj) B .nil hx ht
theorem JP (D:ju X.prog X.w X.K X.mg X.base k x C ps sp)(hr:Yu k X.A)(hg:Gl X x)(hx:JD (CX1 X.prog X.w) X E)(ha:PA X (e::es) t)
  (hdb:(x==("__debug__":Str))=false:=by decide) (he:starEach (e::es) X.env=(false,eval e X.env)::starEach es X.env:=by rfl) (hpl:(backTo pos (starEach es X.env)).any (·.1)=false:=by rfl) :
  PE X (.Call (.Name x p) (e::es) [] pos) (tMk C sp E t):=by
 obtain ⟨f,i,a,b,hi,j,fd,hj,F,B⟩:=D
 rw [←zah]
 exact pe_make b F (hr.mono (zd (jP hj) hi)) hg a B .nil hx ha hdb he hpl
theorem pe_mk0 (D:ju X.prog X.w X.K X.mg X.base k x C ps sp)(hr:Yu k X.A)(hg:Gl X x)(hx:JD (CX1 X.prog X.w) X E)(hdb:(x==("__debug__":Str))=false:=by decide) :
  PE X (.Call (.Name x p) [] [] pos) (tMk C sp E Yl):=by
 obtain ⟨f,i,a,b,hi,j,fd,hj,F,B⟩:=D
 rw [←zah]
 exact zav b F (hr.mono (zd (jP hj) hi)) hg a B .nil hx hdb
end
section
variable {P:Program}{w:World}{K:z4}{mg:Str→Option Value}{base:Heap}
theorem Fun.okN {x qual:Str}{st:Stmt}{f:Addr}{fd:FuncData}{N ps:List Str}{k:Nat}{sp:Sp}(F:Fun K x qual st f fd)(S:zy N ps (zh st))
  (hbody:∀(cdv:Value) (A:Around) (outer:List Env) (s:Shared) (H:Hp) (vs:List V) (Q:VK) (E:XK),Yu k (A.deeper (envOfC qual (zh st) s.heap.objs.size f cdv))→sp vs H Q E→
   ∃t,PSs (GW (CX1 P w) P w K mg base N qual (zh st) f cdv A outer s H E).nox (ZS st) t∧t { nx:=fun _ H'=>Q .non H',rt:=Q } (start N vs) H)
  (bd:∀(kV doc pm:Value) (an:Option Addr) (cdv ct:Value) (us:List Value),us.length=ps.length→bindArgs (jU x qual (JA st) (ZS st) (zh st) .none kV doc pm an cdv ct) ⟨us,[]⟩=pure (ps.zip us):=by
   intro _ _ _ _ _ _ us hl;first | exact (match us,hl with | [_],_=>rfl) | exact (match us,hl with | [_,_],_=>rfl) | exact (match us,hl with | [_,_,_],_=>rfl) | exact (match us,hl with | [_,_,_,_],_=>rfl) | exact (match us,hl with | [_,_,_,_,_,_,_],_=>rfl))
  (len:∀vs H Q E,sp vs H Q E→vs.length=ps.length:=by intro vs H Q E h;cases h;subst_vars;rfl):yT P w K mg base (k+1) ps sp f:=by
 refine ⟨k+1,fd,zb _,?_,F.binds bd⟩
 obtain ⟨oc,od,kV,doc,pm,an,cdv,ct,osl,rfl,lk,hcd⟩:=F.ex
 refine z8P lk hcd S len fun A outer s H vs Q E hr hsp=>?_
 obtain ⟨t,h,q⟩:=hbody cdv A outer s H vs Q E hr hsp
 exact ⟨t,h.nox,q⟩
theorem Fun.okX {x qual:Str}{st:Stmt}{f:Addr}{fd:FuncData}{N ps:List Str}{k:Nat}{sp:Sp}(F:Fun K x qual st f fd)(S:zy N ps (zh st))
  (hbody:∀(cdv:Value) (A:Around) (outer:List Env) (s:Shared) (H:Hp) (vs:List V) (Q:VK) (E:XK),Yu k (A.deeper (envOfC qual (zh st) s.heap.objs.size f cdv))→sp vs H Q E→
   ∃t,PSs (GW (CX1 P w) P w K mg base N qual (zh st) f cdv A outer s H E) (ZS st) t∧t { nx:=fun _ H'=>Q .non H',rt:=Q } (start N vs) H)
  (bd:∀(kV doc pm:Value) (an:Option Addr) (cdv ct:Value) (us:List Value),us.length=ps.length→bindArgs (jU x qual (JA st) (ZS st) (zh st) .none kV doc pm an cdv ct) ⟨us,[]⟩=pure (ps.zip us):=by
   intro _ _ _ _ _ _ us hl;first | exact (match us,hl with | [_],_=>rfl) | exact (match us,hl with | [_,_],_=>rfl) | exact (match us,hl with | [_,_,_],_=>rfl) | exact (match us,hl with | [_,_,_,_],_=>rfl) | exact (match us,hl with | [_,_,_,_,_,_,_],_=>rfl))
  (len:∀vs H Q E,sp vs H Q E→vs.length=ps.length:=by intro vs H Q E h;cases h;subst_vars;rfl):yT P w K mg base (k+1) ps sp f:=by
 refine ⟨k+1,fd,zb _,?_,F.binds bd⟩
 obtain ⟨oc,od,kV,doc,pm,an,cdv,ct,osl,rfl,lk,hcd⟩:=F.ex
 exact z8P lk hcd S len fun A outer s H vs Q E hr hsp=>hbody cdv A outer s H vs Q E hr hsp
end
theorem Zr {α:Type}:∀{l:List α}{i:Nat}{x:α},l[i]?=some x→l.take (i+1)=l.take i++[x]
 | [],i,x,h=>by simp at h
 | a::l,0,x,h=>by
  have e:a=x:=zG h
  subst e
  rfl
 | a::l,i+1,x,h=>by
  have ih:=Zr (l:=l) (i:=i) (x:=x) h
  show a::l.take (i+1)=a::l.take i++[x]
  rw [ih]
  rfl
structure LcF (L:List LT)(H1:Hp)(D:Addr)(os:List (Option V))(i:Nat)(H2:Hp):Prop where
 kp:Kp L H1 H2
 at_:H2 D=some (.lst ((os.take i).filterMap id))
section
variable {L:List LT}{H1 H2 H4:Hp}{D:Addr}{os:List (Option V)}{i:Nat}{y:V}
theorem LcF.no (h:LcF L H1 D os i H2)(k:Kp L H2 H4)(ho:os[i]?=some none):LcF L H1 D os (i+1) H4:=
 ⟨h.kp.trans k,by rw [k.lst h.at_,Zr ho,z98];simp⟩
theorem LcF.yes (h:LcF L H1 D os i H2)(hD:H1 D=none)(hl:os.length≤sizeLine)(k:Kp L H2 H4)(ho:os[i]?=some (some y)) :
  UG D (LcF L H1 D os (i+1)) y H4:=by
 have lt:=(zo.mp ho).1
 refine ⟨_,k.lst h.at_,?_,(h.kp.trans k).putL hD (k.lst h.at_),?_⟩
 ·refine WO (List.length_filterMap_le _ _) ?_
  rw [Zx]
  omega
 ·rw [z5,Zr ho,z98]
  rfl
end
section
variable {L:List LT}{K:z4}{a D:Addr}{xs:List V}{g:TG}{tt:TT}{te:TE}{vs:List Nat}{σ:St}{H1:Hp}{Q:Hp→Prop}
theorem jS (os:List (Option V))(hS:SqL K H1 a xs)(hD:H1 D=none)(hlen:os.length=xs.length)
  (turn:∀i x o H2,xs[i]?=some x→os[i]?=some o→LcF L H1 D os i H2→g x (ZF σ vs) H2 fun σ2 H3=>ZF σ2 vs=ZF σ vs∧tt σ2 H3 fun b H4=>
   if b=true then te σ2 H4 (UG D (LcF L H1 D os (i+1))) else LcF L H1 D os (i+1) H4)
  (fin:∀H2,Kp L H1 H2→H2 D=some (.lst (os.filterMap id))→Q H2) :
  LcK g tt te vs σ Q (Itl K a) H1 D:=by
 refine z54 (K:=K) (a:=a) (xs:=xs) (LcF L H1 D os) ⟨Kp.refl.new hD,z5⟩ (fun i H2 _ h=>h.kp.seq hS) (fun i x H2 hi h=>?_) fun H2 h=>fin H2 h.kp (by rw [h.at_,←hlen,jO])
 have lt:i<os.length:=by rw [hlen];exact (zo.mp hi).1
 exact turn i x _ H2 hi (z8 lt) h
theorem z6m {lo:Int}{n:Nat}(os:List (Option V))(hD:H1 D=none)(hlen:os.length=n)
  (turn:∀i o H2,i<n→os[i]?=some o→LcF L H1 D os i H2→g (.int (lo+i)) (ZF σ vs) H2 fun σ2 H3=>ZF σ2 vs=ZF σ vs∧tt σ2 H3 fun b H4=>
   if b=true then te σ2 H4 (UG D (LcF L H1 D os (i+1))) else LcF L H1 D os (i+1) H4)
  (fin:∀H2,Kp L H1 H2→H2 D=some (.lst (os.filterMap id))→Q H2) :
  LcK g tt te vs σ Q (Itr lo n) H1 D:=by
 refine z2W (LcF L H1 D os) ⟨Kp.refl.new hD,z5⟩ (fun i H2 hi h=>?_) fun H2 h=>fin H2 h.kp (by rw [h.at_,←hlen,jO])
 have lt:i<os.length:=by rw [hlen];exact hi
 exact turn i _ H2 hi (z8 lt) h
end
structure LcA (L:List LT)(H1:Hp)(D:Addr)(Acc:Nat→List V→Hp→Prop)(i:Nat)(H2:Hp):Prop where
 kp:Kp L H1 H2
 at_:∃ys,H2 D=some (.lst ys)∧ys.length≤i∧Acc i ys H2
section
variable {L:List LT}{H1 H2 H4:Hp}{D:Addr}{Acc:Nat→List V→Hp→Prop}{i n:Nat}{y:V}
theorem LcA.yes (h:LcA L H1 D Acc i H2)(hD:H1 D=none)(hi:i<sizeLine)(k:Kp L H2 H4)(ac:∀ys,H2 D=some (.lst ys)→H4 D=some (.lst ys)→Acc i ys H2→Acc (i+1) (ys++[y]) (upd H4 D (.lst (ys++[y])))) :
  UG D (LcA L H1 D Acc (i+1)) y H4:=by
 obtain ⟨ys,e,hl,a⟩:=h.at_
 exact ⟨ys,k.lst e,by omega,(h.kp.trans k).putL hD (k.lst e),_,z5,by rw [za];exact jP hl,ac ys e (k.lst e) a⟩
end
section
variable {L:List LT}{K:z4}{a D:Addr}{xs:List V}{g:TG}{tt:TT}{te:TE}{vs:List Nat}{σ:St}{H1:Hp}{Q:Hp→Prop}
theorem zaN (Acc:Nat→List V→Hp→Prop)(hS:SqL K H1 a xs)(hD:H1 D=none)(h0:Acc 0 [] (upd H1 D (.lst [])))
  (turn:∀i x H2,xs[i]?=some x→LcA L H1 D Acc i H2→g x (ZF σ vs) H2 fun σ2 H3=>ZF σ2 vs=ZF σ vs∧tt σ2 H3 fun b H4=>
   if b=true then te σ2 H4 (UG D (LcA L H1 D Acc (i+1))) else LcA L H1 D Acc (i+1) H4)
  (fin:∀H2 ys,Kp L H1 H2→H2 D=some (.lst ys)→Acc xs.length ys H2→Q H2) :
  LcK g tt te vs σ Q (Itl K a) H1 D:=by
 refine z54 (K:=K) (a:=a) (xs:=xs) (LcA L H1 D Acc) ⟨Kp.refl.new hD,[],z5,zb _,h0⟩ (fun i H2 _ h=>h.kp.seq hS) (fun i x H2 hi h=>turn i x H2 hi h) fun H2 h=>?_
 obtain ⟨ys,e,_,ac⟩:=h.at_
 exact fin H2 ys h.kp e ac
theorem lc_accR {lo:Int}{n:Nat}(Acc:Nat→List V→Hp→Prop)(hD:H1 D=none)(h0:Acc 0 [] (upd H1 D (.lst [])))
  (turn:∀i H2,i<n→LcA L H1 D Acc i H2→g (.int (lo+i)) (ZF σ vs) H2 fun σ2 H3=>ZF σ2 vs=ZF σ vs∧tt σ2 H3 fun b H4=>
   if b=true then te σ2 H4 (UG D (LcA L H1 D Acc (i+1))) else LcA L H1 D Acc (i+1) H4)
  (fin:∀H2 ys,Kp L H1 H2→H2 D=some (.lst ys)→Acc n ys H2→Q H2) :
  LcK g tt te vs σ Q (Itr lo n) H1 D:=by
 refine z2W (LcA L H1 D Acc) ⟨Kp.refl.new hD,[],z5,zb _,h0⟩ (fun i H2 hi h=>turn i H2 hi h) fun H2 h=>?_
 obtain ⟨ys,e,_,ac⟩:=h.at_
 exact fin H2 ys h.kp e ac
end
structure Ats {α:Type}(R:Addr→α→Prop)(as:List Addr)(ds:List α):Prop where
 len:as.length=ds.length
 at_:∀(i:Nat) (a:Addr) (d:α),as[i]?=some a→ds[i]?=some d→R a d
section
variable {α:Type}{R R':Addr→α→Prop}{as bs:List Addr}{ds es:List α}{a:Addr}{d:α}
theorem Ats.imp (h:Ats R as ds)(k:∀a d,R a d→R' a d):Ats R' as ds:=⟨h.len,fun i a d x y=>k a d (h.at_ i a d x y)⟩
theorem Ats.nil:Ats R [] ([]:List α):=⟨rfl,fun i a d h _=>by simp at h⟩
theorem Ats.snoc (h:Ats R as ds)(r:R a d):Ats R (as++[a]) (ds++[d]):=by
 refine ⟨by rw [za,za,h.len];rfl,fun i b e x y=>?_⟩
 by_cases q:i<as.length
 ·rw [jx q] at x
  rw [jx (by rw [←h.len];exact q)] at y
  exact h.at_ i b e x y
 ·have hl:=h.len
  rw [ZB (Vx q)] at x
  rw [ZB (by omega)] at y
  have z:i - as.length=0:=by
   have:=(zo.mp x).1
   simp at this
   omega
  rw [z] at x
  rw [show i - ds.length=0 by omega] at y
  simp at x y
  subst x y
  exact r
theorem Ats.get (h:Ats R as ds){i:Nat}{x:V}(e:(as.map V.ref)[i]?=some x):∃a d,x=.ref a∧as[i]?=some a∧ds[i]?=some d∧R a d:=by
 rw [zB] at e
 cases q:as[i]? with
 | none=>rw [q] at e;cases e
 | some a=>
  rw [q] at e
  have lt:=(zo.mp q).1
  have lt':i<ds.length:=by rw [←h.len];exact lt
  exact ⟨a,ds[i],(zG e).symm,rfl,z8 lt',h.at_ _ _ _ q (z8 lt')⟩
theorem Ats.get' (h:Ats R as ds){i:Nat}{d:α}(e:ds[i]?=some d):∃a,(as.map V.ref)[i]?=some (.ref a)∧R a d:=by
 have lt:=(zo.mp e).1
 have lt':i<as.length:=by rw [h.len];exact lt
 exact ⟨as[i],by rw [zB,z8 lt'];rfl,h.at_ _ _ _ (z8 lt') e⟩
end
section
variable {L:List LT}{K:z4}{a b D:Addr}{xs ys:List V}{g:TG}{tt:TT}{te:TE}{vs:List Nat}{σ:St}{H1:Hp}{Q:Hp→Prop}
theorem lc_zipF (os:List (Option V))(hS:SqL K H1 a xs)(hT:SqL K H1 b ys)(hD:H1 D=none)(hlen:os.length=xs.length)(hl2:ys.length=xs.length)
  (turn:∀i x y o T H2,xs[i]?=some x→ys[i]?=some y→os[i]?=some o→LcF L H1 D os i H2→H2 T=none→g (.ref T) (ZF σ vs) (upd H2 T (.tup [x,y])) fun σ2 H3=>ZF σ2 vs=ZF σ vs∧tt σ2 H3 fun b H4=>
   if b=true then te σ2 H4 (UG D (LcF L H1 D os (i+1))) else LcF L H1 D os (i+1) H4)
  (fin:∀H2,Kp L H1 H2→H2 D=some (.lst (os.filterMap id))→Q H2) :
  LcK g tt te vs σ Q (Itz K a b) H1 D:=by
 refine ⟨fun i m H=>m=xs.length - i∧i≤xs.length∧LcF L H1 D os i H,⟨xs.length,by simp,zk _,Kp.refl.new hD,z5⟩,?_⟩
 rintro i m H ⟨rfl,hi,p⟩
 have q1:=p.kp.seq hS
 have q2:=p.kp.seq hT
 by_cases hlt:i<xs.length
 ·have l2:i<ys.length:=by omega
  have l3:i<os.length:=by omega
  refine .inr ⟨⟨xs,ys,xs[i],ys[i],q1,q2,by simp [hlt],by simp [l2]⟩,LcF L H1 D os (i+1),fun H' p'=>⟨xs.length - (i+1),by omega,rfl,hlt,p'⟩,fun v H' y=>?_⟩
  obtain ⟨T,x,y,rfl,nT,rfl,e1,e2⟩:=y
  exact turn i x y _ T H (e1 xs q1) (e2 ys q2) (z8 l3) p nT
 ·have e:i=xs.length:=by omega
  exact .inl ⟨⟨xs,ys,q1,q2,.inl (by omega)⟩,fin H p.kp (by rw [p.at_,Zu (by omega)])⟩
theorem zaM (os:List (Option V))(hS:SqL K H1 a xs)(hD:H1 D=none)(hlen:os.length=xs.length)
  (turn:∀(i:Nat) x o T H2,xs[i]?=some x→os[i]?=some o→LcF L H1 D os i H2→H2 T=none→g (.ref T) (ZF σ vs) (upd H2 T (.tup [.int (i:Nat),x])) fun σ2 H3=>ZF σ2 vs=ZF σ vs∧tt σ2 H3 fun b H4=>
   if b=true then te σ2 H4 (UG D (LcF L H1 D os (i+1))) else LcF L H1 D os (i+1) H4)
  (fin:∀H2,Kp L H1 H2→H2 D=some (.lst (os.filterMap id))→Q H2) :
  LcK g tt te vs σ Q (Ite K a) H1 D:=by
 refine ⟨fun i m H=>m=xs.length - i∧i≤xs.length∧LcF L H1 D os i H,⟨xs.length,by simp,zk _,Kp.refl.new hD,z5⟩,?_⟩
 rintro i m H ⟨rfl,hi,p⟩
 have q1:=p.kp.seq hS
 by_cases hlt:i<xs.length
 ·have l3:i<os.length:=by omega
  refine .inr ⟨⟨xs,xs[i],q1,by simp [hlt]⟩,LcF L H1 D os (i+1),fun H' p'=>⟨xs.length - (i+1),by omega,rfl,hlt,p'⟩,fun v H' y=>?_⟩
  obtain ⟨T,x,rfl,nT,rfl,e1⟩:=y
  exact turn i x _ T H (e1 xs q1) (z8 l3) p nT
 ·have e:i=xs.length:=by omega
  exact .inl ⟨⟨xs,q1,by omega⟩,fin H p.kp (by rw [p.at_,Zu (by omega)])⟩
end
section
variable {X:Cx}
def tRngL (ta:TA):TE:=fun σ H Q=>ta σ H fun vs H1=>∃lo hi:Int,vs=[.int lo,.int hi]∧(-(2 ^ 62)≤lo∧lo<2 ^ 62∧-(2 ^ 62)≤hi∧hi<2 ^ 62)∧(hi - lo).toNat≤1000∧
 ∀l,H1 l=none→Q (.ref l) (upd H1 l (.lst ((zf (hi - lo).toNat).map fun (i:Nat)=>V.int (lo+(i:Int)))))
theorem z9J {lo:Int}:∀{n:Nat}{acc:Array Value},ItemsOf (fun (i:Nat) (v:Value)=>∃t,v=W7 (lo+(i:Int) * 1) t) acc n→yO ((zf n).map fun (i:Nat)=>V.int (lo+(i:Int))) acc.toList:=by
 intro n acc h
 obtain ⟨hsz,hit⟩:=h
 have gen:∀(us:List Value) (k:Nat),(∀(j:Nat) (v:Value),us[j]?=some v→∃t,v=W7 (lo+((k+j:Nat):Int) * 1) t)→yO ((List.range' k us.length).map fun (i:Nat)=>V.int (lo+(i:Int))) us:=fun us=>by
  induction us with
  | nil=>intro k _;exact .nil
  | cons u us ih=>
   intro k hk
   rw [zu,List.range'_succ,zJ]
   refine .cons ?_ (ih (k+1) fun j v hj=>?_)
   ·obtain ⟨t,e⟩:=hk 0 u rfl
    exact ⟨t,by rw [e];congr 1;simp;try omega⟩
   ·obtain ⟨t,e⟩:=hk (j+1) v hj
    exact ⟨t,by rw [e];congr 1;simp;try omega⟩
 have e:=gen acc.toList 0 fun j v hj=>by
  obtain ⟨t,e⟩:=hit j v (by rw [←qF];exact hj)
  exact ⟨t,by rw [e];congr 1;simp;try omega⟩
 rw [yh,hsz,←List.range_eq_range'] at e
 exact e
theorem z7u {x y:Expr}{ta:TA}{p p2 pos pos2:Pos}(hc:X.calm=true)(hg:Gl X "list")(hm:X.mg "list"=none)(hg2:Gl X "range")(hm2:X.mg "range"=none)(ha:PA X [x,y] ta)
  (hs:starEach [x,y] X.env=[(false,eval x X.env),(false,eval y X.env)]:=by rfl) (hsy:starEach [y] X.env=[(false,eval y X.env)]:=by rfl)
  (hs2:starEach [.Call (.Name "range" p2) [x,y] [] pos2] X.env=[(false,eval (.Call (.Name "range" p2) [x,y] [] pos2) X.env)]:=by rfl) :
  PE X (.Call (.Name "list" p) [.Call (.Name "range" p2) [x,y] [] pos2] [] pos) (tRngL ta):=by
 intro pins s σ H Q I h
 have inner:wpAny (model X.prog X.w) X.A (eval (.Call (.Name "range" p2) [x,y] [] pos2) X.env) (fun v s2=>∃(r:Addr) (lo hi:Int) (t u w:Tok) (H1:Hp),v=.ref r∧Inv X pins σ H1 s2∧IsRange s2.heap r lo hi 1 t u w∧(-(2 ^ 62)≤lo∧lo<2 ^ 62∧-(2 ^ 62)≤hi∧hi<2 ^ 62)∧(hi - lo).toNat≤1000∧
   ∀l,H1 l=none→Q (.ref l) (upd H1 l (.lst ((zf (hi - lo).toNat).map fun (i:Nat)=>V.int (lo+(i:Int)))))) X.xe s:=by
  refine wpAny_Call_Name_kw (VW I hg2 hm2 boot_range ?_ (by decide) (by decide))
  refine j0 (thn (ha pos2 pins s σ H _ I h) fun us s1 ⟨vs,H1,I1,r1,q1⟩=>?_) (by rw [hs,hsy]) (by rw [hsy];rfl)
  obtain ⟨lo,hi,ev,bd,hn,q⟩:=q1
  subst ev
  cases r1 with
  | cons r rr=>
   cases rr with
   | cons r' rr=>
    cases rr
    obtain ⟨t,rfl⟩:=r
    obtain ⟨u,rfl⟩:=r'
    refine call_range_2 ?_
    exact ⟨_,lo,hi,t,u,s1.toks,H1,rfl,I1.kept fun b o e=>ze _ e,IsRange.new ..,bd,hn,q⟩
 refine wpAny_Call_Name_kw (VW I hg hm z3a ?_ (by decide) (by decide))
 refine j0 (Q:=EP X pins σ Q) ?_ hs2 rfl
 rw [hs2]
 refine z0C (thn inner fun v s2 ⟨r,lo,hi,t,u,w,H1,ev,I1,hr,⟨b1,b2,b3,b4⟩,hn,q⟩=>z1C ?_)
 subst ev
 have hrs:z1O lo hi 1=((hi - lo).toNat:Nat):=by rw [rangeSize_one];split <;> omega
 refine call_list_range (I1.ok.hd hc) hr (small_one b1 b2 b3 b4) hrs (by omega) fun h' tk acc' c' hk hS' hacc=>?_
 have I2:Inv X pins σ H1 { s2 with heap:=h',toks:=tk }:=I1.kept hk
 have nl:H1 s2.heap.objs.size=none:=I1.hok.fresh (zb _)
 have I3:=I2.adopt (D:=s2.heap.objs.size) (u:=.lst ((zf (hi - lo).toNat).map fun (i:Nat)=>V.int (lo+(i:Int)))) (I1.fpOk (zb _) nl) ⟨by rw [z0,yA,sizeLine_eq];omega,acc'.toList,c',z9J hacc,by simpa using hS'⟩
 exact ⟨.ref s2.heap.objs.size,_,I3,rfl,q _ nl⟩
end
end L2
namespace LI
open VaidxBase
abbrev Qst:=VaidxBase.Question
structure QOk (n:Nat)(q:Qst):Prop where
 fl:q.filters.length≤4
 fc:∀f∈q.filters,f.col<n
 ap:apart (q.filters.map fun f=>f.col)=true
 ol:q.order.length≤4
 wl:q.wants.length≤4
 lim:q.limit≤1000000
 tms:q.times≤1000
structure IOk (n:Nat)(i:Index):Prop where
 kl:i.keys.length≤4
 il:i.others.length≤4
 kc:∀c∈i.keys,c<n
 oc:∀f,i.only=some f→f.col<n
structure TOk (t:Table):Prop where
 gl:t.groups.length≤12
 row:∀g∈t.groups,g.row.length=t.cols
 cnt:∀g∈t.groups,g.count≤1000000
def QA (q:Qst):List Nat:=(q.filters.filter isEqual).map (·.col)
def GB (l:List Nat)(q:Qst):List Nat:=l.filter fun c=>!(QA q).contains c
theorem z34:∀{l:List Filter}{f:Filter},apart (l.map fun f=>f.col)=true→f∈l→(l.find? fun g=>g.col==f.col)=some f
 | g::l,f,h,m=>by
  rw [zJ,apart,ye] at h
  rcases zx.mp m with rfl | m
  ·rw [List.find?_cons_of_pos (by simp)]
  ·have n:g.col≠f.col:=fun z=>by
    have h1:=h.1
    rw [Bool.not_eq_true'] at h1
    have:(l.map fun f=>f.col).contains g.col=true:=by rw [ZE,z];exact List.mem_map_of_mem m
    rw [this] at h1;cases h1
   rw [List.find?_cons_of_neg (by simpa using n)]
   exact z34 h.2 m
theorem Uz {q:Qst}{f:Filter}(ap:apart (q.filters.map fun f=>f.col)=true)(m:f∈q.filters):filterOn q f.col=some f:=z34 ap m
theorem GJ {q:Qst}{c:Nat}{f:Filter}(h:filterOn q c=some f):f∈q.filters∧f.col=c:=by
 unfold filterOn at h
 exact ⟨z5r h,by simpa using List.find?_some h⟩
theorem z3X {q:Qst}(ap:apart (q.filters.map fun f=>f.col)=true)(c:Nat):(QA q).contains c=equalOn q c:=by
 rw [y8,ZE]
 unfold QA equalOn
 constructor
 ·intro h
  obtain ⟨f,hf,rfl⟩:=yr.mp h
  obtain ⟨m,e⟩:=yg.mp hf
  rw [Uz ap m]
  exact e
 ·intro h
  cases q1:filterOn q c with
  | none=>rw [q1] at h;cases h
  | some f=>
   rw [q1] at h
   obtain ⟨m,rfl⟩:=GJ q1
   exact yr.mpr ⟨f,yg.mpr ⟨m,h⟩,rfl⟩
theorem z3Q {q:Qst}(ap:apart (q.filters.map fun f=>f.col)=true)(l:List Nat):GB l q=l.filter fun c=>!equalOn q c:=by
 unfold GB
 congr 1
 funext c
 rw [z3X ap]
theorem z0a {q:Qst}(ap:apart (q.filters.map fun f=>f.col)=true):GB q.order q=orderLeft q:=z3Q ap _
def Ww (f g:Filter):Bool:=f.col==g.col&&(decide (g.lo≤f.lo)&&decide (f.hi≤g.hi))
theorem z74 {q:Qst}(ap:apart (q.filters.map fun f=>f.col)=true)(g:Filter):q.filters.any (fun f=>Ww f g)=(filterOn q g.col).any fun f=>decide (g.lo≤f.lo)&&decide (f.hi≤g.hi):=by
 rw [y8,List.any_eq_true]
 constructor
 ·rintro ⟨f,m,h⟩
  unfold Ww at h
  rw [ye] at h
  have e:f.col=g.col:=by simpa using h.1
  rw [←e,Uz ap m]
  exact h.2
 ·intro h
  cases q1:filterOn q g.col with
  | none=>rw [q1] at h;cases h
  | some f=>
   rw [q1] at h
   obtain ⟨m,e⟩:=GJ q1
   exact ⟨f,m,by unfold Ww;rw [e];simpa using h⟩
theorem z9S {i:Index}{q:Qst}:(((needed q).filter fun c=>!(columnsOf i).contains c)==[])=covers i q:=by
 unfold covers
 rw [y8]
 simp [z8p]
theorem z9l {q:Qst}(ap:apart (q.filters.map fun f=>f.col)=true)(l:List Nat)(p:Filter→Bool):(q.filters.filter fun f=>l.contains f.col).all p=(l.filterMap (filterOn q)).all p:=by
 rw [y8,j4,j4]
 constructor
 ·intro h f hf
  obtain ⟨c,hc,e⟩:=JG.mp hf
  obtain ⟨m,rfl⟩:=GJ e
  exact h f (yg.mpr ⟨m,by rw [ZE];exact hc⟩)
 ·intro h f hf
  obtain ⟨m,e⟩:=yg.mp hf
  rw [ZE] at e
  exact h f (JG.mpr ⟨f.col,e,Uz ap m⟩)
theorem z0k (q:Qst):∀l:List Nat,equalKeys q l≤l.length
 | []=>zb _
 | c::l=>by
  unfold equalKeys
  split
  ·exact jP (z0k q l)
  ·exact zk _
theorem qO {q:Qst}:∀{l:List Nat}{j:Nat}{c:Nat},l[j]?=some c→j<equalKeys q l→equalOn q c=true
 | a::l,0,c,h,hj=>by
  have e:a=c:=zG h
  unfold equalKeys at hj
  split at hj
  ·rw [←e];assumption
  ·cases hj
 | a::l,j+1,c,h,hj=>by
  unfold equalKeys at hj
  split at hj
  ·exact qO (l:=l) (j:=j) (by simpa using h) (by omega)
  ·cases hj
theorem z0l {q:Qst}:∀{l:List Nat}{c:Nat},l[equalKeys q l]?=some c→equalOn q c=false
 | a::l,c,h=>by
  unfold equalKeys at h
  split at h
  ·exact z0l (l:=l) (by simpa using h)
  ·rename_i n
   have e:a=c:=by simpa using h
   rw [←e];simpa using n
theorem qk:∀(l:List Nat) (a:Nat),l.foldl (fun a b=>a+b) a=a+l.foldl (fun a b=>a+b) 0
 | [],a=>by simp
 | b::l,a=>by
  rw [yC,yC,qk l (a+b),qk l (0+b)]
  omega
theorem Gw:rowsOf []=0:=rfl
theorem jZ (g:Group)(l:List Group):rowsOf (g::l)=g.count+rowsOf l:=by
 unfold rowsOf
 rw [zJ,yC,qk]
 omega
theorem z3L {B:Nat}:∀{l:List Group},(∀g∈l,g.count≤B)→rowsOf l≤l.length * B
 | [],_=>zk _
 | g::l,h=>by
  rw [jZ,zu,z96]
  have:=h g zn
  have:=z3L (l:=l) fun g hg=>h g (zg _ hg)
  omega
def goN (fnd:List Nat→Bool)(g:Group)(m:Nat):Nat:=if fnd g.row=true then min g.count m else g.count
def goM (fnd:List Nat→Bool)(g:Group)(m:Nat):Nat:=if fnd g.row=true then m - min g.count m else m
def go (fnd:List Nat→Bool):List Group→Nat→List Group
 | [],_=>[]
 | g::gs,m=>⟨g.row,goN fnd g m⟩::(if goM fnd g m=0 then [] else go fnd gs (goM fnd g m))
theorem goN_le (fnd:List Nat→Bool)(g:Group)(m:Nat):goN fnd g m≤g.count:=by
 unfold goN
 split
 ·exact z49 _ _
 ·exact zb _
def Jn (fnd:List Nat→Bool)(lim:Nat)(free:Bool)(gs:List Group):List Group:=if free=false∨lim=0 then gs else go fnd gs lim
theorem U2 (first last:List Nat→Bool):∀(gs:List Group) (t p f:Nat),goThrough first last 0 gs ⟨t,p,f⟩=⟨t+rowsOf gs,p+rowsOf (gs.filter fun g=>first g.row),f+rowsOf (gs.filter fun g=>last g.row)⟩
 | [],t,p,f=>rfl
 | g::gs,t,p,f=>by
  unfold goThrough
  simp only [ne_eq,not_true_eq_false,false_and,if_false]
  rw [U2 first last gs,jZ,j3,j3]
  congr 1
  ·omega
  ·by_cases h:first g.row=true
   ·rw [if_pos h,if_pos h,jZ];omega
   ·rw [if_neg h,if_neg h]
  ·by_cases h:last g.row=true
   ·rw [if_pos h,if_pos h,jZ];omega
   ·rw [if_neg h,if_neg h]
theorem qY (first last:List Nat→Bool){lim:Nat}(hl:lim≠0):∀(gs:List Group) (t p f:Nat),f<lim→
  goThrough first last lim gs ⟨t,p,f⟩=⟨t+rowsOf (go last gs (lim - f)),p+rowsOf ((go last gs (lim - f)).filter fun g=>first g.row),f+rowsOf ((go last gs (lim - f)).filter fun g=>last g.row)⟩
 | [],t,p,f,_=>rfl
 | g::gs,t,p,f,hf=>by
  unfold goThrough go goN goM
  have h0:¬(lim≠0∧lim - f=0):=by omega
  simp only [if_neg h0]
  by_cases hfn:last g.row=true
  ·have en:(if lim≠0∧last g.row=true∧lim - f<g.count then lim - f else g.count)=min g.count (lim - f):=by
    by_cases h:lim - f<g.count
    ·rw [if_pos ⟨hl,hfn,h⟩];omega
    ·rw [if_neg (fun z=>h z.2.2)];omega
   rw [en]
   simp only [if_pos hfn]
   by_cases hz:lim - f - min g.count (lim - f)=0
   ·rw [if_pos hz,jZ,Gw,j3,j3,List.filter_nil,List.filter_nil]
    have stop:∀(gs:List Group) (t p f:Nat),lim - f=0→goThrough first last lim gs ⟨t,p,f⟩=⟨t,p,f⟩:=fun gs t p f h=>by
     cases gs with
     | nil=>rfl
     | cons g gs=>unfold goThrough;simp only [if_pos (show lim≠0∧lim - f=0 from ⟨hl,h⟩)]
    rw [stop gs _ _ _ (by omega)]
    congr 1
    ·by_cases h:first g.row=true
     ·simp only [if_pos h];rw [jZ,Gw];simp only [];omega
     ·simp only [if_neg h];rw [Gw];omega
    ·simp only [if_pos hfn];rw [jZ,Gw];simp only [];omega
   ·rw [if_neg hz,qY first last hl gs _ _ _ (by omega),jZ,j3,j3]
    have e1:lim - (f+min g.count (lim - f))=lim - f - min g.count (lim - f):=by omega
    rw [e1]
    congr 1
    ·simp only [];omega
    ·by_cases h:first g.row=true
     ·simp only [if_pos h];rw [jZ];simp only [];omega
     ·simp only [if_neg h]
    ·simp only [if_pos hfn];rw [jZ];simp only [];omega
  ·have en:(if lim≠0∧last g.row=true∧lim - f<g.count then lim - f else g.count)=g.count:=if_neg (fun z=>hfn z.2.1)
   rw [en]
   simp only [if_neg hfn]
   rw [if_neg (by omega:¬lim - f=0),qY first last hl gs _ _ _ hf,jZ,j3,j3]
   congr 1
   ·simp only [];omega
   ·by_cases h:first g.row=true
    ·simp only [if_pos h];rw [jZ];simp only [];omega
    ·simp only [if_neg h]
   ·simp only [if_neg hfn]
theorem qI (first last:List Nat→Bool)(lim:Nat)(free:Bool)(gs:List Group) :
  goThrough first last (if free=true then lim else 0) gs ⟨0,0,0⟩=⟨rowsOf (Jn last lim free gs),rowsOf ((Jn last lim free gs).filter fun g=>first g.row),rowsOf ((Jn last lim free gs).filter fun g=>last g.row)⟩:=by
 cases free with
 | true=>
  by_cases hl:lim=0
  ·have e:Jn last lim true gs=gs:=if_pos (.inr hl)
   rw [e,if_pos rfl,hl,U2];simp
  ·have e:Jn last lim true gs=go last gs lim:=if_neg (by simp [hl])
   rw [e,if_pos rfl,qY first last hl gs 0 0 0 (by omega)];simp
 | false=>
  have e:Jn last lim false gs=gs:=if_pos (.inl rfl)
  rw [e,if_neg zR,U2];simp
theorem zaV (fnd:List Nat→Bool):∀(gs:List Group) (m:Nat),(go fnd gs m).length≤gs.length
 | [],_=>zb _
 | g::gs,m=>by
  unfold go
  rw [zu,zu]
  refine jP ?_
  split
  ·exact zk _
  ·exact zaV fnd gs _
theorem zaU (fnd:List Nat→Bool):∀(gs:List Group) (m:Nat) (x:Group),x∈go fnd gs m→∃g∈gs,x.row=g.row∧x.count≤g.count
 | [],_,_,h=>by cases h
 | g::gs,m,x,h=>by
  unfold go at h
  rcases zx.mp h with rfl | h
  ·exact ⟨g,zn,rfl,goN_le fnd g m⟩
  ·split at h
   ·cases h
   ·obtain ⟨y,hy,e⟩:=zaU fnd gs _ x h
    exact ⟨y,zg _ hy,e⟩
theorem z9d (fnd:List Nat→Bool)(lim:Nat)(free:Bool)(gs:List Group):(Jn fnd lim free gs).length≤gs.length:=by
 unfold Jn
 split
 ·exact zb _
 ·exact zaV _ _ _
theorem z3F (fnd:List Nat→Bool)(lim:Nat)(free:Bool)(gs:List Group)(x:Group)(h:x∈Jn fnd lim free gs):∃g∈gs,x.row=g.row∧x.count≤g.count:=by
 unfold Jn at h
 split at h
 ·exact ⟨x,h,rfl,zb _⟩
 ·exact zaU _ _ _ _ h
theorem za9 {t:Table}{q:Qst}{free:Bool}(hf:free=(orderLeft q).isEmpty):wholeCost t q=2 * rowsOf (Jn (found q) q.limit free t.groups)+(if free=true then 0 else 3 * rowsOf ((Jn (found q) q.limit free t.groups).filter fun g=>found q g.row)):=by
 subst hf
 unfold wholeCost wholeWork
 simp only [qI]
 split <;> simp [ROW,SORT]
theorem zaS {t:Table}{i:Index}{q:Qst}:indexCost t i q=rowsOf (Jn (found q) q.limit (isFree i q) (entries t i q))+(if covers i q=true then 0 else 4 * rowsOf ((Jn (found q) q.limit (isFree i q) (entries t i q)).filter fun g=>(ownFilters i q).all (passes g.row))) +
  (if isFree i q=true then 0 else 3 * rowsOf ((Jn (found q) q.limit (isFree i q) (entries t i q)).filter fun g=>found q g.row)):=by
 unfold indexCost indexWork
 simp only [qI]
 unfold ENTRY LOOKUP SORT
 rw [Nat.one_mul]
 congr 1
 ·congr 1
  split <;> simp
 ·split <;> simp
theorem z1s:∀(cs:List Nat) (r:List Nat),less cs r r=false
 | [],_=>rfl
 | c::cs,r=>by unfold less;simp [z1s cs r]
theorem qg {c:Nat}{cs r s:List Nat}:less (c::cs) r s=true↔valueAt r c<valueAt s c∨(valueAt r c=valueAt s c∧less cs r s=true):=by
 show (decide (valueAt r c<valueAt s c)||(valueAt r c==valueAt s c&&less cs r s))=true↔_
 simp
theorem Qx:∀{cs r s t:List Nat},less cs r s=true→less cs s t=true→less cs r t=true
 | [],_,_,_,h,_=>by cases h
 | c::cs,r,s,t,h1,h2=>by
  rw [qg] at h1 h2 ⊢
  rcases h1 with h1 | ⟨e1,h1⟩ <;> rcases h2 with h2 | ⟨e2,h2⟩
  ·exact .inl (by omega)
  ·exact .inl (by omega)
  ·exact .inl (by omega)
  ·exact .inr ⟨by omega,Qx h1 h2⟩
theorem z6k:∀{cs r t:List Nat} (s:List Nat),less cs r t=true→less cs r s=true∨less cs s t=true
 | [],_,_,_,h=>by cases h
 | c::cs,r,t,s,h=>by
  rw [qg] at h
  rw [qg,qg]
  rcases h with h | ⟨e,h⟩
  ·by_cases h1:valueAt r c<valueAt s c
   ·exact .inl (.inl h1)
   ·exact .inr (.inl (by omega))
  ·by_cases h1:valueAt r c<valueAt s c
   ·exact .inl (.inl h1)
   ·by_cases h2:valueAt s c<valueAt t c
    ·exact .inr (.inl h2)
    ·rcases z6k s h with h3 | h3
     ·exact .inl (.inr ⟨by omega,h3⟩)
     ·exact .inr (.inr ⟨by omega,h3⟩)
abbrev GI:=Group×Nat
def Bef (cs:List Nat)(x y:GI):Prop:=less cs x.1.row y.1.row=true∨(less cs y.1.row x.1.row=false∧x.2<y.2)
theorem Bef.asymm {cs:List Nat}{x y:GI}(a:Bef cs x y)(b:Bef cs y x):False:=by
 rcases a with a | ⟨a1,a2⟩ <;> rcases b with b | ⟨b1,b2⟩
 ·have:=Qx a b;rw [z1s] at this;cases this
 ·rw [a] at b1;cases b1
 ·rw [b] at a1;cases a1
 ·omega
def z2J (cs:List Nat)(x:GI):List GI→List GI
 | []=>[x]
 | h::l=>if less cs x.1.row h.1.row then x::h::l else h::z2J cs x l
def z5B (cs:List Nat)(l:List GI):List GI:=l.foldl (fun k x=>z2J cs x k) []
theorem z5W (cs:List Nat)(x:GI):∀l:List GI,(z2J cs x l).map (·.1)=putGroup cs x.1 (l.map (·.1))
 | []=>rfl
 | h::l=>by
  unfold z2J
  rw [zJ]
  unfold putGroup
  by_cases q:less cs x.1.row h.1.row=true
  ·rw [if_pos q,if_pos q];rfl
  ·rw [if_neg q,if_neg q,zJ,z5W cs x l]
theorem WZ (cs:List Nat)(l:List GI):(z5B cs l).map (·.1)=sortedBy cs (l.map (·.1)):=by
 have h:∀(l k:List GI),(l.foldl (fun k x=>z2J cs x k) k).map (·.1)=(l.map (·.1)).foldl (fun k g=>putGroup cs g k) (k.map (·.1)):=fun l=>by
  induction l with
  | nil=>intro k;rfl
  | cons x l ih=>intro k;rw [yC,ih,zJ,yC,z5W]
 exact h l []
theorem UZ (cs:List Nat)(x:GI):∀l:List GI,(z2J cs x l).Perm (x::l)
 | []=>.refl _
 | h::l=>by
  unfold z2J
  split
  ·exact .refl _
  ·exact ((UZ cs x l).cons h).trans (.swap x h l)
theorem z32 (cs:List Nat):∀(l k:List GI),(l.foldl (fun k x=>z2J cs x k) k).Perm (k++l)
 | [],k=>by simp
 | x::l,k=>by
  rw [yC]
  refine (z32 cs l _).trans ?_
  refine ((UZ cs x k).append_right l).trans ?_
  exact (z3g).symm
theorem VP (cs:List Nat)(l:List GI):(z5B cs l).Perm l:=z32 cs l []
theorem z8D {cs:List Nat}{x:GI}:∀{l:List GI},l.Pairwise (Bef cs)→(∀y∈l,y.2<x.2)→(z2J cs x l).Pairwise (Bef cs)
 | [],_,_=>z6O _ _
 | h::l,hp,hx=>by
  obtain ⟨h1,h2⟩:=j8.mp hp
  unfold z2J
  by_cases q:less cs x.1.row h.1.row=true
  ·rw [if_pos q]
   refine j8.mpr ⟨fun y hy=>?_,hp⟩
   rcases zx.mp hy with rfl | hy
   ·exact .inl q
   ·rcases h1 y hy with b | ⟨b1,_⟩
    ·exact .inl (Qx q b)
    ·rcases z6k y.1.row q with b | b
     ·exact .inl b
     ·rw [b] at b1;cases b1
  ·rw [if_neg q]
   refine j8.mpr ⟨fun y hy=>?_,z8D h2 fun y hy=>hx y (zg _ hy)⟩
   rcases zx.mp ((UZ cs x l).mem_iff.mp hy) with rfl | hy
   ·exact .inr ⟨by simpa using q,hx h zn⟩
   ·exact h1 y hy
theorem z6v {cs:List Nat}:∀{l k:List GI},l.Pairwise (fun x y=>x.2<y.2)→k.Pairwise (Bef cs)→(∀y∈k,∀x∈l,y.2<x.2)→(l.foldl (fun k x=>z2J cs x k) k).Pairwise (Bef cs)
 | [],_,_,hk,_=>hk
 | x::l,k,hl,hk,h=>by
  obtain ⟨h1,h2⟩:=j8.mp hl
  rw [yC]
  refine z6v h2 (z8D hk fun y hy=>h y hy x zn) fun y hy z hz=>?_
  rcases zx.mp ((UZ cs x k).mem_iff.mp hy) with rfl | hy
  ·exact h1 z hz
  ·exact h y hy z (zg _ hz)
theorem z5A {cs:List Nat}{l:List GI}(hl:l.Pairwise (fun x y=>x.2<y.2)):(z5B cs l).Pairwise (Bef cs):=z6v hl .nil fun y hy=>by cases hy
theorem z2q {cs:List Nat}{l m:List GI}(hl:l.Pairwise (fun x y=>x.2<y.2))(p:m.Perm l)(hm:m.Pairwise (Bef cs)):m=z5B cs l:=
 List.Perm.eq_of_pairwise (fun a b _ _ h1 h2=>(h1.asymm h2).elim) hm (z5A hl) (p.trans (VP cs l).symm)
theorem z0D:∀(l:List Group) (n:Nat),(l.zipIdx n).Pairwise (fun x y=>x.2<y.2)
 | [],_=>.nil
 | g::l,n=>by
  rw [List.zipIdx_cons]
  refine j8.mpr ⟨fun y hy=>?_,z0D l (n+1)⟩
  have:=List.le_snd_of_mem_zipIdx hy
  show n<y.2
  omega
theorem z1D (cs:List Nat)(l:List Group)(p:Group→Bool):sortedBy cs (l.filter p)=(sortedBy cs l).filter p:=by
 have e1:l=(l.zipIdx).map (·.1):=by simp
 have hl:=z0D l 0
 generalize l.zipIdx=tl at e1 hl
 subst e1
 have h:=z2q (cs:=cs) (l:=tl.filter fun x=>p x.1) (m:=(z5B cs tl).filter fun x=>p x.1) (hl.filter _) ((VP cs tl).filter _) ((z5A hl).filter _)
 have e2:(tl.map (·.1)).filter p=(tl.filter fun x=>p x.1).map (·.1):=by rw [z3B];rfl
 rw [e2,←WZ,←h,←WZ,z3B]
 rfl
theorem z5z {cs:List Nat}{G:List Group}{p:List Nat}(hp:p.Perm (zf G.length))
  (hb:p.Pairwise fun i j=>less cs (G.getD i default).row (G.getD j default).row=true∨(less cs (G.getD j default).row (G.getD i default).row=false∧i<j)):p.map (fun i=>G.getD i default)=sortedBy cs G:=by
 have h:=z2q (cs:=cs) (l:=G.zipIdx) (m:=p.map fun i=>(G.getD i default,i)) (z0D G 0) (by
  refine (hp.map _).trans (List.Perm.of_eq ?_)
  refine z1M fun i=>?_
  rw [zB,List.getElem?_zipIdx]
  by_cases q:i<G.length
  ·rw [z8 (by simpa using q),z8 q]
   simp [q]
  ·rw [jp (by simpa using q),jp (by simpa using q)];rfl) (List.pairwise_map.mpr hb)
 have e:=congrArg (z1L (·.1)) h
 rw [zI,WZ] at e
 rw [show p.map (fun i=>G.getD i default)=p.map ((fun x:GI=>x.1)∘fun i=>(G.getD i default,i)) from rfl,e]
 simp
theorem z8c {t:Table}{i:Index}{q:Qst}{fs:List Filter}(h:∀p:Filter→Bool,fs.all p=(rangeFilters i q).all p) :
  entries t i q=(if q.back then (sortedBy i.keys (t.groups.filter fun g=>isIn i g.row&&fs.all (passes g.row))).reverse else sortedBy i.keys (t.groups.filter fun g=>isIn i g.row&&fs.all (passes g.row))):=by
 have e:sortedBy i.keys (t.groups.filter fun g=>isIn i g.row&&fs.all (passes g.row))=(sortedBy i.keys (t.groups.filter fun g=>isIn i g.row)).filter fun g=>(rangeFilters i q).all (passes g.row):=by
  rw [←z1D,List.filter_filter]
  congr 1
  congr 1
  funext g
  rw [h,Bool.and_comm]
 rw [e]
 rfl
theorem QZ {cs:List Nat}{l:List Group}{g:Group}:g∈sortedBy cs l↔g∈l:=by
 have e1:l=(l.zipIdx).map (·.1):=by simp
 generalize l.zipIdx=tl at e1
 subst e1
 rw [←WZ,yr,yr]
 constructor
 ·rintro ⟨x,hx,e⟩;exact ⟨x,(VP cs tl).mem_iff.mp hx,e⟩
 ·rintro ⟨x,hx,e⟩;exact ⟨x,(VP cs tl).mem_iff.mpr hx,e⟩
theorem z4j {cs:List Nat}{l:List Group}:(sortedBy cs l).length=l.length:=by
 have e1:l=(l.zipIdx).map (·.1):=by simp
 generalize l.zipIdx=tl at e1
 subst e1
 rw [←WZ,z0,z0,(VP cs tl).length_eq]
end LI
namespace LI
open Vaidxd
theorem z2V (c:Costs)(s:Set_)(i:Nat):leastCost c (s++[i])=(match costBy c i with | some m=>YO (leastCost c s) m | none=>leastCost c s):=by
 unfold leastCost
 rw [V1]
 rfl
theorem Qy (c:Costs):∀(s:Set_) (n:Nat),(s.foldl (fun n i=>match costBy c i with | some m=>YO n m | none=>n) n)≤n
 | [],_=>zb _
 | i::s,n=>by
  rw [yC]
  refine zd (Qy c s _) ?_
  split
  ·exact z49 _ _
  ·exact zb _
theorem z6l (c:Costs)(s:Set_):leastCost c s≤c.whole:=Qy c s _
theorem z1v (c:Costs):∀(s:Set_) (n i m:Nat),i∈s→costBy c i=some m→(s.foldl (fun n i=>match costBy c i with | some m=>YO n m | none=>n) n)≤m
 | j::s,n,i,m,hi,hm=>by
  rw [yC]
  rcases zx.mp hi with rfl | hi
  ·refine zd (Qy c s _) ?_
   rw [hm]
   exact ZA _ _
  ·exact z1v c s _ i m hi hm
theorem z9H {c:Costs}{s:Set_}{i m:Nat}(hi:i∈s)(hm:costBy c i=some m):leastCost c s≤m:=z1v c s _ i m hi hm
theorem Uy (c:Costs):∀(s:Set_) (n:Nat),(s.foldl (fun n i=>match costBy c i with | some m=>YO n m | none=>n) n)=n∨∃i∈s,costBy c i=some (s.foldl (fun n i=>match costBy c i with | some m=>YO n m | none=>n) n)
 | [],_=>.inl rfl
 | j::s,n=>by
  rw [yC]
  cases q:costBy c j with
  | none=>
   simp only []
   rcases Uy c s n with h | ⟨i,hi,e⟩
   ·exact .inl h
   ·exact .inr ⟨i,zg _ hi,e⟩
  | some m=>
   simp only []
   rcases Uy c s (YO n m) with h | ⟨i,hi,e⟩
   ·rw [h]
    by_cases hh:n≤m
    ·exact .inl (W1 hh)
    ·refine .inr ⟨j,zn,?_⟩
     rw [q]
     congr 1
     exact (z3k (by omega)).symm
   ·exact .inr ⟨i,zg _ hi,e⟩
theorem z3R (c:Costs)(s:Set_):leastCost c s=c.whole∨∃i∈s,costBy c i=some (leastCost c s):=Uy c s _
theorem way_new {c:Costs}{s:Set_}{i m:Nat}(hm:costBy c i=some m)(h:m<leastCost c s):wayOf c (s++[i])=i+1∧leastCost c (s++[i])=m:=by
 have e:leastCost c (s++[i])=m:=by rw [z2V,hm];exact z3k (by omega)
 refine ⟨?_,e⟩
 unfold wayOf
 have hw:=z6l c s
 rw [e,if_neg (by omega),List.find?_append]
 have n:(s.find? fun j=>costBy c j==some m)=none:=by
  rw [List.find?_eq_none]
  intro j hj z
  have z:costBy c j=some m:=by simpa using z
  have:=z9H hj z
  omega
 rw [n]
 simp [hm]
theorem zaa {c:Costs}{s:Set_}{i:Nat}(h:∀m,costBy c i=some m→leastCost c s≤m):wayOf c (s++[i])=wayOf c s∧leastCost c (s++[i])=leastCost c s:=by
 have e:leastCost c (s++[i])=leastCost c s:=by
  rw [z2V]
  cases q:costBy c i with
  | none=>rfl
  | some m=>exact W1 (h m q)
 refine ⟨?_,e⟩
 unfold wayOf
 rw [e]
 by_cases hw:c.whole=leastCost c s
 ·rw [if_pos hw,if_pos hw]
 ·rw [if_neg hw,if_neg hw,List.find?_append]
  rcases z3R c s with z | ⟨j,hj,ej⟩
  ·exact absurd z.symm hw
  ·have:((s.find? fun j=>costBy c j==some (leastCost c s)).isSome)=true:=by
    rw [List.find?_isSome]
    exact ⟨j,hj,by rw [ej];simp⟩
   obtain ⟨x,hx⟩:=jI.mp this
   rw [hx];rfl
theorem way_nil (c:Costs):wayOf c []=0∧leastCost c []=c.whole:=⟨by unfold wayOf;rw [if_pos (show c.whole=leastCost c [] from rfl)],rfl⟩
def z0m (c:Costs):List Int:=(c.whole:Int)::c.by_.map orNone
theorem GK {c:Costs}{i:Nat}(h:i<c.by_.length):(z0m c)[i+1]?=some (orNone (costBy c i)):=by
 unfold z0m costBy
 rw [z6P,zB,z8 h]
 rfl
theorem z8t {c:Costs}:∀{s:Set_},(∀i∈s,i<c.by_.length)→(z0m c)[wayOf c s]?=some (leastCost c s:Int):=fun {s} hs=>by
 unfold wayOf
 by_cases hw:c.whole=leastCost c s
 ·rw [if_pos hw,←hw];rfl
 ·rw [if_neg hw]
  rcases z3R c s with z | ⟨j,hj,ej⟩
  ·exact absurd z.symm hw
  ·have:((s.find? fun j=>costBy c j==some (leastCost c s)).isSome)=true:=by
    rw [List.find?_isSome]
    exact ⟨j,hj,by rw [ej];simp⟩
   obtain ⟨x,hx⟩:=jI.mp this
   rw [hx]
   simp only []
   have h1:=List.find?_some hx
   have h2:=z5r hx
   rw [GK (hs x h2)]
   have h1:costBy c x=some (leastCost c s):=by simpa using h1
   rw [h1]
   rfl
theorem QS (a:Nat)(l:List Nat):Jj (a::l)=a+Jj l:=by
 unfold Jj
 rw [yC,qk]
 omega
theorem z1Q:∀l:List Nat,((l.map fun (n:Nat)=>(n:Int)).sum)=(Jj l:Int)
 | []=>rfl
 | a::l=>by
  rw [zJ,List.sum_cons,z1Q l,QS]
  omega
def ZN (a n:Nat):List Nat:=(zf n).filter fun j=>decide (a≤j)
theorem WR {a n:Nat}(h:n≤a):ZN a n=[]:=by
 unfold ZN
 rw [z8p]
 intro j hj
 have:=YX.mp hj
 simp;omega
theorem ZD:∀(n a:Nat),a<n→ZN a n=a::ZN (a+1) n
 | 0,a,h=>by omega
 | n+1,a,h=>by
  unfold ZN
  rw [List.range_succ,JH,JH]
  by_cases q:a<n
  ·have ih:=ZD n a q
   unfold ZN at ih
   rw [ih]
   simp [show a≤n by omega,show a+1≤n by omega]
  ·have e:a=n:=by omega
   subst e
   have e1:=WR (a:=a) (n:=a) (zb _)
   have e2:=WR (a:=a+1) (n:=a) (by omega)
   unfold ZN at e1 e2
   rw [e1,e2]
   simp
theorem U1 (n:Nat):ZN 0 n=zf n:=by
 unfold ZN
 rw [List.filter_eq_self]
 intro j _
 simp
def Jz (n:Nat)(s:Set_):List Set_:=(ZN (match s.getLast? with | some a=>a+1 | none=>0) n).map fun j=>s++[j]
theorem GL:∀{k:Nat}{l:List Nat}{s:Set_},s∈choose k l→s.length=k∧∀i∈s,i∈l
 | 0,l,s,h=>by
  have:s=[]:=by simpa [choose] using h
  subst this
  exact ⟨rfl,fun i hi=>by cases hi⟩
 | k+1,[],s,h=>by simp [choose] at h
 | k+1,a::l,s,h=>by
  rw [choose,zQ,yr] at h
  rcases h with ⟨x,hx,rfl⟩ | h
  ·obtain ⟨h1,h2⟩:=GL hx
   refine ⟨by rw [zu,h1],fun i hi=>?_⟩
   rcases zx.mp hi with rfl | hi
   ·exact zn
   ·exact zg _ (h2 i hi)
  ·obtain ⟨h1,h2⟩:=GL h
   exact ⟨h1,fun i hi=>zg _ (h2 i hi)⟩
theorem QC:∀l:List Nat,choose 1 l=l.map fun j=>[j]
 | []=>rfl
 | a::l=>by rw [choose,choose,QC l];rfl
theorem z88 {n a:Nat}{s:Set_}(h:s≠[]):Jz n (a::s)=(Jz n s).map fun x=>a::x:=by
 unfold Jz
 rw [List.getLast?_cons]
 cases q:s.getLast? with
 | none=>exact absurd (List.getLast?_eq_none_iff.mp q) h
 | some b=>simp only [Option.getD_some,zI];rfl
theorem z33 {α β:Type}{f g:α→List β}:∀{l:List α},(∀a∈l,f a=g a)→l.flatMap f=l.flatMap g
 | [],_=>rfl
 | a::l,h=>by rw [ZQ,ZQ,h a zn,z33 fun b hb=>h b (zg _ hb)]
theorem UD (n:Nat):∀(m a k:Nat),a+m=n→(choose (k+1) (ZN a n)).flatMap (Jz n)=choose (k+2) (ZN a n)
 | 0,a,k,h=>by rw [WR (by omega)];rfl
 | m+1,a,k,h=>by
  rw [ZD n a (by omega)]
  show ((choose k (ZN (a+1) n)).map (fun x=>a::x)++choose (k+1) (ZN (a+1) n)).flatMap (Jz n)=(choose (k+1) (ZN (a+1) n)).map (fun x=>a::x)++choose (k+2) (ZN (a+1) n)
  rw [Jc,UD n m (a+1) k (by omega)]
  congr 1
  cases k with
  | zero=>
   rw [choose,QC]
   simp only [zJ,z8o,ZQ,List.flatMap_nil,jn,zI]
   unfold Jz
   rfl
  | succ k=>
   rw [←UD n m (a+1) k (by omega),List.map_flatMap,List.flatMap_map]
   refine z33 fun s hs=>?_
   refine z88 fun z=>?_
   have:=(GL hs).1
   rw [z] at this;cases this
theorem z2U (n:Nat):∀k:Nat,(choose k (zf n)).flatMap (Jz n)=choose (k+1) (zf n)
 | 0=>by
  rw [QC,show choose 0 (zf n)=[[]] by simp [choose]]
  simp only [ZQ,List.flatMap_nil,jn]
  unfold Jz
  simp only [List.getLast?_nil,U1]
  rfl
 | k+1=>by
  rw [←U1]
  exact UD n n 0 k (by omega)
theorem QD:∀{l:List Nat}{k:Nat},choose k l=[]↔l.length<k
 | l,0=>by simp [choose]
 | [],k+1=>by simp [choose]
 | a::l,k+1=>by
  rw [choose,List.append_eq_nil_iff,W2,QD,QD,zu]
  omega
theorem z3P {n k:Nat}:choose k (zf n)=[]↔n<k:=by rw [QD,yA]
theorem V3:∀(l:List Nat) (k:Nat),(choose k l).length≤2 ^ l.length
 | [],0=>by simp [choose]
 | [],k+1=>by simp [choose]
 | a::l,0=>by simp [choose];exact Nat.one_le_two_pow
 | a::l,k+1=>by
  rw [choose,za,z0,zu,z97]
  have:=V3 l k
  have:=V3 l (k+1)
  omega
theorem UC (n:Nat):∀(m a k:Nat) (s:Set_),a+m=n→s∈choose k (ZN a n)→s.Pairwise (·< ·)∧∀i∈s,a≤i∧i<n
 | m,a,0,s,_,h=>by
  have:s=[]:=by simpa [choose] using h
  subst this
  exact ⟨.nil,fun i hi=>by cases hi⟩
 | 0,a,k+1,s,e,h=>by rw [WR (by omega)] at h;simp [choose] at h
 | m+1,a,k+1,s,e,h=>by
  rw [ZD n a (by omega),choose,zQ,yr] at h
  rcases h with ⟨x,hx,rfl⟩ | h
  ·obtain ⟨h1,h2⟩:=UC n m (a+1) k x (by omega) hx
   refine ⟨j8.mpr ⟨fun i hi=>(h2 i hi).1,h1⟩,fun i hi=>?_⟩
   rcases zx.mp hi with rfl | hi
   ·exact ⟨zb _,by omega⟩
   ·exact ⟨by have:=(h2 i hi).1;omega,(h2 i hi).2⟩
  ·obtain ⟨h1,h2⟩:=UC n m (a+1) (k+1) s (by omega) h
   exact ⟨h1,fun i hi=>⟨by have:=(h2 i hi).1;omega,(h2 i hi).2⟩⟩
theorem z8x {n k:Nat}{s:Set_}(h:s∈choose k (zf n)):s.Pairwise (·< ·)∧(∀i∈s,i<n)∧s.length=k:=by
 have h1:=GL h
 rw [←U1] at h
 obtain ⟨a,b⟩:=UC n n 0 k s (by omega) h
 exact ⟨a,fun i hi=>(b i hi).2,h1.1⟩
theorem z0t {n:Nat}{s:Set_}(h:s∈allSets n):s.Pairwise (·< ·)∧(∀i∈s,i<n)∧s.length≤n:=by
 unfold allSets at h
 obtain ⟨k,hk,hs⟩:=z3h.mp h
 obtain ⟨a,b,c⟩:=z8x hs
 exact ⟨a,b,by have:=YX.mp hk;omega⟩
end LI
namespace LI
open VaidxBase
def Je {A:Type}(it:yo A)(new:List A→A→Bool):Nat→List A→yo (List A)
 | 0,acc,x=>some (acc,x)
 | n+1,acc,x=>(it x).bind fun u=>if new acc u.1 then Je it new n (acc++[u.1]) u.2 else none
structure Chk {A:Type}(ok:List A→Bool)(new:List A→A→Bool):Prop where
 nil:ok []=true
 snoc:∀l a,ok (l++[a])=(ok l&&new l a)
theorem Chk.pre {A:Type}{ok:List A→Bool}{new:List A→A→Bool}(C:Chk ok new)(l:List A):∀m:List A,ok (l++m)=true→ok l=true:=by
 intro m
 induction m generalizing l with
 | nil=>intro h;rw [jn] at h;exact h
 | cons a m ih=>
  intro h
  have h2:=ih (l++[a]) (by rw [jq];exact h)
  rw [C.snoc,ye] at h2
  exact h2.1
theorem UA {A:Type}{it:yo A}{ok:List A→Bool}{new:List A→A→Bool}(C:Chk ok new):∀(n:Nat) (acc:List A) (x:List Int),ok acc=true→
  Je it new n acc x=(readTimes it n x).bind fun u=>if ok (acc++u.1) then some (acc++u.1,u.2) else none
 | 0,acc,x,h=>by
  show some (acc,x)=(if ok (acc++[])=true then some (acc++[],x) else none)
  rw [jn,if_pos h]
 | n+1,acc,x,h=>by
  unfold Je readTimes
  cases q:it x with
  | none=>rfl
  | some u=>
   show (if new acc u.1=true then Je it new n (acc++[u.1]) u.2 else none)=((readTimes it n u.2).map fun v=>(u.1::v.1,v.2)).bind fun u=>if ok (acc++u.1) then some (acc++u.1,u.2) else none
   by_cases hn:new acc u.1=true
   ·rw [if_pos hn,UA C n (acc++[u.1]) u.2 (by rw [C.snoc,h,hn];rfl)]
    cases q2:readTimes it n u.2 with
    | none=>rfl
    | some v=>
     show (if ok (acc++[u.1]++v.1)=true then some (acc++[u.1]++v.1,v.2) else none)=(if ok (acc++(u.1::v.1))=true then some (acc++(u.1::v.1),v.2) else none)
     rw [jq];rfl
   ·rw [if_neg hn]
    cases q2:readTimes it n u.2 with
    | none=>rfl
    | some v=>
     show none=(if ok (acc++(u.1::v.1))=true then some (acc++(u.1::v.1),v.2) else none)
     rw [if_neg]
     intro z
     have z2:=C.pre (acc++[u.1]) v.1 (by rw [jq];exact z)
     rw [C.snoc,h,VA] at z2
     exact hn z2
theorem QF:∀(l:List Nat) (a:Nat),apart (l++[a])=(apart l&&!l.contains a)
 | [],a=>rfl
 | b::l,a=>by
  rw [Zy,apart,QF l a,apart]
  rw [y8]
  simp [ZE]
  constructor
  ·rintro ⟨⟨h1,h2⟩,h3,h4⟩
   exact ⟨⟨h1,h3⟩,fun z=>h2 z.symm,h4⟩
  ·rintro ⟨⟨h1,h3⟩,h2,h4⟩
   exact ⟨⟨h1,fun z=>h2 z.symm⟩,h3,h4⟩
theorem zba (taken:List Nat):Chk (fun l=>apart l&&l.all fun c=>!taken.contains c) (fun l c=>!(l.contains c||taken.contains c)):=by
 refine ⟨rfl,fun l a=>?_⟩
 rw [QF,List.all_append]
 simp only [Vz,List.all_nil,GQ,Bool.not_or]
 cases apart l <;> cases l.contains a <;> cases (l.all fun c=>!taken.contains c) <;> simp
theorem zb9:Chk (fun l:List Filter=>apart (l.map fun f=>f.col)) (fun l f=>!(l.map fun f=>f.col).contains f.col):=by
 refine ⟨rfl,fun l a=>?_⟩
 rw [zw]
 exact QF _ _
theorem z3K:∀(l:List Group) (g:Group),rowsApart (l++[g])=(rowsApart l&&!(l.map fun g=>g.row).contains g.row)
 | [],g=>rfl
 | h::l,g=>by
  rw [Zy,rowsApart,z3K l g,rowsApart,List.any_append,zJ,WL]
  simp only [Vy,List.any_nil,z6J]
  cases (l.any fun k=>k.row==h.row) <;> cases rowsApart l <;> cases (g.row==h.row) <;> simp
theorem zb8:Chk rowsApart (fun l g=>!(l.map fun g=>g.row).contains g.row):=⟨rfl,z3K⟩
def VE (n:Nat):yo Filter:=fun x=>(readNat 0 (n - 1) x).bind fun c=>(readNat 0 9 c.2).bind fun l=>(readNat l.1 9 l.2).map fun h=>(⟨c.1,l.1,h.1⟩,h.2)
def JX (n:Nat):yo Group:=fun x=>(readTimes (readNat 0 9) n x).bind fun u=>(readNat 1 1000000 u.2).map fun v=>(⟨u.1,v.1⟩,v.2)
def GS (n least:Nat)(taken:List Nat):yo (List Nat):=fun x=>(readNat least n x).bind fun m=>Je (readNat 0 (n - 1)) (fun l c=>!(l.contains c||taken.contains c)) m.1 [] m.2
def z09 (n:Nat):yo (List Filter):=fun x=>(readNat 0 n x).bind fun m=>Je (VE n) (fun l f=>!(l.map fun f=>f.col).contains f.col) m.1 [] m.2
def qM (n:Nat):yo (Option Filter):=fun x=>(readNat 0 1 x).bind fun b=>if b.1=0 then some (none,b.2) else (VE n b.2).map fun f=>(some f.1,f.2)
def Uo:yo Table:=fun x=>(readNat 1 4 x).bind fun n=>(readNat 0 12 n.2).bind fun m=>(Je (JX n.1) (fun l g=>!(l.map fun g=>g.row).contains g.row) m.1 [] m.2).map fun g=>(⟨n.1,g.1⟩,g.2)
def YL (n:Nat):yo Qst:=fun x=>(z09 n x).bind fun f=>(GS n 0 [] f.2).bind fun o=>(readNat 0 1 o.2).bind fun b=>(GS n 0 [] b.2).bind fun w=>(readNat 0 1000000 w.2).bind fun l=>(readNat 0 1000 l.2).map fun t=>(⟨f.1,o.1,b.1==1,w.1,l.1,t.1⟩,t.2)
def Gz (n:Nat):yo Index:=fun x=>(GS n 1 [] x).bind fun k=>(GS n 0 k.1 k.2).bind fun i=>(qM n i.2).map fun c=>(⟨k.1,i.1,c.1⟩,c.2)
theorem Za {lo hi:Nat}{x:List Int}{u:Nat×List Int}(h:readNat lo hi x=some u):∃z,x=z::u.2∧(lo:Int)≤z∧z≤(hi:Int)∧u.1=z.toNat∧lo≤u.1∧u.1≤hi:=by
 unfold readNat at h
 cases x with
 | nil=>cases h
 | cons z r=>
  by_cases q:int lo≤z∧z≤int hi
  ·simp only [if_pos q] at h
   cases h
   have q1:(lo:Int)≤z:=q.1
   have q2:z≤(hi:Int):=q.2
   exact ⟨z,rfl,q1,q2,rfl,by show lo≤z.toNat;omega,by show z.toNat≤hi;omega⟩
  ·simp only [if_neg q] at h
   cases h
theorem WS {A:Type}{it:yo A}:∀{n:Nat}{x:List Int}{u:List A×List Int},readTimes it n x=some u→u.1.length=n
 | 0,x,u,h=>by cases h;rfl
 | n+1,x,u,h=>by
  unfold readTimes at h
  cases q:it x with
  | none=>rw [q] at h;cases h
  | some v=>
   rw [q] at h
   have h:((readTimes it n v.2).map fun w=>(v.1::w.1,w.2))=some u:=h
   cases q2:readTimes it n v.2 with
   | none=>rw [q2] at h;cases h
   | some w=>
    rw [q2] at h
    cases h
    show w.1.length+1=n+1
    rw [WS q2]
theorem WT {A:Type}{it:yo A}{p:A→Prop}(hp:∀x u,it x=some u→p u.1):∀{n:Nat}{x:List Int}{u:List A×List Int},readTimes it n x=some u→∀a∈u.1,p a
 | 0,x,u,h=>by cases h;intro a ha;cases ha
 | n+1,x,u,h=>by
  unfold readTimes at h
  cases q:it x with
  | none=>rw [q] at h;cases h
  | some v=>
   rw [q] at h
   have h:((readTimes it n v.2).map fun w=>(v.1::w.1,w.2))=some u:=h
   cases q2:readTimes it n v.2 with
   | none=>rw [q2] at h;cases h
   | some w=>
    rw [q2] at h
    cases h
    intro a ha
    rcases zx.mp ha with rfl | ha
    ·exact hp x v q
    ·exact WT hp q2 a ha
theorem z5u {A:Type}{it it':yo A}(h:∀x,it x=it' x):∀(n:Nat) (x:List Int),readTimes it n x=readTimes it' n x
 | 0,_=>rfl
 | n+1,x=>by unfold readTimes;rw [h x];congr 1;funext u;rw [z5u h n]
theorem qr {n:Nat}(hn:1≤n)(x:List Int):readFilter n x=VE n x:=by
 unfold readFilter VE readPair
 cases q1:readNat 0 (n - 1) x with
 | none=>rfl
 | some c=>
  simp only [zr]
  cases q2:readNat 0 VALUE c.2 with
  | none=>rw [show readNat 0 9 c.2=none from q2];rfl
  | some l=>
   rw [show readNat 0 9 c.2=some l from q2]
   simp only [zr]
   obtain ⟨_,_,_,_,_,_,hc⟩:=Za q1
   obtain ⟨_,_,_,_,_,_,hl⟩:=Za q2
   have h9:VALUE=9:=rfl
   generalize hy:l.2=y
   cases y with
   | nil=>rfl
   | cons z r=>
    unfold readNat
    by_cases a1:int 0≤z∧z≤int VALUE
    ·by_cases a2:int l.1≤z∧z≤int 9
     ·simp only [if_pos a1,if_pos a2,Yw,zr]
      rw [if_pos]
      unfold okFilter
      have b1:(l.1:Int)≤z:=a2.1
      have b2:z≤((9:Nat):Int):=a2.2
      simp;omega
     ·simp only [if_pos a1,if_neg a2,Yw,zr,jL]
      rw [if_neg]
      unfold okFilter
      intro w
      simp at w
      refine a2 ⟨?_,?_⟩
      ·have b1:((0:Nat):Int)≤z:=a1.1
       show (l.1:Int)≤z
       omega
      ·have b2:z≤((9:Nat):Int):=a1.2
       exact b2
    ·have a2:¬(int l.1≤z∧z≤int 9):=fun w=>a1 ⟨by
      have b1:(l.1:Int)≤z:=w.1
      show ((0:Nat):Int)≤z
      omega,w.2⟩
     simp only [if_neg a1,if_neg a2,jL,jg]
theorem z3W {n:Nat}(hn:1≤n){x:List Int}{u:Filter×List Int}(h:VE n x=some u):okFilter n u.1=true∧u.1.col<n:=by
 rw [←qr hn] at h
 unfold readFilter at h
 cases q:readPair (readNat 0 (n - 1)) (readPair (readNat 0 VALUE) (readNat 0 VALUE)) x with
 | none=>rw [q] at h;cases h
 | some v=>
  rw [q] at h
  have h:(if okFilter n ⟨v.1.1,v.1.2.1,v.1.2.2⟩=true then some ((⟨v.1.1,v.1.2.1,v.1.2.2⟩:Filter),v.2) else none)=some u:=h
  split at h
  ·rename_i w
   cases h
   refine ⟨w,?_⟩
   unfold okFilter at w
   simp at w
   exact w.1
  ·cases h
theorem Yc {lo hi:Nat}{x:List Int}{u:Nat×List Int}(h:readNat lo hi x=some u):u.1≤hi:=by
 obtain ⟨_,_,_,_,_,_,h2⟩:=Za h
 exact h2
theorem z0E {A B:Type}{a:yo A}{b:yo B}{f:A→B}(h:∀x,b x=(a x).map fun u=>(f u.1,u.2)):∀(n:Nat) (x:List Int),readTimes b n x=(readTimes a n x).map fun u=>(u.1.map f,u.2)
 | 0,x=>rfl
 | n+1,x=>by
  unfold readTimes
  rw [h x]
  cases q:a x with
  | none=>rfl
  | some u=>
   simp only [Yw,zr]
   rw [z0E h n u.2]
   cases q2:readTimes a n u.2 with
   | none=>rfl
   | some v=>rfl
theorem z6s (n:Nat)(x:List Int):JX n x=(readPair (readTimes (readNat 0 VALUE) n) (readNat 1 COUNT) x).map fun u=>((⟨u.1.1,u.1.2⟩:Group),u.2):=by
 unfold JX readPair
 cases q:readTimes (readNat 0 9) n x with
 | none=>rw [show readTimes (readNat 0 VALUE) n x=none from q];rfl
 | some u=>
  rw [show readTimes (readNat 0 VALUE) n x=some u from q]
  simp only [zr]
  cases q2:readNat 1 1000000 u.2 with
  | none=>rw [show readNat 1 COUNT u.2=none from q2];rfl
  | some v=>rw [show readNat 1 COUNT u.2=some v from q2];rfl
theorem zaT {n:Nat}{x:List Int}{u:Group×List Int}(h:JX n x=some u):u.1.row.length=n∧(u.1.row.all fun v=>decide (v≤VALUE))=true∧1≤u.1.count∧u.1.count≤COUNT:=by
 unfold JX at h
 cases q:readTimes (readNat 0 9) n x with
 | none=>rw [q] at h;cases h
 | some v=>
  rw [q] at h
  have h:((readNat 1 1000000 v.2).map fun w=>((⟨v.1,w.1⟩:Group),w.2))=some u:=h
  cases q2:readNat 1 1000000 v.2 with
  | none=>rw [q2] at h;cases h
  | some w=>
   rw [q2] at h
   cases h
   obtain ⟨_,_,_,_,_,h1,h2⟩:=Za q2
   refine ⟨WS q,?_,h1,h2⟩
   rw [j4]
   intro a ha
   have:=WT (p:=fun a=>a≤9) (fun x u h=>Yc h) q a ha
   exact decide_eq_true this
theorem z5w (x:List Int):readTable x=Uo x:=by
 unfold readTable Uo
 cases q:readNat 1 4 x with
 | none=>rw [show readNat 1 COLS x=none from q];rfl
 | some n=>
  rw [show readNat 1 COLS x=some n from q]
  simp only [zr]
  unfold readListed
  cases q2:readNat 0 12 n.2 with
  | none=>rw [show readNat 0 GROUPS n.2=none from q2];rfl
  | some m=>
   rw [show readNat 0 GROUPS n.2=some m from q2]
   simp only [zr]
   rw [UA zb8 m.1 [] m.2 rfl,z0E (a:=readPair (readTimes (readNat 0 VALUE) n.1) (readNat 1 COUNT)) (b:=JX n.1) (f:=fun y=>(⟨y.1,y.2⟩:Group)) (z6s n.1) m.1 m.2]
   cases q3:readTimes (readPair (readTimes (readNat 0 VALUE) n.1) (readNat 1 COUNT)) m.1 m.2 with
   | none=>rfl
   | some g=>
    simp only [zr,Yw,Jm]
    obtain ⟨_,_,_,_,_,h1,h2⟩:=Za q
    obtain ⟨_,_,_,_,_,_,h3⟩:=Za q2
    have q4:readTimes (JX n.1) m.1 m.2=some (g.1.map fun y=>(⟨y.1,y.2⟩:Group),g.2):=by rw [z0E (a:=readPair (readTimes (readNat 0 VALUE) n.1) (readNat 1 COUNT)) (b:=JX n.1) (f:=fun y=>(⟨y.1,y.2⟩:Group)) (z6s n.1) m.1 m.2,q3];rfl
    have hl:=WS q4
    have ha:=WT (p:=fun u:Group=>u.row.length=n.1∧(u.row.all fun v=>decide (v≤VALUE))=true∧1≤u.count∧u.count≤COUNT) (fun x u h=>zaT h) q4
    have e:okTable ⟨n.1,g.1.map fun y=>(⟨y.1,y.2⟩:Group)⟩=rowsApart (g.1.map fun y=>(⟨y.1,y.2⟩:Group)):=by
     unfold okTable
     have e1:decide (1≤n.1)=true:=decide_eq_true h1
     have e2:decide (n.1≤COLS)=true:=decide_eq_true h2
     have e3:decide ((g.1.map fun y=>(⟨y.1,y.2⟩:Group)).length≤GROUPS)=true:=decide_eq_true (by have hl:(g.1.map fun y=>(⟨y.1,y.2⟩:Group)).length=m.1:=hl;rw [hl];exact h3)
     have e4:((g.1.map fun y=>(⟨y.1,y.2⟩:Group)).all fun g=>g.row.length==n.1&&((g.row.all fun v=>decide (v≤VALUE))&&(decide (1≤g.count)&&decide (g.count≤COUNT))))=true:=by
      rw [j4]
      intro a ha'
      obtain ⟨a1,a2,a3,a4⟩:=ha a ha'
      rw [a2]
      simp [a1,a3,a4]
     show (decide (1≤n.1)&&(decide (n.1≤COLS)&&(decide ((g.1.map fun y=>(⟨y.1,y.2⟩:Group)).length≤GROUPS)&&(((g.1.map fun y=>(⟨y.1,y.2⟩:Group)).all fun g=>g.row.length==n.1&&((g.row.all fun v=>decide (v≤VALUE))&&(decide (1≤g.count)&&decide (g.count≤COUNT))))&&rowsApart (g.1.map fun y=>(⟨y.1,y.2⟩:Group))))))=_
     rw [e1,e2,e3,e4]
     rfl
    rw [e]
    split <;> rfl
theorem zaf {x:List Int}{u:Table×List Int}(h:Uo x=some u):TOk u.1∧1≤u.1.cols∧u.1.cols≤4:=by
 rw [←z5w] at h
 unfold readTable at h
 cases q:readNat 1 COLS x with
 | none=>rw [q] at h;cases h
 | some n=>
  rw [q] at h
  simp only [zr] at h
  cases q2:readListed 0 GROUPS (readPair (readTimes (readNat 0 VALUE) n.1) (readNat 1 COUNT)) n.2 with
  | none=>rw [q2] at h;cases h
  | some g=>
   rw [q2] at h
   simp only [zr] at h
   split at h
   ·rename_i w
    cases h
    unfold okTable at w
    simp only [ye,decide_eq_true_eq] at w
    obtain ⟨w1,w2,w3,w4,_⟩:=w
    rw [j4] at w4
    refine ⟨⟨w3,fun g hg=>?_,fun g hg=>?_⟩,w1,w2⟩
    ·have:=w4 g hg
     simp only [ye] at this
     simpa using this.1
    ·have:=w4 g hg
     simp only [ye,decide_eq_true_eq] at this
     exact this.2.2.2
   ·cases h
theorem Yz (n least:Nat)(taken:List Nat)(x:List Int):GS n least taken x=(readColumns least n x).bind fun u=>if (apart u.1&&u.1.all fun c=>!taken.contains c)=true then some u else none:=by
 unfold GS readColumns readListed
 cases q:readNat least n x with
 | none=>rfl
 | some m=>
  simp only [zr]
  rw [UA (zba taken) m.1 [] m.2 rfl]
  rfl
theorem z8Q {n:Nat}(hn:1≤n)(x:List Int):z09 n x=(readListed 0 n (readFilter n) x).bind fun u=>if apart (u.1.map fun f=>f.col)=true then some u else none:=by
 unfold z09 readListed
 cases q:readNat 0 n x with
 | none=>rfl
 | some m=>
  simp only [zr]
  rw [UA zb9 m.1 [] m.2 rfl,z5u (fun x=>(qr hn x).symm)]
  rfl
theorem Wo {n least:Nat}(hn:1≤n){x:List Int}{u:List Nat×List Int}(h:readColumns least n x=some u):(u.1.all fun c=>decide (c<n))=true∧least≤u.1.length∧u.1.length≤n:=by
 unfold readColumns readListed at h
 cases q:readNat least n x with
 | none=>rw [q] at h;cases h
 | some m=>
  rw [q] at h
  simp only [zr] at h
  obtain ⟨_,_,_,_,_,h1,h2⟩:=Za q
  have hl:=WS h
  refine ⟨?_,by omega,by omega⟩
  rw [j4]
  intro a ha
  have:=WT (p:=fun a=>a≤n - 1) (fun x u h=>Yc h) h a ha
  exact decide_eq_true (by omega)
theorem z6j {n:Nat}(hn:1≤n){x:List Int}{u:List Filter×List Int}(h:readListed 0 n (readFilter n) x=some u):u.1.all (okFilter n)=true∧u.1.length≤n∧∀f∈u.1,f.col<n:=by
 unfold readListed at h
 cases q:readNat 0 n x with
 | none=>rw [q] at h;cases h
 | some m=>
  rw [q] at h
  simp only [zr] at h
  obtain ⟨_,_,_,_,_,h1,h2⟩:=Za q
  have hl:=WS h
  have ha:=WT (p:=fun f:Filter=>okFilter n f=true∧f.col<n) (fun x u h=>z3W hn (by rw [←qr hn];exact h)) h
  exact ⟨j4.mpr fun a hh=>(ha a hh).1,by omega,fun f hf=>(ha f hf).2⟩
theorem z5T {n:Nat}(hn:1≤n)(x:List Int):readQuestion n x=YL n x:=by
 unfold readQuestion YL
 rw [z8Q hn x]
 unfold readPair
 cases q1:readListed 0 n (readFilter n) x with
 | none=>rfl
 | some f=>
  simp only [zr]
  obtain ⟨f1,f2,f3⟩:=z6j hn q1
  cases q2:readColumns 0 n f.2 with
  | none=>
   simp only [jg,jL]
   split
   ·simp only [zr,Yz,q2,jg]
   ·rfl
  | some o=>
   simp only [zr]
   obtain ⟨o1,_,_⟩:=Wo hn q2
   cases q3:readNat 0 1 o.2 with
   | none=>
    simp only [jg,jL]
    split
    ·simp only [zr,Yz,q2]
     split
     ·simp only [zr,q3,jg]
     ·rfl
    ·rfl
   | some b=>
    simp only [zr]
    cases q4:readColumns 0 n b.2 with
    | none=>
     simp only [jg,jL]
     split
     ·simp only [zr,Yz,q2]
      split
      ·simp only [zr,q3,q4,jg]
      ·rfl
     ·rfl
    | some w=>
     simp only [zr]
     obtain ⟨w1,_,_⟩:=Wo hn q4
     cases q5:readNat 0 1000000 w.2 with
     | none=>
      rw [show readNat 0 LIMIT w.2=none from q5]
      simp only [jg,jL]
      split
      ·simp only [zr,Yz,q2]
       split
       ·simp only [zr,q3,q4]
        split
        ·simp only [zr,q5,jg]
        ·rfl
       ·rfl
      ·rfl
     | some l=>
      rw [show readNat 0 LIMIT w.2=some l from q5]
      simp only [zr]
      cases q6:readNat 0 1000 l.2 with
      | none=>
       rw [show readNat 0 TIMES l.2=none from q6]
       simp only [jg,jL]
       split
       ·simp only [zr,Yz,q2]
        split
        ·simp only [zr,q3,q4]
         split
         ·simp only [zr,q5,q6,jL]
         ·rfl
        ·rfl
       ·rfl
      | some t=>
       rw [show readNat 0 TIMES l.2=some t from q6]
       simp only [Yw,zr]
       obtain ⟨_,_,_,_,_,_,l2⟩:=Za q5
       obtain ⟨_,_,_,_,_,_,t2⟩:=Za q6
       have e:okQuestion n ⟨f.1,o.1,b.1==1,w.1,l.1,t.1⟩=(apart (f.1.map fun f=>f.col)&&(apart o.1&&apart w.1)):=by
        show (f.1.all (okFilter n)&&(apart (f.1.map fun f=>f.col)&&(okColumns n o.1&&(okColumns n w.1&&(decide (l.1≤LIMIT)&&decide (t.1≤TIMES))))))=_
        unfold okColumns
        rw [f1,o1,w1,show decide (l.1≤LIMIT)=true from decide_eq_true l2,show decide (t.1≤TIMES)=true from decide_eq_true t2]
        simp
       rw [e]
       by_cases h1:apart (f.1.map fun f=>f.col)=true
       ·by_cases h2:apart o.1=true
        ·by_cases h3:apart w.1=true
         ·simp [Yz,q2,q3,q4,q5,q6,h1,h2,h3]
         ·simp [Yz,q2,q3,q4,q5,q6,h1,h2,h3]
        ·simp [Yz,q2,q3,q4,q5,q6,h1,h2]
       ·simp [h1]
theorem JV {A B:Type}{o:Option A}{f:A→Option B}{b:B}(h:o.bind f=some b):∃a,o=some a∧f a=some b:=by
 cases o with
 | none=>cases h
 | some a=>exact ⟨a,rfl,h⟩
theorem z5S {n:Nat}(hn:1≤n)(h4:n≤4){x:List Int}{u:Qst×List Int}(h:YL n x=some u):QOk n u.1:=by
 unfold YL at h
 obtain ⟨f,hf,h⟩:=JV h
 obtain ⟨o,ho,h⟩:=JV h
 obtain ⟨b,hb,h⟩:=JV h
 obtain ⟨w,hw,h⟩:=JV h
 obtain ⟨l,hl,h⟩:=JV h
 cases ht:readNat 0 1000 l.2 with
 | none=>rw [ht] at h;cases h
 | some t=>
  rw [ht] at h
  cases h
  rw [z8Q hn] at hf
  rw [Yz] at ho hw
  obtain ⟨f',hf',e1⟩:=JV hf
  obtain ⟨o',ho',e2⟩:=JV ho
  obtain ⟨w',hw',e3⟩:=JV hw
  split at e1
  ·rename_i ap
   cases e1
   split at e2
   ·cases e2
    split at e3
    ·cases e3
     obtain ⟨f1,f2,f3⟩:=z6j hn hf'
     obtain ⟨_,_,o3⟩:=Wo hn ho'
     obtain ⟨_,_,w3⟩:=Wo hn hw'
     exact ⟨by show f.1.length≤4;omega,f3,ap,by show o.1.length≤4;omega,by show w.1.length≤4;omega,Yc hl,Yc ht⟩
    ·cases e3
   ·cases e2
  ·cases e1
theorem z0r:∀(a b:List Nat),apart (a++b)=(apart a&&(apart b&&b.all fun c=>!a.contains c))
 | [],b=>by
  show apart b=(true&&(apart b&&b.all fun c=>!([]:List Nat).contains c))
  simp
 | x::a,b=>by
  rw [Zy,apart,z0r a b,apart]
  rw [y8]
  simp [ZE]
  constructor
  ·rintro ⟨⟨h1,h2⟩,h3,h4,h5⟩
   exact ⟨⟨h1,h3⟩,h4,fun c hc=>⟨fun z=>h2 (z ▸ hc),h5 c hc⟩⟩
  ·rintro ⟨⟨h1,h3⟩,h4,h5⟩
   exact ⟨⟨h1,fun z=>(h5 x z).1 rfl⟩,h3,h4,fun c hc=>(h5 c hc).2⟩
theorem z8W {n:Nat}(hn:1≤n)(x:List Int):qM n x=(readListed 0 1 (readFilter n) x).map fun u=>(u.1.head?,u.2):=by
 unfold qM readListed
 cases q:readNat 0 1 x with
 | none=>rfl
 | some b=>
  simp only [zr]
  have hb:=Yc q
  by_cases h0:b.1=0
  ·rw [if_pos h0,h0];rfl
  ·have h1:b.1=1:=by omega
   rw [if_neg h0,h1]
   unfold readTimes
   rw [qr hn]
   cases VE n b.2 with
   | none=>rfl
   | some f=>rfl
theorem z8V {n:Nat}(hn:1≤n){x:List Int}{u:Option Filter×List Int}(h:qM n x=some u):u.1.all (okFilter n)=true∧∀f,u.1=some f→f.col<n:=by
 unfold qM at h
 obtain ⟨b,hb,h⟩:=JV h
 split at h
 ·cases h
  exact ⟨rfl,fun f hf=>by cases hf⟩
 ·cases q:VE n b.2 with
  | none=>rw [q] at h;cases h
  | some f=>
   rw [q] at h
   cases h
   obtain ⟨h1,h2⟩:=z3W hn q
   exact ⟨h1,fun g hg=>by cases hg;exact h2⟩
theorem z9L {n:Nat}(hn:1≤n)(x:List Int):readIndex n x=Gz n x:=by
 unfold readIndex Gz readPair
 rw [Yz]
 cases q1:readColumns 1 n x with
 | none=>rfl
 | some k=>
  simp only [zr]
  obtain ⟨k1,k2,_⟩:=Wo hn q1
  cases q2:readColumns 0 n k.2 with
  | none=>
   simp only [jg,jL]
   split
   ·simp only [zr,Yz,q2,jg]
   ·rfl
  | some i=>
   simp only [zr]
   obtain ⟨i1,_,_⟩:=Wo hn q2
   cases q3:readListed 0 1 (readFilter n) i.2 with
   | none=>
    simp only [jL,jg]
    split
    ·simp only [zr,Yz,q2]
     split
     ·simp only [zr,z8W hn,q3,jL]
     ·rfl
    ·rfl
   | some c=>
    simp only [Yw,zr]
    have q4:qM n i.2=some (c.1.head?,c.2):=by rw [z8W hn,q3];rfl
    obtain ⟨c1,_⟩:=z8V hn q4
    have e:okIndex n ⟨k.1,i.1,c.1.head?⟩=(apart k.1&&(apart i.1&&i.1.all fun c=>!k.1.contains c)):=by
     show (!k.1.isEmpty&&(okColumns n (k.1++i.1)&&c.1.head?.all (okFilter n)))=_
     have ek:k.1.isEmpty=false:=by
      cases hk:k.1 with
      | nil=>rw [hk] at k2;simp at k2
      | cons _ _=>rfl
     unfold okColumns
     rw [ek,List.all_append,k1,i1,z0r]
     have c1:c.1.head?.all (okFilter n)=true:=c1
     rw [c1]
     simp
    rw [e]
    by_cases h1:apart k.1=true
    ·rw [if_pos (show (apart k.1&&k.1.all fun c=>!([]:List Nat).contains c)=true by simp [h1])]
     simp only [zr]
     rw [Yz,q2]
     simp only [zr]
     by_cases h2:(apart i.1&&i.1.all fun c=>!k.1.contains c)=true
     ·rw [if_pos h2,if_pos (by rw [h1,h2];rfl)]
      simp only [zr,q4,Yw]
     ·rw [if_neg h2,if_neg (by rw [h1,VA];exact h2)]
      rfl
    ·simp [h1]
theorem zaR {n:Nat}(hn:1≤n)(h4:n≤4){x:List Int}{u:Index×List Int}(h:Gz n x=some u):IOk n u.1:=by
 unfold Gz at h
 obtain ⟨k,hk,h⟩:=JV h
 obtain ⟨i,hi,h⟩:=JV h
 cases hc:qM n i.2 with
 | none=>rw [hc] at h;cases h
 | some c=>
  rw [hc] at h
  cases h
  rw [Yz] at hk hi
  obtain ⟨k',hk',e1⟩:=JV hk
  obtain ⟨i',hi',e2⟩:=JV hi
  split at e1
  ·cases e1
   split at e2
   ·cases e2
    obtain ⟨k1,_,k3⟩:=Wo hn hk'
    obtain ⟨_,_,i3⟩:=Wo hn hi'
    obtain ⟨_,c2⟩:=z8V hn hc
    exact ⟨by show k.1.length≤4;omega,by show i.1.length≤4;omega,fun y hy=>by simpa using j4.mp k1 y hy,c2⟩
   ·cases e2
  ·cases e1
end LI
namespace LI
open Vaidxd
theorem z0h:∀(l:List Nat) (a:Nat),l.foldl YO a≤a∧∀y∈l,l.foldl YO a≤y
 | [],a=>⟨zb _,fun y h=>by cases h⟩
 | b::l,a=>by
  rw [yC]
  obtain ⟨h1,h2⟩:=z0h l (YO a b)
  have ha:YO a b≤a:=z49 _ _
  have hb:YO a b≤b:=ZA _ _
  refine ⟨zd h1 ha,fun y hy=>?_⟩
  rcases zx.mp hy with rfl | hy
  ·exact zd h1 hb
  ·exact h2 y hy
theorem qN:∀(l:List Nat) (a:Nat),l.foldl YO a=a∨l.foldl YO a∈l
 | [],a=>.inl rfl
 | b::l,a=>by
  rw [yC]
  rcases qN l (YO a b) with h | h
  ·rw [h]
   by_cases q:a≤b
   ·exact .inl (W1 q)
   ·exact .inr (by rw [show YO a b=b from z3k (by omega)];exact zn)
  ·exact .inr (zg _ h)
theorem ZK {l:List Nat}(h:l≠[]):leastOf l∈l:=by
 cases l with
 | nil=>exact absurd rfl h
 | cons a l=>
  show l.foldl YO a∈a::l
  rcases qN l a with q | q
  ·rw [q];exact zn
  ·exact zg _ q
theorem Z9 {l:List Nat}{y:Nat}(h:y∈l):leastOf l≤y:=by
 cases l with
 | nil=>cases h
 | cons a l=>
  obtain ⟨h1,h2⟩:=z0h l a
  rcases zx.mp h with rfl | h
  ·exact h1
  ·exact h2 y h
theorem nil_in (n:Nat):([]:Set_)∈allSets n:=by
 unfold allSets
 refine z3h.mpr ⟨0,YX.mpr (Nat.succ_pos n),?_⟩
 simp [choose]
theorem z3C (p:Problem)(room:Nat):within_ p room≠[]:=by
 intro h
 have:([]:Set_)∈within_ p room:=yg.mpr ⟨nil_in _,by simp [setRoom,Jj]⟩
 rw [h] at this;cases this
theorem z52 (p:Problem)(room:Nat):leastSets p room≠[]:=by
 intro h
 have m:=ZK (l:=(within_ p room).map (setCost p)) (by simp [z3C])
 obtain ⟨s,hs,e⟩:=yr.mp m
 have:s∈leastSets p room:=yg.mpr ⟨hs,by rw [e];exact beq_self_eq_true _⟩
 rw [h] at this;cases this
theorem qW {p:Problem}{room:Nat}(h:size p≤8):(within_ p room).length≤2304:=by
 refine zd (jK _ _) ?_
 unfold allSets
 rw [List.length_flatMap]
 have hb:∀k,(choose k (zf (size p))).length≤256:=fun k=>by
  refine zd (V3 _ k) ?_
  rw [yA]
  exact VL (by decide) h
 have hs:∀l:List Nat,(l.map fun k=>(choose k (zf (size p))).length).sum≤l.length * 256:=fun l=>by
  induction l with
  | nil=>simp
  | cons a l ih=>
   rw [zJ,List.sum_cons,zu,z96]
   have:=hb a
   omega
 have:=hs (zf (size p+1))
 rw [yA] at this
 have:(size p+1) * 256≤9 * 256:=YY _ (by omega)
 omega
end LI
namespace LI
open Vaidxd (Problem Set_ leastOf putOnce)
theorem z0i {α β:Type}{f g:β→α→β}:∀{l:List α}{b:β},(∀k a,a∈l→f k a=g k a)→l.foldl f b=l.foldl g b
 | [],_,_=>rfl
 | a::l,b,h=>by
  rw [yC,yC,h b a zn]
  exact z0i fun k x hx=>h k x (zg _ hx)
theorem z53 {l l':List Nat}(h:l.Perm l'):leastOf l=leastOf l':=by
 by_cases e:l=[]
 ·subst e
  rw [h.nil_eq]
 ·have e':l'≠[]:=fun z=>by subst z;exact e h.eq_nil
  have a:=Z9 (h.symm.subset (ZK e'))
  have b:=Z9 (h.subset (ZK e))
  omega
theorem GC {l:List Nat}{m:Nat}(h:m∈l)(k:∀y∈l,m≤y):leastOf l=m:=by
 have a:=Z9 h
 have b:=k _ (ZK (fun z=>by rw [z] at h;cases h))
 omega
theorem Qa:∀{a b:List Nat},a.Pairwise (·< ·)→b.Pairwise (·< ·)→(∀x,x∈a↔x∈b)→a=b
 | [],[],_,_,_=>rfl
 | [],y::b,_,_,h=>absurd ((h y).mpr zn) (by simp)
 | x::a,[],_,_,h=>absurd ((h x).mp zn) (by simp)
 | x::a,y::b,ha,hb,h=>by
  have ha':=j8.mp ha
  have hb':=j8.mp hb
  have e:x=y:=by
   rcases zx.mp ((h x).mp zn) with q | q
   ·exact q
   ·rcases zx.mp ((h y).mpr zn) with r | r
    ·exact r.symm
    ·have:=ha'.1 y r
     have:=hb'.1 x q
     omega
  subst e
  rw [Qa ha'.2 hb'.2 fun z=>?_]
  constructor
  ·intro hz
   rcases zx.mp ((h z).mp (zg _ hz)) with q | q
   ·subst q;exact absurd (ha'.1 z hz) (yY _)
   ·exact q
  ·intro hz
   rcases zx.mp ((h z).mpr (zg _ hz)) with q | q
   ·subst q;exact absurd (hb'.1 z hz) (yY _)
   ·exact q
theorem z4x {r x:Nat}:∀{l:List Nat},x∈putOnce r l↔x=r∨x∈l
 | []=>by simp [putOnce]
 | y::l=>by
  unfold putOnce
  split
  ·simp
  ·split
   ·rename_i h;subst h;simp
   ·rw [zx,z4x,zx]
    constructor
    ·rintro (h | h | h)
     ·exact .inr (.inl h)
     ·exact .inl h
     ·exact .inr (.inr h)
    ·rintro (h | h | h)
     ·exact .inr (.inl h)
     ·exact .inl h
     ·exact .inr (.inr h)
theorem z5V {r:Nat}:∀{l:List Nat},l.Pairwise (·< ·)→(putOnce r l).Pairwise (·< ·)
 | [],_=>by simp [putOnce]
 | y::l,h=>by
  have h':=j8.mp h
  unfold putOnce
  split
  ·rename_i q
   refine j8.mpr ⟨fun z hz=>?_,h⟩
   rcases zx.mp hz with e | e
   ·subst e;exact q
   ·have:=h'.1 z e;omega
  ·split
   ·exact h
   ·rename_i q1 q2
    refine j8.mpr ⟨fun z hz=>?_,z5V h'.2⟩
    rcases z4x.mp hz with e | e
    ·subst e;omega
    ·exact h'.1 z e
theorem z8C {r:Nat}:∀{l:List Nat},(∀x∈l,x<r)→putOnce r l=l++[r]
 | [],_=>rfl
 | y::l,h=>by
  have:=h y zn
  unfold putOnce
  rw [if_neg (by omega),if_neg (by omega),z8C fun x hx=>h x (zg _ hx)]
  rfl
theorem zap {r:Nat}:∀{l:List Nat},l.Pairwise (·< ·)→r∈l→putOnce r l=l
 | y::l,h,m=>by
  have h':=j8.mp h
  unfold putOnce
  rcases zx.mp m with e | e
  ·subst e;rw [if_neg (yY _),if_pos rfl]
  ·have:=h'.1 r e
   rw [if_neg (by omega),if_neg (by omega),zap h'.2 e]
abbrev NP:=Nat×Nat
def Yb (l:List NP):List Nat:=l.foldl (fun k x=>putOnce x.1 k) []
def z2Q (l:List NP)(r:Nat):Nat:=leastOf ((l.filter fun x=>decide (x.1≤r)).map fun x=>x.2)
def Zi (k:List NP)(x:NP):List NP:=match k.getLast? with
 | some y=>if x.2<y.2 then k++[x] else k
 | none=>k++[x]
def JR (l:List NP):List NP:=(Yb l).foldl (fun k r=>Zi k (r,z2Q l r)) []
def Z5 (p:Problem):List NP:=(jf (zN p)).map fun s=>(yk p s,zH p s)
theorem z1u (p:Problem):Zk p=JR (Z5 p):=rfl
theorem z06 (l:List NP)(x:NP):Yb (l++[x])=putOnce x.1 (Yb l):=by unfold Yb;rw [V1];rfl
theorem z13:∀(l:List NP) (k:List Nat),k.Pairwise (·< ·)→(l.foldl (fun k x=>putOnce x.1 k) k).Pairwise (·< ·)∧∀r,r∈l.foldl (fun k x=>putOnce x.1 k) k↔r∈k∨∃x∈l,x.1=r
 | [],k,h=>⟨h,fun r=>by simp⟩
 | x::l,k,h=>by
  obtain ⟨a,b⟩:=z13 l (putOnce x.1 k) (z5V h)
  refine ⟨a,fun r=>(b r).trans ?_⟩
  rw [z4x]
  constructor
  ·rintro ((e | e) | ⟨y,hy,e⟩)
   ·exact .inr ⟨x,zn,e.symm⟩
   ·exact .inl e
   ·exact .inr ⟨y,zg _ hy,e⟩
  ·rintro (e | ⟨y,hy,e⟩)
   ·exact .inl (.inr e)
   ·rcases zx.mp hy with z | z
    ·subst z;exact .inl (.inl e.symm)
    ·exact .inr ⟨y,z,e⟩
theorem Qv (l:List NP):(Yb l).Pairwise (·< ·):=(z13 l [] .nil).1
theorem UW {l:List NP}{r:Nat}:r∈Yb l↔∃x∈l,x.1=r:=by
 have:=(z13 l [] .nil).2 r
 simpa [Yb] using this
theorem z5y {l l':List NP}(h:l.Perm l'):JR l=JR l':=by
 have e:Yb l=Yb l':=Qa (Qv l) (Qv l') fun r=>by
  rw [UW,UW]
  exact ⟨fun ⟨x,hx,e⟩=>⟨x,h.subset hx,e⟩,fun ⟨x,hx,e⟩=>⟨x,h.symm.subset hx,e⟩⟩
 unfold JR
 rw [e]
 refine z0i fun k r _=>?_
 unfold z2Q
 rw [z53 ((h.filter _).map _)]
def leP (x y:NP):Prop:=x.1<y.1∨(x.1=y.1∧x.2≤y.2)
theorem GG {α:Type}{l:List α}{x:α}:(l++[x]).getLast?=some x:=by simp
theorem qJ:∀(n:Nat) (l:List NP),l.length=n→l.Pairwise leP→JR l=l.foldl Zi []∧(l≠[]→∃y,(JR l).getLast?=some y∧y.2=leastOf (l.map fun x=>x.2))
 | 0,l,hn,_=>by
  rw [Yh] at hn
  subst hn
  exact ⟨rfl,fun z=>absurd rfl z⟩
 | n+1,l,hn,hp=>by
  obtain ⟨pre,x,rfl⟩:∃pre x,l=pre++[x]:=by
   refine ⟨l.dropLast,l.getLast (fun z=>by rw [z] at hn;cases hn),?_⟩
   rw [Zo]
  rw [za] at hn
  obtain ⟨hp1,_,hpx⟩:=za3.mp hp
  have hpx:∀a∈pre,leP a x:=fun a ha=>hpx a ha x (zi.mpr rfl)
  obtain ⟨ih1,ih2⟩:=qJ n pre (by simpa using hn) hp1
  rw [V1]
  show _=Zi (pre.foldl Zi []) x∧_
  rw [←ih1]
  have all:z2Q (pre++[x]) x.1=leastOf ((pre++[x]).map fun y=>y.2):=by
   unfold z2Q
   rw [List.filter_eq_self.mpr fun y hy=>?_]
   rcases zQ.mp hy with hy | hy
   ·have:=hpx y hy
    unfold leP at this
    exact decide_eq_true (by omega)
   ·rw [zi.mp hy];exact decide_eq_true (zb _)
  by_cases new:∀r∈Yb pre,r<x.1
  ·
   have e1:JR (pre++[x])=Zi (JR pre) (x.1,z2Q (pre++[x]) x.1):=by
    unfold JR
    rw [z06,z8C new,V1]
    show Zi _ _=Zi _ _
    congr 1
    refine z0i fun k r hr=>?_
    congr 2
    unfold z2Q
    rw [JH]
    have lt:=new r hr
    have e0:[x].filter (fun x=>decide (x.1≤r))=[]:=by
     rw [j3,if_neg (by simp;omega)];rfl
    rw [e0,jn]
   rw [e1,all]
   by_cases hpre:pre=[]
   ·subst hpre
    exact ⟨rfl,fun _=>⟨x,rfl,rfl⟩⟩
   ·obtain ⟨y,hy,ey⟩:=ih2 hpre
    have hm:leastOf ((pre++[x]).map fun y=>y.2)=if x.2<y.2 then x.2 else y.2:=by
     have mne:(pre.map fun x=>x.2)≠[]:=by simp [hpre]
     split
     ·rename_i q
      refine GC (by simp) fun z hz=>?_
      rw [zw] at hz
      rcases zQ.mp hz with hz | hz
      ·have:=Z9 hz;omega
      ·rw [List.map_singleton] at hz;rw [zi.mp hz];exact zb _
     ·rename_i q
      refine GC (by rw [zw,ey];exact zY _ (ZK mne)) fun z hz=>?_
      rw [zw] at hz
      rcases zQ.mp hz with hz | hz
      ·have:=Z9 hz;omega
      ·rw [List.map_singleton] at hz;rw [zi.mp hz];omega
    rw [hm]
    unfold Zi
    rw [hy]
    simp only
    by_cases q:x.2<y.2
    ·rw [if_pos q,if_pos q]
     exact ⟨rfl,fun _=>⟨_,GG,rfl⟩⟩
    ·rw [if_neg q,if_neg (yY _),if_neg q]
     exact ⟨rfl,fun _=>⟨y,hy,rfl⟩⟩
  ·
   have hx:x.1∈Yb pre:=by
    obtain ⟨r,hr,nr⟩:∃r∈Yb pre,¬r<x.1:=by
     refine YR fun z=>new fun r hr=>YR fun q=>z ⟨r,hr,q⟩
    obtain ⟨y,hy,ey⟩:=UW.mp hr
    have:=hpx y hy
    unfold leP at this
    have e:r=x.1:=by omega
    rw [←e];exact hr
   obtain ⟨y0,hy0,ey0⟩:=UW.mp hx
   have hy0x:=hpx y0 hy0
   unfold leP at hy0x
   have hne:pre≠[]:=fun z=>by rw [z] at hy0;cases hy0
   have same:∀r,leastOf (((pre++[x]).filter fun x=>decide (x.1≤r)).map fun x=>x.2)=leastOf ((pre.filter fun x=>decide (x.1≤r)).map fun x=>x.2):=fun r=>by
    by_cases q:x.1≤r
    ·rw [JH,j3,if_pos (decide_eq_true q),zw]
     have m0:y0.2∈(pre.filter fun x=>decide (x.1≤r)).map fun x=>x.2:=yr.mpr ⟨y0,yg.mpr ⟨hy0,decide_eq_true (by omega)⟩,rfl⟩
     refine GC (zY _ (ZK fun z=>by rw [z] at m0;cases m0)) fun z hz=>?_
     rcases zQ.mp hz with hz | hz
     ·exact Z9 hz
     ·have hz:z=x.2:=by simpa using hz
      have:=Z9 m0
      omega
    ·rw [JH,j3,if_neg (by simpa using q)]
     simp
   have e1:JR (pre++[x])=JR pre:=by
    unfold JR
    rw [z06,zap (Qv pre) hx]
    refine z0i fun k r _=>?_
    congr 2
    exact same r
   obtain ⟨y,hy,ey⟩:=ih2 hne
   have hmm:leastOf ((pre++[x]).map fun y=>y.2)=leastOf (pre.map fun y=>y.2):=by
    have mne:(pre.map fun x=>x.2)≠[]:=by simp [hne]
    rw [zw]
    refine GC (zY _ (ZK mne)) fun z hz=>?_
    rcases zQ.mp hz with hz | hz
    ·exact Z9 hz
    ·have hz:z=x.2:=by simpa using hz
     have:=Z9 (yr.mpr ⟨y0,hy0,rfl⟩:y0.2∈pre.map fun x=>x.2)
     omega
   rw [e1]
   refine ⟨?_,fun _=>⟨y,hy,by rw [hmm];exact ey⟩⟩
   unfold Zi
   rw [hy]
   have:=Z9 (yr.mpr ⟨y0,hy0,rfl⟩:y0.2∈pre.map fun x=>x.2)
   simp only
   rw [if_neg (by omega)]
theorem z5x {p:Problem}{l:List NP}(h:l.Perm (Z5 p))(s:l.Pairwise leP):Zk p=l.foldl Zi []:=by
 rw [z1u,←z5y h]
 exact (qJ _ l rfl s).1
end LI
namespace LI
open Vaidxd (Problem Set_ Proof readProof flatProof)
def jA:List Nat→List Int→Option (List Int)
 | [],x=>some x
 | d::ds,x=>(readProof d x).bind fun u=>jA ds u.2
theorem z1b {ds:List Nat}{d:Nat}{x:List Int}(h:readProof d x=none):jA (d::ds) x=none:=by
 show (readProof d x).bind _=none
 rw [h];rfl
theorem zaI {ds:List Nat}{d:Nat}:jA (d::ds) []=none:=z1b (by cases d <;> simp [readProof])
theorem z2R {ds:List Nat}{d:Nat}{r:List Int}:jA ((d+1)::ds) (0::r)=jA (d::d::ds) r:=by
 show (readProof (d+1) (0::r)).bind _=(readProof d r).bind fun u=>(readProof d u.2).bind fun v=>jA ds v.2
 rw [readProof]
 cases readProof d r with
 | none=>rfl
 | some u=>
  show ((readProof d u.2).map fun v=>(Proof.split u.1 v.1,v.2)).bind _=(readProof d u.2).bind _
  cases readProof d u.2 <;> rfl
theorem z6i {ds:List Nat}{r:List Int}:jA (1::ds) (0::r)=none:=by
 rw [z2R]
 exact z1b rfl
theorem z9E {ds:List Nat}{d:Nat}{z:Int}{r:List Int}(h:z=1∨z=2):jA ((d+1)::ds) (z::r)=jA ds r:=by
 rcases h with rfl | rfl <;> rfl
theorem zaJ {ds:List Nat}{d:Nat}{z:Int}{r:List Int}(h:¬(0≤z∧z≤2)):jA (d::ds) (z::r)=none:=by
 refine z1b ?_
 cases d with
 | zero=>rfl
 | succ d=>
  unfold readProof
  split
  ·rename_i e;exact absurd (YZ e).1 (by omega)
  ·rename_i e;exact absurd (YZ e).1 (by omega)
  ·rename_i e;exact absurd (YZ e).1 (by omega)
  ·rfl
theorem z15:∀{d:Nat}{x r:List Int}{p:Proof},readProof d x=some (p,r)→x=flatProof p++r
 | 0,x,r,p,h=>by rw [readProof] at h;cases h
 | d+1,x,r,p,h=>by
  unfold readProof at h
  split at h
  ·rename_i y
   cases q:readProof d y with
   | none=>rw [q] at h;cases h
   | some u=>
    rw [q] at h
    have h:((readProof d u.2).map fun v=>(Proof.split u.1 v.1,v.2))=some (p,r):=h
    cases q2:readProof d u.2 with
    | none=>rw [q2] at h;cases h
    | some v=>
     rw [q2] at h
     cases h
     have e1:=z15 (p:=u.1) (r:=u.2) q
     have e2:=z15 (p:=v.1) (r:=v.2) q2
     show 0::y=0::(flatProof u.1++flatProof v.1)++v.2
     rw [e1,e2]
     simp
  ·cases h;rfl
  ·cases h;rfl
  ·cases h
theorem z3T {x:List Int}:(∀p,Y4 x=some p→flatProof p=x)∧((Y4 x).isSome=true↔jA [10] x=some []):=by
 have e:Y4 x=(match readProof 10 x with | some (p,[])=>some p | _=>none):=rfl
 have m:jA [10] x=(readProof 10 x).map fun u=>u.2:=by
  show (readProof 10 x).bind _=_
  cases readProof 10 x <;> rfl
 rw [e,m]
 cases q:readProof 10 x with
 | none=>exact ⟨(fun p h=>by cases h),by simp⟩
 | some u=>
  obtain ⟨p,r⟩:=u
  have f:=z15 q
  cases r with
  | nil=>
   refine ⟨fun p' h=>?_,by simp⟩
   cases h
   rw [f];simp
  | cons z r=>exact ⟨(fun p h=>by cases h),by simp⟩
theorem qZ:∀{s l:List Nat},s.Sublist l→s∈yz s.length l
 | _,_,.slnil=>by simp [yz]
 | [],_,.cons a h=>by simp [yz]
 | x::s,_,.cons a h=>by
  show _∈yz (s.length+1) _
  unfold yz
  exact zq _ (qZ h)
 | _,_,.cons₂ a h=>by
  show _∈yz (_+1) _
  unfold yz
  exact zY _ (yr.mpr ⟨_,qZ h,rfl⟩)
theorem z5L {s:List Nat}{n:Nat}(h:s.Pairwise (·< ·))(k:∀i∈s,i<n):s.Sublist (zf n):=by
 have e:s=(zf n).filter fun i=>s.contains i:=by
  refine Qa h (List.pairwise_lt_range.filter _) fun x=>?_
  rw [yg,YX]
  constructor
  ·exact fun hx=>⟨k x hx,by simpa using hx⟩
  ·exact fun hx=>by simpa using hx.2
 rw [e]
 exact List.filter_sublist
theorem z5M {s:List Nat}{n:Nat}(h:s.Pairwise (·< ·))(k:∀i∈s,i<n):s∈jf n:=by
 have sb:=z5L h k
 have hl:=sb.length_le
 rw [yA] at hl
 exact z3h.mpr ⟨s.length,YX.mpr (by omega),qZ sb⟩
theorem z9G {p:Problem}{room:Nat}{s:Set_}(h:s.Pairwise (·< ·))(k:∀i∈s,i<zN p)(r:¬room<yk p s):ym p room≤zH p s:=by
 unfold ym
 refine Z9 (yr.mpr ⟨s,?_,rfl⟩)
 exact yg.mpr ⟨z5M h k,decide_eq_true (by omega)⟩
structure Plc where
 at_:Nat
 set_:Set_
structure Vh (n:Nat)(x:Plc):Prop where
 le:x.at_≤n
 rise:x.set_.Pairwise (·< ·)
 lt:∀i∈x.set_,i<x.at_
def Plc.with_ (x:Plc):Plc:=⟨x.at_+1,x.set_++[x.at_]⟩
def Plc.without (x:Plc):Plc:=⟨x.at_+1,x.set_⟩
theorem Vh.with_ {n:Nat}{x:Plc}(h:Vh n x)(k:x.at_<n):Vh n x.with_:=by
 refine ⟨k,?_,fun i hi=>?_⟩
 ·refine za3.mpr ⟨h.rise,z6O _ _,fun a ha b hb=>?_⟩
  rw [zi.mp hb];exact h.lt a ha
 ·rcases zQ.mp hi with hi | hi
  ·exact jJ (h.lt i hi)
  ·rw [zi.mp hi];exact Yi _
theorem Vh.without {n:Nat}{x:Plc}(h:Vh n x)(k:x.at_<n):Vh n x.without:=⟨k,h.rise,fun i hi=>jJ (h.lt i hi)⟩
theorem Vh.len {n:Nat}{x:Plc}(h:Vh n x):x.set_.length≤n:=by
 have:=(z5L h.rise h.lt).length_le
 rw [yA] at this
 exact zd this h.le
def WF (p:Problem)(room cost:Nat)(z:Nat)(x:Plc):Bool:=
 if z=0 then decide (x.at_<zN p) else if z=1 then decide (cost≤jX p x.set_ x.at_) else decide (room<yk p x.set_)
def QU (p:Problem)(room cost:Nat)(x:Plc):Nat:=if WF p room cost 2 x=true then 2 else if WF p room cost 1 x=true then 1 else 0
def yX:Proof→List Nat
 | .split x y=>0::(yX x++yX y)
 | .bound=>[1]
 | .room=>[2]
theorem G3:∀p:Proof,(yX p).map (fun (n:Nat)=>(n:Int))=flatProof p
 | .split x y=>by
  show ((0:Nat):Int)::(yX x++yX y).map _=0::(flatProof x++flatProof y)
  rw [zw,G3 x,G3 y];rfl
 | .bound=>rfl
 | .room=>rfl
theorem GH:∀p:Proof,G8 p+(yX p).count 0=(yX p).length
 | .split x y=>by
  show (G8 x+G8 y)+(0::(yX x++yX y)).count 0=(0::(yX x++yX y)).length
  have a:=GH x
  have b:=GH y
  rw [List.count_cons_self,List.count_append,zu,za]
  omega
 | .bound=>rfl
 | .room=>rfl
theorem z3V (p:Proof):0<(yX p).length:=by cases p <;> simp [yX]
def made (p:Problem)(room:Nat)(x:Plc):Proof:=VZ p room (ym p room) (zN p+1 - x.at_) x.at_ x.set_
theorem z9V {p:Problem}{room:Nat}{x:Plc}(ok:Vh (zN p) x)(r:¬room<yk p x.set_)(e:¬x.at_<zN p):ym p room≤jX p x.set_ x.at_:=by
 have:=z9G ok.rise (fun i hi=>zW (ok.lt i hi) ok.le) r
 unfold jX
 have z:zN p - x.at_=0:=by omega
 rw [z]
 simpa [zH] using this
theorem made_eq {p:Problem}{room:Nat}{x:Plc}(ok:Vh (zN p) x):(QU p room (ym p room) x≠0→yX (made p room x)=[QU p room (ym p room) x])∧
  (QU p room (ym p room) x=0→x.at_<zN p∧yX (made p room x)=0::(yX (made p room x.with_)++yX (made p room x.without))):=by
 have e:zN p+1 - x.at_=(zN p - x.at_)+1:=by have:=ok.le;omega
 have u:made p room x=if room<yk p x.set_ then .room else if ym p room≤jX p x.set_ x.at_ then .bound else if x.at_<zN p then .split (VZ p room (ym p room) (zN p - x.at_) (x.at_+1) (x.set_++[x.at_])) (VZ p room (ym p room) (zN p - x.at_) (x.at_+1) x.set_) else .bound:=by
  unfold made
  rw [e];rfl
 have e2:zN p - x.at_=zN p+1 - (x.at_+1):=by omega
 unfold QU WF
 simp only [show ¬(2:Nat)=0 by decide,show ¬(2:Nat)=1 by decide,show ¬(1:Nat)=0 by decide,if_false,if_true,decide_eq_true_eq]
 by_cases h1:room<yk p x.set_
 ·rw [if_pos h1] at u ⊢
  exact ⟨fun _=>by rw [u];rfl,fun z=>by cases z⟩
 ·rw [if_neg h1] at u ⊢
  by_cases h2:ym p room≤jX p x.set_ x.at_
  ·rw [if_pos h2] at u ⊢
   exact ⟨fun _=>by rw [u];rfl,fun z=>by cases z⟩
  ·rw [if_neg h2] at u ⊢
   have h3:x.at_<zN p:=YR fun z=>h2 (z9V ok h1 z)
   rw [if_pos h3] at u
   refine ⟨fun z=>absurd rfl z,fun _=>⟨h3,?_⟩⟩
   rw [u]
   show 0::(yX _++yX _)=_
   rw [e2]
   rfl
theorem z7s (p:Problem)(room:Nat):jd p room=made p room ⟨0,[]⟩:=rfl
def J1 (p:Problem)(room cost:Nat)(x:Plc×Proof):Bool:=JO p room cost x.1.at_ x.1.set_ x.2
theorem z5f {p:Problem}{room cost:Nat}{x:Plc}{q:Proof}:∃z r,yX q=z::r∧z≤2∧((z≠0∧r=[]∧J1 p room cost (x,q)=WF p room cost z x)∨
  (z=0∧∃a b,q=.split a b∧r=yX a++yX b∧J1 p room cost (x,q)=(WF p room cost 0 x&&(J1 p room cost (x.with_,a)&&J1 p room cost (x.without,b))))):=by
 cases q with
 | split a b=>exact ⟨0,_,rfl,by decide,.inr ⟨rfl,a,b,rfl,rfl,rfl⟩⟩
 | bound=>exact ⟨1,_,rfl,by decide,.inl ⟨by decide,rfl,rfl⟩⟩
 | room=>exact ⟨2,_,rfl,by decide,.inl ⟨by decide,rfl,rfl⟩⟩
theorem z0e (p:Problem)(room cost:Nat):∀(f k:Nat) (s:Set_),(yX (VZ p room cost f k s)).length<2 ^ (f+1)
 | 0,k,s=>by simp [VZ,yX]
 | f+1,k,s=>by
  have h2:2 ^ (f+1+1)=2 ^ (f+1)+2 ^ (f+1):=by rw [z97];omega
  have h1:2≤2 ^ (f+1):=by rw [z97];have:=Nat.one_le_two_pow (n:=f);omega
  unfold VZ
  split
  ·simp [yX];try omega
  ·split
   ·simp [yX];try omega
   ·split
    ·have a:=z0e p room cost f (k+1) (s++[k])
     have b:=z0e p room cost f (k+1) s
     simp only [yX,zu,za]
     omega
    ·simp [yX];try omega
end LI
namespace LI
open PySem PySem.Spec PyProof.Rows L2
def top (i:Nat):Stmt:=PySem.Challenge.pw_leastindexes_s01_answers.main.body.getD i (.Pass ⟨0,0,0,0⟩)
abbrev Qp:Stmt:=top 1
abbrev z2u:Stmt:=top 2
abbrev J4 (j:Nat):Stmt:=Jy (top 3) j
abbrev z7n (j:Nat):Stmt:=Jy (top 4) j
abbrev Qt:Stmt:=top 5
abbrev z7j (j:Nat):Stmt:=Jy (top 6) j
abbrev jy (j:Nat):Stmt:=Jy (top 7) j
abbrev Zl (j:Nat):Stmt:=Jy (top 8) j
structure Adr where
 fil:Addr
 grp:Addr
 tbl:Addr
 qst:Addr
 idx:Addr
 off:Addr
 rdr:Addr
 err:Addr
 adv:Addr
 cal:Addr
 plc:Addr
 prv:Addr
structure z0u (K:z4)(C:Addr)(fs:List Str):Prop where
 cl:Cls K C
 no:∀f∈fs,GM K C f
def Num (mg:Str→Option Value)(x:Str)(n:Int):Prop:=∃t,mg x=some (W7 n t)
def nums1:List (Str×Int):=[("ENTRY_TOUCHED",1),("ROW_TOUCHED",2),("ROW_SORTED",3),("LOOK_UP",4),("NOT_SERVED",-1),("MOST_COLUMNS",4),("MOST_GROUPS",12),("MOST_ROWS",1000000),("HIGHEST_VALUE",9),("HIGHEST_LIMIT",1000000),("MOST_ASKED",1000),
 ("NOT_WHOLE",-1),("NOT_THERE",-2),("OUT_OF_RANGE",-3),("NOT_A_SET",-4),("FULL",-6),("MOST_QUESTIONS",6),("MOST_OFFERS",8),("HIGHEST_UPKEEP",1000000000),("HIGHEST_ROOM",1000000000),("NO_TABLE",-8),
 ("TABLE",0),("QUESTION",1),("INDEX",2),("ROOM",3),("COSTS",4),("COST",5),("LEAST",6)]
def nums2:List (Str×Int):=[("BELOW_NONE",-4),("NOT_A_PROOF",-4),("NO_SET",-1),("MATTERS",-1),("IDLE",-2),("SPLIT",0),("BOUND",1),("NO_ROOM",2),("DEEPEST_SPLIT",9),("KTH",7),("WITH_OFFER",8),("DOMINATED",9),("PROVE",10),("CHECK",11)]
def nums:List (Str×Int):=nums1++nums2
structure Txt (K:z4)(mg:Str→Option Value)(C:Adr):Prop where
 fil:z0u K C.fil ["column","low","high"]
 grp:z0u K C.grp ["cells","rows"]
 tbl:z0u K C.tbl ["width","groups"]
 qst:z0u K C.qst ["filters","order","backwards","wanted","limit","asked"]
 idx:z0u K C.idx ["key_columns","included","condition"]
 off:z0u K C.off ["index","upkeep","room"]
 rdr:z0u K C.rdr ["told","place"]
 err:Exc K mg "NotWhole" C.err
 adv:z0u K C.adv ["table","questions","offers","room"]
 cal:z0u K C.cal ["kind","number","row"]
 plc:z0u K C.plc ["looked_at","chosen"]
 prv:z0u K C.prv ["costs","offers","room"]
 num:∀p∈nums,Num mg p.1 p.2
 blt:∀x∈(["all","any","sum","len","min","list","reversed","sorted","range","enumerate","zip"]:List Str),mg x=none
abbrev lk (fs:List (Str×V))(x:Str):Option V:=fs.lookup x
theorem z0u.nn {K:z4}{C:Addr}{fs:List Str}{f:Str}(c:z0u K C fs)(m:f∈fs:=by decide +kernel):GM K C f:=c.no f m
theorem scp {N P:List Str}{sc:Scope}(a:sc.kind=.function:=by rfl)(b:sc.isCoroutine=false:=by rfl)(c:sc.isGenerator=false:=by rfl)(d:N.Nodup:=by decide +kernel)(e:N.take P.length=P:=by rfl)
 (f:∀x∈P,sc.names.lookup x=some .local∨sc.names.lookup x=some .cell:=by decide +kernel) (g:∀y∈sc.names,y.2≠.free:=by decide +kernel):zy N P sc:=⟨a,b,c,d,e,f,g⟩
theorem loc {sc:Scope}{x:Str}(h:sc.names.lookup x=some .local:=by exact rfl):Loc sc x:=.inl h
theorem few {a b:Nat}(h:a.ble b=true:=by kernel_rfl):a≤b:=za2 h
theorem yx {X:Cx}{x:Str}{n:Int}{pos:Pos}(hg:Gl X x)(h:Num X.mg x n)(hd:(x==("__debug__":Str))=false:=by decide):PE X (.Name x pos) (tC (.int n)):=by
 obtain ⟨t,e⟩:=h
 exact z4F hg e ⟨t,rfl⟩ hd
theorem Txt.n {K:z4}{mg:Str→Option Value}{C:Adr}(T:Txt K mg C){x:Str}{n:Int}(h:(x,n)∈nums:=by decide +kernel):Num mg x n:=T.num _ h
theorem Txt.bl {K:z4}{mg:Str→Option Value}{C:Adr}(T:Txt K mg C){x:Str}(h:x∈(["all","any","sum","len","min","list","reversed","sorted","range","enumerate","zip"]:List Str):=by decide +kernel):mg x=none:=T.blt x h
theorem Zn {L:List LT}{H:Hp}{x dx C:Addr}{o:HO}(nx:H x=none)(nd:H dx=none)(ne:dx≠x):Kp L H (upd (upd (upd H dx (.own x)) x (.ins C dx [])) x o):=by
 rw [Z3]
 exact (Kp.refl.new nd).new (by rw [zl (j1 ne)];exact nx)
open VaidxBase (Filter Group Table Index)
def yJ (l:List Nat):List V:=l.map fun (n:Nat)=>V.int (n:Int)
theorem yM {l:List Nat}:(yJ l).length=l.length:=z0 _
theorem Us {l:List Nat}{i:Nat}:(yJ l)[i]?=(l[i]?).map fun (n:Nat)=>V.int (n:Int):=zB ..
def zj (H:Hp)(a:Addr)(l:List Nat):Prop:=H a=some (.lst (yJ l))
def yZ {α:Type}(R:Hp→Addr→α→Prop)(H:Hp)(a:Addr)(ds:List α):Prop:=∃as,H a=some (.lst (as.map V.ref))∧Ats (R H) as ds
def filF (f:Filter):List (Str×V):=[("column",.int f.col),("low",.int f.lo),("high",.int f.hi)]
theorem Vf {f:Filter}:lk (filF f) "column"=some (.int f.col):=by kernel_rfl
theorem z1Z {f:Filter}:lk (filF f) "low"=some (.int f.lo):=by kernel_rfl
theorem z20 {f:Filter}:lk (filF f) "high"=some (.int f.hi):=by kernel_rfl
def Yp (C:Adr)(H:Hp)(a:Addr)(f:Filter):Prop:=∃dx,H a=some (.ins C.fil dx (filF f))
def Ux (c:Addr)(n:Nat):List (Str×V):=[("cells",.ref c),("rows",.int n)]
theorem ZP {c:Addr}{n:Nat}:lk (Ux c n) "cells"=some (.ref c):=by kernel_rfl
theorem z3S {c:Addr}{n:Nat}:lk (Ux c n) "rows"=some (.int n):=by kernel_rfl
inductive Ji (C:Adr)(H:Hp)(a:Addr)(g:Group):Prop | mk (dx c) (_:H a=some (.ins C.grp dx (Ux c g.count))) (_:zj H c g.row)
def tblF (n:Nat)(l:Addr):List (Str×V):=[("width",.int n),("groups",.ref l)]
theorem z2h {n:Nat}{l:Addr}:lk (tblF n l) "width"=some (.int n):=by kernel_rfl
theorem W9 {n:Nat}{l:Addr}:lk (tblF n l) "groups"=some (.ref l):=by kernel_rfl
inductive Vg (C:Adr)(H:Hp)(a:Addr)(t:Table):Prop | mk (dx l) (_:H a=some (.ins C.tbl dx (tblF t.cols l))) (_:yZ (Ji C) H l t.groups)
def z4v (fl ol wl:Addr)(q:Qst):List (Str×V):=[("filters",.ref fl),("order",.ref ol),("backwards",.bl q.back),("wanted",.ref wl),("limit",.int q.limit),("asked",.int q.times)]
section
variable {fl ol wl:Addr}{q:Qst}
theorem Js:lk (z4v fl ol wl q) "filters"=some (.ref fl):=by kernel_rfl
theorem z2F:lk (z4v fl ol wl q) "order"=some (.ref ol):=by kernel_rfl
theorem z2H:lk (z4v fl ol wl q) "backwards"=some (.bl q.back):=by kernel_rfl
theorem z5U:lk (z4v fl ol wl q) "wanted"=some (.ref wl):=by kernel_rfl
theorem z2G:lk (z4v fl ol wl q) "limit"=some (.int q.limit):=by kernel_rfl
theorem z2I:lk (z4v fl ol wl q) "asked"=some (.int q.times):=by kernel_rfl
end
inductive Y0 (C:Adr)(H:Hp)(a:Addr)(q:Qst):Prop | mk (dx fl ol wl) (_:H a=some (.ins C.qst dx (z4v fl ol wl q))) (_:yZ (Yp C) H fl q.filters) (_:zj H ol q.order) (_:zj H wl q.wants)
def idxF (kl il:Addr)(cv:V):List (Str×V):=[("key_columns",.ref kl),("included",.ref il),("condition",cv)]
section
variable {kl il:Addr}{cv:V}
theorem VI:lk (idxF kl il cv) "key_columns"=some (.ref kl):=by kernel_rfl
theorem z9M:lk (idxF kl il cv) "included"=some (.ref il):=by kernel_rfl
theorem qi:lk (idxF kl il cv) "condition"=some cv:=by kernel_rfl
end
def WH (C:Adr)(H:Hp)(v:V):Option Filter→Prop
 | none=>v=.non
 | some f=>∃a,v=.ref a∧Yp C H a f
inductive JE (C:Adr)(H:Hp)(a:Addr)(i:Index):Prop | mk (dx kl il cv) (_:H a=some (.ins C.idx dx (idxF kl il cv))) (_:zj H kl i.keys) (_:zj H il i.others) (_:WH C H cv i.only)
def z6d (ia:Addr)(u r:Nat):List (Str×V):=[("index",.ref ia),("upkeep",.int u),("room",.int r)]
theorem z2P {ia:Addr}{u r:Nat}:lk (z6d ia u r) "index"=some (.ref ia):=by kernel_rfl
theorem Wk {ia:Addr}{u r:Nat}:lk (z6d ia u r) "upkeep"=some (.int u):=by kernel_rfl
theorem qb {ia:Addr}{u r:Nat}:lk (z6d ia u r) "room"=some (.int r):=by kernel_rfl
inductive Yo (C:Adr)(t:Table)(H:Hp)(a:Addr)(o:z1k):Prop | mk (dx ia) (_:H a=some (.ins C.off dx (z6d ia o.upkeep (yn t o.index)))) (_:JE C H ia o.index)
def yt (H:Hp)(a:Addr)(l:List Int):Prop:=H a=some (.lst (l.map V.int))
def Sub (H H':Hp):Prop:=∀b o,H b=some o→(∀ps,o≠.tbl ps)→H' b=some o
section
variable {C:Adr}{H H' H1 H2:Hp}{a b:Addr}{o:HO}
theorem Sub.lst {xs:List V}(k:Sub H H')(h:H a=some (.lst xs)):H' a=some (.lst xs):=k _ _ h (by intro _ z;cases z)
theorem Sub.ins {c d:Addr}{fs:List (Str×V)}(k:Sub H H')(h:H a=some (.ins c d fs)):H' a=some (.ins c d fs):=k _ _ h (by intro _ z;cases z)
theorem yt.sub {l:List Int}(h:yt H a l)(k:Sub H H'):yt H' a l:=k.lst h
theorem zj.sub {l:List Nat}(h:zj H a l)(k:Sub H H'):zj H' a l:=k.lst h
theorem Yp.sub {f:Filter}(h:Yp C H a f)(k:Sub H H'):Yp C H' a f:=let ⟨dx,h⟩:=h;⟨dx,k.ins h⟩
theorem Ji.sub {g:Group}(h:Ji C H a g)(k:Sub H H'):Ji C H' a g:=let ⟨dx,c,h,n⟩:=h;⟨dx,c,k.ins h,n.sub k⟩
theorem yZ.sub {α:Type}{R:Hp→Addr→α→Prop}{ds:List α}(m:∀a d,R H a d→R H' a d)(h:yZ R H a ds)(k:Sub H H'):yZ R H' a ds:=let ⟨as,h1,h2⟩:=h;⟨as,k.lst h1,h2.imp m⟩
theorem Vg.sub {t:Table}(h:Vg C H a t)(k:Sub H H'):Vg C H' a t:=let ⟨dx,l,h,n⟩:=h;⟨dx,l,k.ins h,n.sub (fun _ _ r=>r.sub k) k⟩
theorem Y0.sub {q:Qst}(h:Y0 C H a q)(k:Sub H H'):Y0 C H' a q:=let ⟨dx,fl,ol,wl,h,n,o,w⟩:=h;⟨dx,fl,ol,wl,k.ins h,n.sub (fun _ _ r=>r.sub k) k,o.sub k,w.sub k⟩
theorem WH.sub {v:V}{o:Option Filter}(h:WH C H v o)(k:Sub H H'):WH C H' v o:=match o,h with
 | none,h=>h
 | some _,⟨a,e,r⟩=>⟨a,e,r.sub k⟩
theorem JE.sub {i:Index}(h:JE C H a i)(k:Sub H H'):JE C H' a i:=let ⟨dx,kl,il,cv,h,n,o,c⟩:=h;⟨dx,kl,il,cv,k.ins h,n.sub k,o.sub k,c.sub k⟩
theorem Yo.sub {t:Table}{o:z1k}(h:Yo C t H a o)(k:Sub H H'):Yo C t H' a o:=let ⟨dx,ia,h,n⟩:=h;⟨dx,ia,k.ins h,n.sub k⟩
def VU (H H':Hp):Hp:=fun b=>match H b with
 | none=>H' b
 | some _=>none
theorem jR (n:H b=none)(h:H' b=some o):VU H H' b=some o:=by unfold VU;rw [n];exact h
theorem Ur (h:VU H H' b=some o):H b=none∧H' b=some o:=by
 unfold VU at h
 cases q:H b with
 | none=>rw [q] at h;exact ⟨rfl,h⟩
 | some _=>rw [q] at h;cases h
theorem z1a:Sub (VU H H') H':=fun _ _ e _=>(Ur e).2
theorem z81 (k:Sub H1 H2):Sub (VU H H1) (VU H H2):=fun _ o e n=>jR (Ur e).1 (k _ o (Ur e).2 n)
end
section
variable {K:z4}{C:Adr}{L:List LT}{H H':Hp}{a:Addr}
theorem yt.kp {l:List Int}(h:yt H a l)(k:Kp L H H'):yt H' a l:=k.lst h
theorem zj.kp {l:List Nat}(h:zj H a l)(k:Kp L H H'):zj H' a l:=k.lst h
theorem zj.sq {l:List Nat}(h:zj H a l):SqL K H a (yJ l):=SqL.of h
theorem Yp.kp {f:Filter}(h:Yp C H a f)(k:Kp L H H'):Yp C H' a f:=let ⟨dx,h⟩:=h;⟨dx,k.ins h⟩
theorem Ji.kp {g:Group}(h:Ji C H a g)(k:Kp L H H'):Ji C H' a g:=let ⟨dx,c,h,n⟩:=h;⟨dx,c,k.ins h,n.kp k⟩
theorem yZ.kp {α:Type}{R:Hp→Addr→α→Prop}{ds:List α}(m:∀a d,R H a d→R H' a d)(h:yZ R H a ds)(k:Kp L H H'):yZ R H' a ds:=let ⟨as,h1,h2⟩:=h;⟨as,k.lst h1,h2.imp m⟩
theorem z59 {fs:List Filter}(h:yZ (Yp C) H a fs)(k:Kp L H H'):yZ (Yp C) H' a fs:=h.kp (fun _ _ r=>r.kp k) k
theorem qj {gs:List Group}(h:yZ (Ji C) H a gs)(k:Kp L H H'):yZ (Ji C) H' a gs:=h.kp (fun _ _ r=>r.kp k) k
theorem Vg.kp {t:Table}(h:Vg C H a t)(k:Kp L H H'):Vg C H' a t:=let ⟨dx,l,h,n⟩:=h;⟨dx,l,k.ins h,qj n k⟩
theorem Y0.kp {q:Qst}(h:Y0 C H a q)(k:Kp L H H'):Y0 C H' a q:=let ⟨dx,fl,ol,wl,h,n,o,w⟩:=h;⟨dx,fl,ol,wl,k.ins h,z59 n k,o.kp k,w.kp k⟩
theorem WH.kp {v:V}{o:Option Filter}(h:WH C H v o)(k:Kp L H H'):WH C H' v o:=match o,h with
 | none,h=>h
 | some _,⟨a,e,r⟩=>⟨a,e,r.kp k⟩
theorem JE.kp {i:Index}(h:JE C H a i)(k:Kp L H H'):JE C H' a i:=let ⟨dx,kl,il,cv,h,n,o,c⟩:=h;⟨dx,kl,il,cv,k.ins h,n.kp k,o.kp k,c.kp k⟩
theorem Yo.kp {t:Table}{o:z1k}(h:Yo C t H a o)(k:Kp L H H'):Yo C t H' a o:=let ⟨dx,ia,h,n⟩:=h;⟨dx,ia,k.ins h,n.kp k⟩
theorem jN {t:Table}{os:List z1k}(h:yZ (Yo C t) H a os)(k:Kp L H H'):yZ (Yo C t) H' a os:=h.kp (fun _ _ r=>r.kp k) k
end
theorem Yf {α:Type}{g:α→V}:∀ds:List α,(ds.map fun d=>some (g d)).filterMap id=ds.map g
 | []=>rfl
 | d::ds=>by rw [zJ,Zs,zJ,Yf ds];rfl
theorem Wm {α:Type}{p:α→Bool}{g:α→V}:∀ds:List α,(ds.map fun d=>if p d=true then some (g d) else none).filterMap id=(ds.filter p).map g
 | []=>rfl
 | d::ds=>by
  rw [zJ,Zs,j3,Wm ds]
  by_cases h:p d=true
  ·rw [if_pos h,if_pos h];rfl
  ·rw [if_neg h,if_neg h];rfl
theorem Z8 {α:Type}{F:α→Option V}{ds:List α}{i:Nat}{d:α}{o:Option V}(h:(ds.map F)[i]?=some o)(hd:ds[i]?=some d):o=F d:=by
 rw [zB,hd] at h
 exact (zG h).symm
theorem G1 {l:List Nat}{i:Nat}{x:V}(h:(yJ l)[i]?=some x):∃n:Nat,l[i]?=some n∧x=.int (n:Int):=by
 rw [Us] at h
 cases q:l[i]? with
 | none=>rw [q] at h;cases h
 | some n=>rw [q] at h;exact ⟨n,rfl,(zG h).symm⟩
theorem Jx {n:Nat}:∀l:List Nat,inV (.int n) (yJ l)=l.contains n
 | []=>rfl
 | a::l=>by
  show (eqV (.int a) (.int n)||inV (.int n) (yJ l))=_
  rw [Jx l,WL]
  have e:eqV (.int (a:Int)) (.int (n:Int))=(n==a):=by
   show decide ((a:Int)=n)=_
   rw [y8];simp;omega
  rw [e]
theorem Yq:∀l:List Nat,(yJ l).all Ve=true
 | []=>rfl
 | a::l=>by show (Ve (.int a)&&(yJ l).all Ve)=true;rw [Yq l];rfl
theorem Ya {σ:L2.St}{H:Hp}{A B:Hp→Prop}(h:A H):tYes σ H (fun b H4=>if b=true then A H4 else B H4):=by
 show (if (true:Bool)=true then A H else B H)
 rw [if_pos rfl];exact h
theorem J0 {n:Nat}(h:n≤1000):n≤sizeLine:=J8 (z3H h)
theorem zbb:bootBuiltins "all"=some (.builtin "all"):=by decide +kernel
theorem bt_any:bootBuiltins "any"=some (.builtin "any"):=by decide +kernel
theorem z5d:bootBuiltins "sum"=some (.builtin "sum"):=by decide +kernel
theorem Ats.pick {α:Type}{R:Addr→α→Prop}(p:α→Bool):∀{as:List Addr}{ds:List α},Ats R as ds→Ats R (((as.zip ds).filter fun x=>p x.2).map (·.1)) (ds.filter p)
 | [],[],_=>.nil
 | [],_::_,h=>by cases h.len
 | _::_,[],h=>by cases h.len
 | a::as,d::ds,h=>by
  have hd:R a d:=h.at_ 0 a d rfl rfl
  have tl:Ats R as ds:=⟨z0x h.len,fun i b e x y=>h.at_ (i+1) b e (by simpa using x) (by simpa using y)⟩
  have ih:=Ats.pick p tl
  rw [List.zip_cons_cons,j3,j3]
  by_cases q:p d=true
  ·rw [if_pos q,if_pos q,zJ]
   refine ⟨by rw [zu,zu,ih.len],fun i b e x y=>?_⟩
   cases i with
   | zero=>
    simp at x y
    rw [←x,←y];exact hd
   | succ i=>exact ih.at_ i b e (by simpa using x) (by simpa using y)
  ·rw [if_neg q,if_neg q]
   exact ih
theorem UN {α:Type}{as:List Addr}{ds:List α}{i:Nat}{a:Addr}{d:α}(x:as[i]?=some a)(y:ds[i]?=some d):(as.zip ds)[i]?=some (a,d):=by
 rw [Ga];exact ⟨x,y⟩
def qP (l:List Nat):PyData:=.list (l.map fun (n:Nat)=>.int (n:Int))
theorem zb0 {K:z4}{H:Hp}:∀l:List Nat,z3c K H (yJ l) (l.map fun (n:Nat)=>z0v (n:Int))
 | []=>.nil
 | n::l=>.cons (.int n) (zb0 l)
theorem Wn {K:z4}{H:Hp}{a:Addr}{l:List Nat}(h:zj H a l):Dp K H (.ref a) (qP l):=.lst h.sq (zb0 l)
theorem ZG (l:List Nat):z1B (qP l)=true:=by
 have c:∀l:List Nat,z1l (l.map fun (n:Nat)=>z0v (n:Int))=true:=fun l=>by
  induction l with
  | nil=>simp [z1l]
  | cons n l ih=>simp [z1l,PyData.canLay0,ih]
 have d:∀l:List Nat,z3e (l.map fun (n:Nat)=>z0v (n:Int))≤1:=fun l=>by
  induction l with
  | nil=>simp [z3e]
  | cons n l ih=>simp [z3e,PyData.depth];exact ih
 unfold z1B qP
 simp only [PyData.canLay0,PyData.depth,ye,decide_eq_true_eq]
 have:=d l
 refine ⟨by first | exact c l | exact ⟨c l,trivial⟩,?_⟩
 exact decide_eq_true (by omega)
theorem z0j:∀l m:List Nat,z0w (qP l) (qP m)=(l==m):=by
 have h:∀l m:List Nat,QP (l.map fun (n:Nat)=>z0v (n:Int)) (m.map fun (n:Nat)=>z0v (n:Int))=(l==m):=fun l=>by
  induction l with
  | nil=>intro m;cases m <;> simp [QP]
  | cons a l ih=>
   intro m
   cases m with
   | nil=>simp [QP]
   | cons b m=>
    simp only [zJ,QP,z0w,ih m,List.cons_beq_cons]
    congr 1
    rw [y8];simp;omega
 intro l m
 show z0w (.list _) (.list _)=_
 rw [z0w]
 exact h l m
open VaidxBase (Filter Group Table Index)
section
variable (L:List LT)(C:Adr)
inductive z0N (vs:List V)(H:Hp)(Q:VK)(_E:XK):Prop | mk (p dx:Addr) (f:Filter) (_:vs=[.ref p,.int f.col,.int f.lo,.int f.hi]) (_:H p=some (.ins C.fil dx [])) (_:Q .non (upd H p (.ins C.fil dx (filF f))))
inductive QW (vs:List V)(H:Hp)(Q:VK)(_E:XK):Prop | mk (a c:Addr) (f:Filter) (r:List Nat) (_:vs=[.ref a,.ref c]) (_:Yp C H a f) (_:zj H c r) (_:f.col<r.length) (_:Q (.bl (yc r f)) H)
inductive z0L (vs:List V)(H:Hp)(Q:VK)(_E:XK):Prop | mk (a:Addr) (f:Filter) (_:vs=[.ref a]) (_:Yp C H a f) (_:Q (.bl (Jl f)) H)
inductive Gg (vs:List V)(H:Hp)(Q:VK)(_E:XK):Prop | mk (a b:Addr) (f g:Filter) (_:vs=[.ref a,.ref b]) (_:Yp C H a f) (_:Yp C H b g) (_:Q (.bl (Ww f g)) H)
inductive YC (vs:List V)(H:Hp)(Q:VK)(_E:XK):Prop | mk (a c:Addr) (fs:List Filter) (r:List Nat) (_:vs=[.ref a,.ref c]) (_:yZ (Yp C) H a fs) (_:zj H c r) (_:(∀f∈fs,f.col<r.length)) (_:fs.length≤1000) (_:∀H',Kp L H H'→Q (.bl (fs.all (yc r))) H')
inductive WU (vs:List V)(H:Hp)(Q:VK)(_E:XK):Prop | mk (a b:Addr) (l m:List Nat) (_:vs=[.ref a,.ref b]) (_:zj H a l) (_:zj H b m) (_:l.length≤1000) (_:∀H' p,Kp L H H'→H p=none→H' p=some (.lst (yJ (l.filter fun c=>!m.contains c)))→Q (.ref p) H')
end
section
variable {P:Program}{w:World}{K:z4}{mg:Str→Option Value}{base:Heap}{L:List LT}{C:Adr}{k:Nat}{f:Addr}{fd:FuncData}
theorem z7g:zy ["self","column","low","high"] ["self","column","low","high"] (zh (J4 0)):=scp
theorem z7S (T:Txt K mg C)(F:Fun K "__init__" "Filter.__init__" (J4 0) f fd):yT P w K mg base 1 ["self","column","low","high"] (z0N C) f:=by
 refine F.okN z7g (fun cdv A outer s H vs Q E hr h=>?_)
 ·obtain ⟨p,dx,f,rfl,hp,q⟩:=h
  refine ⟨_,z6 (jk (pv 0) (pv 1) rfl) (z6 (jk (pv 0) (pv 2) rfl) (z9 (jk (pv 0) (pv 3) rfl))),?_⟩
  refine ⟨_,rfl,_,rfl,⟨_,_,_,_,rfl,hp,T.fil.cl,T.fil.nn,few,⟨_,rfl,_,rfl,⟨_,_,_,_,rfl,z5,T.fil.cl,T.fil.nn,few,⟨_,rfl,_,rfl,⟨_,_,_,_,rfl,z5,T.fil.cl,T.fil.nn,few,?_⟩⟩⟩⟩⟩⟩
  rw [Z3,Z3]
  exact q
theorem z9g:zy ["self","cells"] ["self","cells"] (zh (J4 1)):=scp
theorem z9t (T:Txt K mg C)(F:Fun K "passes" "Filter.passes" (J4 1) f fd):yT P w K mg base 1 ["self","cells"] (QW C) f:=by
 refine F.okN z9g (fun cdv A outer s H vs Q E hr h=>?_)
 ·obtain ⟨a,c,f,r,rfl,⟨dx,ha⟩,hc,hlt,q⟩:=h
  have hv:(yJ r)[f.col]?=some (.int (y9 r f.col)):=by
   rw [Us,z8 hlt]
   unfold y9
   rw [z8 hlt];rfl
  refine ⟨_,z9 (zA (zaw z2N z2N (zm (pv 0) rfl) (Zt jl (pv 1) (zm (pv 0) rfl) (fun _ _=>rfl)) (zm (pv 0) rfl))),?_⟩
  refine ⟨_,rfl,⟨_,_,_,_,_,rfl,ha,T.fil.cl,T.fil.nn,z1Z,⟨_,rfl,_,rfl,⟨_,_,_,_,_,rfl,ha,T.fil.cl,T.fil.nn,Vf,⟨c,_,_,_,rfl,rfl,hc.sq,YA rfl hv,_,_,rfl,rfl,_,rfl,?_⟩⟩⟩⟩⟩
  have e:yc r f=(decide (f.lo≤y9 r f.col)&&decide (y9 r f.col≤f.hi)):=rfl
  by_cases h1:f.lo≤y9 r f.col
  ·rw [if_pos (by simpa using h1)]
   refine ⟨_,rfl,⟨_,_,_,_,_,rfl,ha,T.fil.cl,T.fil.nn,z20,⟨_,_,rfl,rfl,?_⟩⟩⟩
   rw [e] at q
   simpa [h1] using q
  ·rw [if_neg (by simpa using h1)]
   rw [e] at q
   simpa [h1] using q
theorem z7d:zy ["self"] ["self"] (zh (J4 2)):=scp
theorem z7O (T:Txt K mg C)(F:Fun K "is_equal" "Filter.is_equal" (J4 2) f fd):yT P w K mg base 1 ["self"] (z0L C) f:=by
 refine F.okN z7d (fun cdv A outer s H vs Q E hr h=>?_)
 ·obtain ⟨a,f,rfl,⟨dx,ha⟩,q⟩:=h
  refine ⟨_,z9 (zA (ZJ Zz (zm (pv 0) rfl) (zm (pv 0) rfl) (yj _))),?_⟩
  refine ⟨_,rfl,⟨_,_,_,_,_,rfl,ha,T.fil.cl,T.fil.nn,z1Z,⟨_,rfl,⟨_,_,_,_,_,rfl,ha,T.fil.cl,T.fil.nn,z20,⟨rfl,?_⟩⟩⟩⟩⟩
  have e:decide (V.int (f.lo:Int)=V.int (f.hi:Int))=Jl f:=by
   unfold Jl
   rw [y8];simp;omega
  show Q (.bl (decide (V.int (f.lo:Int)=V.int (f.hi:Int)))) H
  rw [e];exact q
theorem z5F:zy ["self","other"] ["self","other"] (zh (J4 3)):=scp
theorem z66 (T:Txt K mg C)(F:Fun K "is_within" "Filter.is_within" (J4 3) f fd):yT P w K mg base 1 ["self","other"] (Gg C) f:=by
 refine F.okN z5F (fun cdv A outer s H vs Q E hr h=>?_)
 ·obtain ⟨a,b,f,g,rfl,⟨dx,ha⟩,⟨dy,hb⟩,q⟩:=h
  refine ⟨_,z9 (zA (z7x (ZJ Zz (zm (pv 0) rfl) (zm (pv 1) rfl) (yj _)) (z7x (ZJ z5Y (zm (pv 0) rfl) (zm (pv 1) rfl) (yj _)) (z4E (ZJ z2N (zm (pv 0) rfl) (zm (pv 1) rfl) (yj _)))))),?_⟩
  refine ⟨_,rfl,⟨_,_,_,_,_,rfl,ha,T.fil.cl,T.fil.nn,Vf,⟨_,rfl,⟨_,_,_,_,_,rfl,hb,T.fil.cl,T.fil.nn,Vf,⟨rfl,_,rfl,?_⟩⟩⟩⟩⟩
  have q:Q (.bl (Ww f g)) H:=q
  unfold Ww at q
  by_cases h1:f.col=g.col
  ·rw [if_pos (by simp [h1])]
   refine ⟨_,rfl,⟨_,_,_,_,_,rfl,ha,T.fil.cl,T.fil.nn,z1Z,⟨_,rfl,⟨_,_,_,_,_,rfl,hb,T.fil.cl,T.fil.nn,z1Z,⟨_,_,rfl,rfl,_,rfl,?_⟩⟩⟩⟩⟩
   by_cases h2:g.lo≤f.lo
   ·rw [if_pos (by simp;omega)]
    refine ⟨_,rfl,⟨_,_,_,_,_,rfl,ha,T.fil.cl,T.fil.nn,z20,⟨_,rfl,⟨_,_,_,_,_,rfl,hb,T.fil.cl,T.fil.nn,z20,⟨_,_,rfl,rfl,?_⟩⟩⟩⟩⟩
    simpa [h1,h2] using q
   ·rw [if_neg (by simp;omega)]
    simpa [h1,h2] using q
  ·rw [if_neg (by simp;omega)]
   rw [show (f.col==g.col)=false from beq_eq_false_iff_ne.mpr h1] at q
   exact q
theorem Go:zy ["filters","cells","each"] ["filters","cells"] (zh Qp):=scp
theorem z4U (T:Txt K mg C)(F:Fun K "passes_all" "passes_all" Qp f fd)(m:zD P w K mg base k C.fil "passes" ["self","cells"] (QW C)):yT P w K mg base (k+1) ["filters","cells"] (YC L C) f:=by
 refine F.okN Go (fun cdv A outer s H vs Q E hr h=>?_)
 ·obtain ⟨a,c,fs,r,rfl,⟨as,hS,hA⟩,hc,hlt,hlen,q⟩:=h
  refine ⟨_,z9 (zA (yq (zb5 rfl) rfl T.bl zbb (z3 (Yy (own:=[("each",2)]) rfl Go.nd (j7 (pv 0)) (yR (by kernel_rfl))
   (fun _ _ _ _ _=>yB (i:=2) Go.nd rfl (Or.inl rfl)) (fun _ _ _ _ _=>Zm) (fun _ _ _ _ _=>jv m hr zL (pv 2) (z3 (pv 1) z7))) z7))),?_⟩
  refine ⟨_,rfl,a,rfl,⟨_,SqL.of hS⟩,fun D hD=>jS (L:=L) (fs.map fun f=>some (V.bl (yc r f))) (SqL.of hS) hD (by rw [z0,z0,hA.len]) ?_ ?_⟩
  ·rintro i x o H2 hx ho I
   obtain ⟨b,f,rfl,hb,hf,dx,rb⟩:=hA.get hx
   have eo:=Z8 ho hf
   subst eo
   refine ⟨rfl,Ya ?_⟩
   refine ⟨_,rfl,b,dx,_,rfl,I.kp.ins rb,(by kernel_rfl),_,rfl,b,c,f,r,rfl,⟨dx,I.kp.ins rb⟩,hc.kp I.kp,hlt f (zt hf),?_⟩
   exact I.yes hD (by rw [z0];exact J0 hlen) .refl ho
  ·intro H2 k2 h2
   rw [Yf] at h2
   refine ⟨D,fs.map (yc r),rfl,SqL.of (by rw [h2,zI];rfl),?_⟩
   have e:(fs.map (yc r)).all id=fs.all (yc r):=by rw [z8q];rfl
   rw [e]
   exact q H2 k2
theorem Qb:zy ["columns","left_out","column"] ["columns","left_out"] (zh z2u):=scp
theorem z7A (F:Fun K "without" "without" z2u f fd):yT P w K mg base 1 ["columns","left_out"] (WU L) f:=by
 refine F.okN Qb (fun cdv A outer s H vs Q E hr h=>?_)
 ·obtain ⟨a,b,l,m,rfl,ha,hb,hlen,q⟩:=h
  refine ⟨_,z9 (zA (Yy (own:=[("column",2)]) (tt:=z2i (tOp (rIn K true) (jc 2) (jc 1))) rfl Qb.nd (j7 (pv 0)) (yR (by kernel_rfl))
   (fun _ _ _ _ _=>yB (i:=2) Qb.nd rfl (Or.inl rfl)) (fun _ _ _ _ _=>YK (zZ z0b (pv 2) (pv 1) (by with_unfolding_all rfl))) (fun _ _ _ _ _=>pv 2))),?_⟩
  refine ⟨_,rfl,a,rfl,⟨_,ha.sq⟩,fun D hD=>jS (L:=L) (l.map fun c=>if (!m.contains c)=true then some (V.int (c:Int)) else none) ha.sq hD (by rw [z0,yM]) ?_ ?_⟩
  ·rintro i x o H2 hx ho I
   obtain ⟨n,hn,rfl⟩:=G1 hx
   have eo:=Z8 ho hn
   refine ⟨rfl,_,rfl,_,rfl,b,_,rfl,.inl (hb.kp I.kp).sq,rfl,Yq m,_,rfl,?_⟩
   rw [Jx]
   simp only [if_true]
   by_cases h1:(!m.contains n)=true
   ·rw [if_pos h1] at eo ⊢
    subst eo
    refine ⟨_,rfl,?_⟩
    exact I.yes hD (by rw [z0];exact J0 hlen) .refl ho
   ·rw [if_neg h1] at eo ⊢
    subst eo
    exact I.no .refl ho
  ·intro H2 k2 h2
   rw [Wm] at h2
   exact q H2 D k2 hD h2
end
theorem jt:bootBuiltins "len"=some (.builtin "len"):=by decide +kernel
section
variable (L:List LT)(C:Adr)
def z5h (H:Hp)(Q:VK)(l:List Nat):Prop:=∀H' p,Kp L H H'→H p=none→zj H' p l→Q (.ref p) H'
inductive US (vs:List V)(H:Hp)(Q:VK)(_E:XK):Prop | mk (p dx c:Addr) (n:Nat) (_:vs=[.ref p,.ref c,.int n]) (_:H p=some (.ins C.grp dx [])) (_:Q .non (upd H p (.ins C.grp dx (Ux c n))))
inductive z0H (vs:List V)(H:Hp)(Q:VK)(_E:XK):Prop | mk (p dx c:Addr) (n:Nat) (_:vs=[.ref p,.int n,.ref c]) (_:H p=some (.ins C.tbl dx [])) (_:Q .non (upd H p (.ins C.tbl dx (tblF n c))))
inductive z0J (vs:List V)(H:Hp)(Q:VK)(_E:XK):Prop | mk (p dx fl ol wl:Addr) (q:Qst) (_:vs=[.ref p,.ref fl,.ref ol,.bl q.back,.ref wl,.int q.limit,.int q.times]) (_:H p=some (.ins C.qst dx [])) (_:Q .non (upd H p (.ins C.qst dx (z4v fl ol wl q))))
inductive z0M (vs:List V)(H:Hp)(Q:VK)(_E:XK):Prop | mk (p dx kl il:Addr) (cv:V) (_:vs=[.ref p,.ref kl,.ref il,cv]) (_:H p=some (.ins C.idx dx [])) (_:Q .non (upd H p (.ins C.idx dx (idxF kl il cv))))
inductive Y6 (vs:List V)(H:Hp)(Q:VK)(_E:XK):Prop | mk (a:Addr) (gs:List Group) (_:vs=[.ref a]) (_:yZ (Ji C) H a gs) (_:gs.length≤1000) (_:∀H',Kp L H H'→Q (.int (Z6 gs)) H')
inductive QY (vs:List V)(H:Hp)(Q:VK)(_E:XK):Prop | mk (a c:Addr) (q:Qst) (r:List Nat) (_:vs=[.ref a,.ref c]) (_:Y0 C H a q) (_:zj H c r) (_:(∀f∈q.filters,f.col<r.length)) (_:q.filters.length≤1000) (_:∀H',Kp L H H'→Q (.bl (zS q r)) H')
inductive Ue (vs:List V)(H:Hp)(Q:VK)(_E:XK):Prop | mk (a:Addr) (q:Qst) (_:vs=[.ref a]) (_:Y0 C H a q) (_:q.filters.length≤1000) (_:z5h L H Q (QA q))
inductive z2k (vs:List V)(H:Hp)(Q:VK)(_E:XK):Prop | mk (a:Addr) (q:Qst) (_:vs=[.ref a]) (_:Y0 C H a q) (_:q.filters.length≤1000) (_:q.order.length≤1000) (_:q.wants.length≤1000) (_:z5h L H Q (z0z q))
inductive V7 (vs:List V)(H:Hp)(Q:VK)(_E:XK):Prop | mk (a c:Addr) (q:Qst) (l:List Nat) (_:vs=[.ref a,.ref c]) (_:Y0 C H a q) (_:zj H c l) (_:q.filters.length≤1000) (_:∀H' p,Kp L H H'→H p=none→yZ (Yp C) H' p (q.filters.filter fun f=>l.contains f.col)→Q (.ref p) H')
inductive Wb (vs:List V)(H:Hp)(Q:VK)(_E:XK):Prop | mk (a:Addr) (q:Qst) (_:vs=[.ref a]) (_:Y0 C H a q) (_:q.filters.length≤1000) (_:q.order.length≤1000) (_:z5h L H Q (GB q.order q))
inductive WW (vs:List V)(H:Hp)(Q:VK)(_E:XK):Prop | mk (a:Addr) (i:Index) (_:vs=[.ref a]) (_:JE C H a i) (_:i.keys.length≤1000) (_:i.others.length≤1000) (_:z5h L H Q (qw i))
inductive JT (vs:List V)(H:Hp)(Q:VK)(_E:XK):Prop | mk (a c:Addr) (i:Index) (r:List Nat) (_:vs=[.ref a,.ref c]) (_:JE C H a i) (_:zj H c r) (_:(∀f,i.only=some f→f.col<r.length)) (_:Q (.bl (yQ i r)) H)
end
theorem fdlQ {l:List Int}:l.sum=l.foldl (fun a b=>a+b) 0:=List.sum_eq_foldl
theorem z3U:∀(l:List Nat) (a:Nat),((l.foldl (fun a b=>a+b) a:Nat):Int)=(l.map fun (n:Nat)=>(n:Int)).foldl (fun a b=>a+b) (a:Int)
 | [],a=>rfl
 | b::l,a=>by
  rw [yC,zJ,yC,z3U l (a+b)]
  rw [show ((a+b:Nat):Int)=(a:Int)+(b:Int) from ZR a b]
theorem zam (gs:List Group):(gs.map fun g=>(g.count:Int)).sum=(Z6 gs:Int):=by
 unfold Z6
 rw [fdlQ,z3U,zI]
 rfl
section
variable {P:Program}{w:World}{K:z4}{mg:Str→Option Value}{base:Heap}{L:List LT}{C:Adr}{k:Nat}{f:Addr}{fd:FuncData}
theorem z7f:zy ["self","cells","rows"] ["self","cells","rows"] (zh (z7n 0)):=scp
theorem z7R (T:Txt K mg C)(F:Fun K "__init__" "Group.__init__" (z7n 0) f fd):yT P w K mg base 1 ["self","cells","rows"] (US C) f:=by
 refine F.okN z7f (fun cdv A outer s H vs Q E hr h=>?_)
 ·obtain ⟨p,dx,c,n,rfl,hp,q⟩:=h
  refine ⟨_,z6 (jk (pv 0) (pv 1) rfl) (z9 (jk (pv 0) (pv 2) rfl)),?_⟩
  refine ⟨_,rfl,_,rfl,⟨_,_,_,_,rfl,hp,T.grp.cl,T.grp.nn,few,⟨_,rfl,_,rfl,⟨_,_,_,_,rfl,z5,T.grp.cl,T.grp.nn,few,?_⟩⟩⟩⟩
  rw [Z3]
  exact q
theorem z75:zy ["self","width","groups"] ["self","width","groups"] (zh (z7j 0)):=scp
theorem z7D (T:Txt K mg C)(F:Fun K "__init__" "Table.__init__" (z7j 0) f fd):yT P w K mg base 1 ["self","width","groups"] (z0H C) f:=by
 refine F.okN z75 (fun cdv A outer s H vs Q E hr h=>?_)
 ·obtain ⟨p,dx,c,n,rfl,hp,q⟩:=h
  refine ⟨_,z6 (jk (pv 0) (pv 1) rfl) (z9 (jk (pv 0) (pv 2) rfl)),?_⟩
  refine ⟨_,rfl,_,rfl,⟨_,_,_,_,rfl,hp,T.tbl.cl,T.tbl.nn,few,⟨_,rfl,_,rfl,⟨_,_,_,_,rfl,z5,T.tbl.cl,T.tbl.nn,few,?_⟩⟩⟩⟩
  rw [Z3]
  exact q
theorem z7e:zy ["self","key_columns","included","condition"] ["self","key_columns","included","condition"] (zh (Zl 0)):=scp
theorem z7Q (T:Txt K mg C)(F:Fun K "__init__" "Index.__init__" (Zl 0) f fd):yT P w K mg base 1 ["self","key_columns","included","condition"] (z0M C) f:=by
 refine F.okN z7e (fun cdv A outer s H vs Q E hr h=>?_)
 ·obtain ⟨p,dx,kl,il,cv,rfl,hp,q⟩:=h
  refine ⟨_,z6 (jk (pv 0) (pv 1) rfl) (z6 (jk (pv 0) (pv 2) rfl) (z9 (jk (pv 0) (pv 3) rfl))),?_⟩
  refine ⟨_,rfl,_,rfl,⟨_,_,_,_,rfl,hp,T.idx.cl,T.idx.nn,few,⟨_,rfl,_,rfl,⟨_,_,_,_,rfl,z5,T.idx.cl,T.idx.nn,few,⟨_,rfl,_,rfl,⟨_,_,_,_,rfl,z5,T.idx.cl,T.idx.nn,few,?_⟩⟩⟩⟩⟩⟩
  rw [Z3,Z3]
  exact q
theorem z78:zy ["self","filters","order","backwards","wanted","limit","asked"] ["self","filters","order","backwards","wanted","limit","asked"] (zh (jy 0)):=scp
theorem z7J (T:Txt K mg C)(F:Fun K "__init__" "Question.__init__" (jy 0) f fd):yT P w K mg base 1 ["self","filters","order","backwards","wanted","limit","asked"] (z0J C) f:=by
 refine F.okN z78 (fun cdv A outer s H vs Q E hr h=>?_)
 ·obtain ⟨p,dx,fl,ol,wl,q,rfl,hp,hq⟩:=h
  refine ⟨_,z6 (jk (pv 0) (pv 1) rfl) (z6 (jk (pv 0) (pv 2) rfl) (z6 (jk (pv 0) (pv 3) rfl) (z6 (jk (pv 0) (pv 4) rfl) (z6 (jk (pv 0) (pv 5) rfl) (z9 (jk (pv 0) (pv 6) rfl)))))),?_⟩
  refine ⟨_,rfl,_,rfl,⟨_,_,_,_,rfl,hp,T.qst.cl,T.qst.nn,few,⟨_,rfl,_,rfl,⟨_,_,_,_,rfl,z5,T.qst.cl,T.qst.nn,few,⟨_,rfl,_,rfl,⟨_,_,_,_,rfl,z5,T.qst.cl,T.qst.nn,few,⟨_,rfl,_,rfl,⟨_,_,_,_,rfl,z5,T.qst.cl,T.qst.nn,few,⟨_,rfl,_,rfl,⟨_,_,_,_,rfl,z5,T.qst.cl,T.qst.nn,few,⟨_,rfl,_,rfl,⟨_,_,_,_,rfl,z5,T.qst.cl,T.qst.nn,few,?_⟩⟩⟩⟩⟩⟩⟩⟩⟩⟩⟩⟩
  rw [Z3,Z3,Z3,Z3,Z3]
  exact hq
theorem Gq:zy ["groups","group"] ["groups"] (zh Qt):=scp
theorem z50 (T:Txt K mg C)(F:Fun K "count_rows" "count_rows" Qt f fd):yT P w K mg base 1 ["groups"] (Y6 L C) f:=by
 refine F.okN Gq (fun cdv A outer s H vs Q E hr h=>?_)
 ·obtain ⟨a,gs,rfl,⟨as,hS,hA⟩,hlen,q⟩:=h
  refine ⟨_,z9 (zA (yq (z5c rfl) rfl T.bl z5d (z3 (Yy (own:=[("group",1)]) (te:=V5 K (jc 1) "rows") rfl Gq.nd (j7 (pv 0)) (yR (by kernel_rfl))
   (fun _ _ _ _ _=>yB (i:=1) Gq.nd rfl loc) (fun _ _ _ _ _=>Zm) (fun _ _ _ _ _=>zm (pv 1) rfl)) z7))),?_⟩
  refine ⟨_,rfl,a,rfl,⟨_,SqL.of hS⟩,fun D hD=>jS (L:=L) (gs.map fun g=>some (V.int (g.count:Int))) (SqL.of hS) hD (by rw [z0,z0,hA.len]) ?_ ?_⟩
  ·rintro i x o H2 hx ho I
   obtain ⟨b,g,rfl,hb,hg,dx,c,rb,_⟩:=hA.get hx
   have eo:=Z8 ho hg
   subst eo
   refine ⟨rfl,Ya ⟨_,rfl,⟨_,_,_,_,_,rfl,I.kp.ins rb,T.grp.cl,T.grp.nn,z3S,?_⟩⟩⟩
   exact I.yes hD (by rw [z0];exact J0 hlen) .refl ho
  ·intro H2 k2 h2
   rw [Yf] at h2
   refine ⟨D,gs.map fun g=>(g.count:Int),rfl,SqL.of (by rw [h2,zI];rfl),?_⟩
   rw [zam]
   exact q H2 k2
theorem zal:zy ["self","cells"] ["self","cells"] (zh (jy 1)):=scp
theorem zaE (T:Txt K mg C)(F:Fun K "finds" "Question.finds" (jy 1) f fd)(pa:ya P w K mg base k "passes_all" ["filters","cells"] (YC L C)):yT P w K mg base (k+1) ["self","cells"] (QY L C) f:=by
 refine F.okN zal (fun cdv A outer s H vs Q E hr h=>?_)
 ·obtain ⟨a,c,q,r,rfl,⟨dx,fl,ol,wl,ha,hf,_⟩,hc,hlt,hlen,hq⟩:=h
  refine ⟨_,z9 (zA (yH pa hr rfl zL (z3 (zm (pv 0) rfl) (z3 (pv 1) z7)))),?_⟩
  exact ⟨_,rfl,⟨_,_,_,_,_,rfl,ha,T.qst.cl,T.qst.nn,Js,⟨_,rfl,fl,c,q.filters,r,rfl,hf,hc,hlt,hlen,fun H' k'=>hq H' k'⟩⟩⟩
theorem z0X:zy ["self","each"] ["self"] (zh (jy 2)):=scp
theorem z9A (T:Txt K mg C)(F:Fun K "equal_columns" "Question.equal_columns" (jy 2) f fd)(m:zD P w K mg base k C.fil "is_equal" ["self"] (z0L C)):yT P w K mg base (k+1) ["self"] (Ue L C) f:=by
 refine F.okN z0X (fun cdv A outer s H vs Q E hr h=>?_)
 ·obtain ⟨a,q,rfl,⟨dx,fl,ol,wl,ha,⟨as,hS,hA⟩,_⟩,hlen,hq⟩:=h
  refine ⟨_,z9 (zA (Yy (own:=[("each",1)]) (te:=V5 K (jc 1) "column") rfl z0X.nd (j7 (zm (pv 0) rfl)) (yR (by kernel_rfl))
   (fun _ _ _ _ _=>yB (i:=1) z0X.nd rfl loc) (fun _ _ _ _ _=>YK (ZW (jQ m hr zL (pv 1)))) (fun _ _ _ _ _=>zm (pv 1) rfl))),?_⟩
  refine ⟨_,rfl,⟨_,_,_,_,_,rfl,ha,T.qst.cl,T.qst.nn,Js,⟨fl,rfl,⟨_,SqL.of hS⟩,fun D hD=>jS (L:=L) (q.filters.map fun f=>if Jl f=true then some (V.int (f.col:Int)) else none) (SqL.of hS) hD (by rw [z0,z0,hA.len]) ?_ ?_⟩⟩⟩
  ·rintro i x o H2 hx ho I
   obtain ⟨b,g,rfl,hb,hg,dy,rb⟩:=hA.get hx
   have eo:=Z8 ho hg
   refine ⟨rfl,_,rfl,b,dy,_,rfl,I.kp.ins rb,(by kernel_rfl),b,g,rfl,⟨dy,I.kp.ins rb⟩,_,rfl,?_⟩
   by_cases h1:Jl g=true
   ·rw [if_pos h1] at eo ⊢
    subst eo
    refine ⟨_,rfl,⟨_,_,_,_,_,rfl,I.kp.ins rb,T.fil.cl,T.fil.nn,Vf,?_⟩⟩
    exact I.yes hD (by rw [z0];exact J0 hlen) .refl ho
   ·rw [if_neg h1] at eo ⊢
    subst eo
    exact I.no .refl ho
  ·intro H2 k2 h2
   rw [Wm] at h2
   exact hq H2 D k2 hD (by unfold zj;rw [h2];unfold QA yJ;rw [zI];rfl)
theorem z0W:zy ["self","each"] ["self"] (zh (jy 3)):=scp
theorem z9v (T:Txt K mg C)(F:Fun K "needed_columns" "Question.needed_columns" (jy 3) f fd):yT P w K mg base 1 ["self"] (z2k L C) f:=by
 refine F.okN z0W (fun cdv A outer s H vs Q E hr h=>?_)
 ·obtain ⟨a,q,rfl,⟨dx,fl,ol,wl,ha,⟨as,hS,hA⟩,ho,hw⟩,hlen,hlo,hlw,hq⟩:=h
  refine ⟨_,z9 (zA (jr Jv (jr Jv (Yy (own:=[("each",1)]) (te:=V5 K (jc 1) "column") rfl z0W.nd (j7 (zm (pv 0) rfl)) (yR (by kernel_rfl))
   (fun _ _ _ _ _=>yB (i:=1) z0W.nd rfl loc) (fun _ _ _ _ _=>Zm) (fun _ _ _ _ _=>zm (pv 1) rfl)) (zm (pv 0) rfl)) (zm (pv 0) rfl))),?_⟩
  refine ⟨_,rfl,⟨_,_,_,_,_,rfl,ha,T.qst.cl,T.qst.nn,Js,⟨fl,rfl,⟨_,SqL.of hS⟩,fun D hD=>jS (L:=L) (q.filters.map fun f=>some (V.int (f.col:Int))) (SqL.of hS) hD (by rw [z0,z0,hA.len]) ?_ ?_⟩⟩⟩
  ·rintro i x o H2 hx ho I
   obtain ⟨b,g,rfl,hb,hg,dy,rb⟩:=hA.get hx
   have eo:=Z8 ho hg
   subst eo
   refine ⟨rfl,Ya ⟨_,rfl,⟨_,_,_,_,_,rfl,I.kp.ins rb,T.fil.cl,T.fil.nn,Vf,?_⟩⟩⟩
   exact I.yes hD (by rw [z0];exact J0 hlen) .refl ho
  ·intro H2 k2 h2
   rw [Yf] at h2
   refine ⟨_,rfl,⟨_,_,_,_,_,rfl,k2.ins ha,T.qst.cl,T.qst.nn,z2F,⟨D,ol,_,_,rfl,rfl,h2,ho.kp k2,?_,fun p1 n1=>?_⟩⟩⟩
   ·rw [z0,yM];exact zd (QR hlen hlo) (by decide)
   have k3:=(k2.new (o:=.lst (q.filters.map (fun f=>V.int (f.col:Int))++yJ q.order)) n1)
   have e3:upd H2 p1 (.lst (q.filters.map (fun f=>V.int (f.col:Int))++yJ q.order)) p1=_:=z5
   refine ⟨_,rfl,⟨_,_,_,_,_,rfl,k3.ins ha,T.qst.cl,T.qst.nn,z5U,⟨p1,wl,_,_,rfl,rfl,e3,hw.kp k3,?_,fun p2 n2=>?_⟩⟩⟩
   ·rw [za,z0,yM,yM];exact zd (QR (QR hlen hlo) hlw) (by decide)
   refine hq _ p2 (k3.new n2) (k3.free n2) ?_
   unfold zj
   rw [z5]
   unfold z0z yJ
   rw [zw,zw,zI,jq]
   rfl
end
section
variable (L:List LT)(C:Adr)
inductive z0I (vs:List V)(H:Hp)(Q:VK)(_E:XK):Prop | mk (a b:Addr) (i:Index) (t:Table) (_:vs=[.ref a,.ref b]) (_:JE C H a i) (_:Vg C H b t) (_:IOk t.cols i) (_:TOk t) (_:∀H',Kp L H H'→Q (.int (yn t i)) H')
inductive z2j (vs:List V)(H:Hp)(Q:VK)(_E:XK):Prop | mk (a b n:Nat) (i:Index) (q:Qst) (_:vs=[.ref a,.ref b]) (_:JE C H a i) (_:Y0 C H b q) (_:QOk n q) (_:∀H',Kp L H H'→Q (.bl (YF i q)) H')
inductive z2o (vs:List V)(H:Hp)(Q:VK)(_E:XK):Prop | mk (a b n:Nat) (i:Index) (q:Qst) (_:vs=[.ref a,.ref b]) (_:JE C H a i) (_:Y0 C H b q) (_:IOk n i) (_:QOk n q) (_:∀H',Kp L H H'→Q (.bl (z94 i q)) H')
inductive z4h (vs:List V)(H:Hp)(Q:VK)(_E:XK):Prop | mk (a b n:Nat) (i:Index) (q:Qst) (_:vs=[.ref a,.ref b]) (_:JE C H a i) (_:Y0 C H b q) (_:IOk n i) (_:QOk n q) (_:∀H',Kp L H H'→Q (.bl (WN i q)) H')
def YJ (i:Index)(q:Qst):List Filter:=q.filters.filter fun f=>(i.keys.take (Vr q i.keys+1)).contains f.col
inductive z4e (vs:List V)(H:Hp)(Q:VK)(_E:XK):Prop | mk (a b n:Nat) (i:Index) (q:Qst) (_:vs=[.ref a,.ref b]) (_:JE C H a i) (_:Y0 C H b q) (_:IOk n i) (_:QOk n q) (_:∀H' p,Kp L H H'→H p=none→yZ (Yp C) H' p (YJ i q)→Q (.ref p) H')
end
theorem le4 {n:Nat}(h:n≤4):n≤1000:=zd h (by decide)
section
variable {P:Program}{w:World}{K:z4}{mg:Str→Option Value}{base:Heap}{L:List LT}{C:Adr}{k:Nat}{f:Addr}{fd:FuncData}
theorem Gp:zy ["self","columns","each"] ["self","columns"] (zh (jy 4)):=scp
theorem z4Y (T:Txt K mg C)(F:Fun K "filters_of" "Question.filters_of" (jy 4) f fd):yT P w K mg base 1 ["self","columns"] (V7 L C) f:=by
 refine F.okN Gp (fun cdv A outer s H vs Q E hr h=>?_)
 ·obtain ⟨a,c,q,l,rfl,⟨dx,fl,ol,wl,ha,⟨as,hS,hA⟩,_⟩,hc,hlen,hq⟩:=h
  refine ⟨_,z9 (zA (Yy (own:=[("each",2)]) (tt:=z2i (tOp (rIn K false) (V5 K (jc 2) "column") (jc 1))) rfl Gp.nd (j7 (zm (pv 0) rfl)) (yR (by kernel_rfl))
   (fun _ _ _ _ _=>yB (i:=2) Gp.nd rfl loc) (fun _ _ _ _ _=>YK (zZ YM (zm (pv 2) rfl) (pv 1) (by with_unfolding_all rfl))) (fun _ _ _ _ _=>pv 2))),?_⟩
  refine ⟨_,rfl,⟨_,_,_,_,_,rfl,ha,T.qst.cl,T.qst.nn,Js,⟨fl,rfl,⟨_,SqL.of hS⟩,fun D hD=>jS (L:=L) ((as.zip q.filters).map fun x=>if l.contains x.2.col=true then some (V.ref x.1) else none) (SqL.of hS) hD (by rw [z0,z0,j2,←hA.len,J7]) ?_ ?_⟩⟩⟩
  ·rintro i x o H2 hx ho I
   obtain ⟨b,g,rfl,hb,hg,dy,rb⟩:=hA.get hx
   have eo:=Z8 ho (UN hb hg)
   refine ⟨rfl,_,rfl,⟨_,_,_,_,_,rfl,I.kp.ins rb,T.fil.cl,T.fil.nn,Vf,⟨_,rfl,c,_,rfl,.inl (hc.kp I.kp).sq,rfl,Yq l,_,rfl,?_⟩⟩⟩
   rw [Jx]
   simp only [j9,if_false]
   by_cases h1:l.contains g.col=true
   ·rw [if_pos h1] at eo ⊢
    subst eo
    refine ⟨_,rfl,?_⟩
    exact I.yes hD (by rw [z0,j2];exact zd (ZA _ _) (J0 hlen)) .refl ho
   ·rw [if_neg h1] at eo ⊢
    subst eo
    exact I.no .refl ho
  ·intro H2 k2 h2
   rw [Wm (p:=fun x:Addr×Filter=>l.contains x.2.col)] at h2
   refine hq H2 D k2 hD ⟨_,?_,(Ats.pick (fun f:Filter=>l.contains f.col) hA).imp fun _ _ r=>r.kp k2⟩
   rw [h2,zI]
   rfl
theorem z4l:zy ["self"] ["self"] (zh (jy 5)):=scp
theorem z4H (T:Txt K mg C)(F:Fun K "unsettled_order" "Question.unsettled_order" (jy 5) f fd)(wo:ya P w K mg base k "without" ["columns","left_out"] (WU L))(ec:zD P w K mg base k C.qst "equal_columns" ["self"] (Ue L C)) :
  yT P w K mg base (k+1) ["self"] (Wb L C) f:=by
 refine F.okN z4l (fun cdv A outer s H vs Q E hr h=>?_)
 ·obtain ⟨a,q,rfl,hQ,hlen,hlo,hq⟩:=h
  obtain ⟨dx,fl,ol,wl,ha,hf,ho,hw⟩:=id hQ
  refine ⟨_,z9 (zA (yH wo hr rfl zL (z3 (zm (pv 0) rfl) (z3 (jQ ec hr zL (pv 0)) z7)))),?_⟩
  refine ⟨_,rfl,⟨_,_,_,_,_,rfl,ha,T.qst.cl,T.qst.nn,z2F,⟨_,rfl,a,dx,_,rfl,ha,(by kernel_rfl),a,q,rfl,hQ,hlen,fun H1 p1 k1 n1 h1=>?_⟩⟩⟩
  exact ⟨ol,p1,q.order,QA q,rfl,ho.kp k1,h1,hlo,fun H2 p2 k2 n2 h2=>hq H2 p2 (k1.trans k2) (k1.free n2) h2⟩
theorem z7b:zy ["self"] ["self"] (zh (Zl 1)):=scp
theorem z7M (T:Txt K mg C)(F:Fun K "own_columns" "Index.own_columns" (Zl 1) f fd):yT P w K mg base 1 ["self"] (WW L C) f:=by
 refine F.okN z7b (fun cdv A outer s H vs Q E hr h=>?_)
 ·obtain ⟨a,i,rfl,⟨dx,kl,il,cv,ha,hk,hi,_⟩,hlk,hli,hq⟩:=h
  refine ⟨_,z9 (zA (jr Jv (zm (pv 0) rfl) (zm (pv 0) rfl))),?_⟩
  refine ⟨_,rfl,⟨_,_,_,_,_,rfl,ha,T.idx.cl,T.idx.nn,VI,⟨_,rfl,⟨_,_,_,_,_,rfl,ha,T.idx.cl,T.idx.nn,z9M,⟨kl,il,_,_,rfl,rfl,hk,hi,?_,fun p hp=>?_⟩⟩⟩⟩⟩
  ·rw [yM,yM];exact zd (QR hlk hli) (by decide)
  ·refine hq _ p (Kp.refl.new hp) hp ?_
   unfold zj
   rw [z5]
   unfold qw yJ
   rw [zw]
theorem z5H:zy ["self","cells"] ["self","cells"] (zh (Zl 2)):=scp
theorem z68 (T:Txt K mg C)(F:Fun K "has_entry" "Index.has_entry" (Zl 2) f fd)(m:zD P w K mg base k C.fil "passes" ["self","cells"] (QW C)):yT P w K mg base (k+1) ["self","cells"] (JT C) f:=by
 refine F.okN z5H (fun cdv A outer s H vs Q E hr h=>?_)
 ·obtain ⟨a,c,i,r,rfl,⟨dx,kl,il,cv,ha,hk,hi,hcv⟩,hc,hlt,hq⟩:=h
  refine ⟨_,z9 (zA (pe_or (ZJ zax (zm (pv 0) rfl) z2L (yj _)) (z4E (jv m hr zL (zm (pv 0) rfl) (z3 (pv 1) z7))))),?_⟩
  refine ⟨_,rfl,⟨_,_,_,_,_,rfl,ha,T.idx.cl,T.idx.nn,qi,⟨rfl,_,rfl,?_⟩⟩⟩
  have hq:Q (.bl (i.only.all (yc r))) H:=hq
  cases ho:i.only with
  | none=>
   rw [ho] at hcv hq
   have e:cv=.non:=hcv
   subst e
   rw [if_pos (by simp)]
   exact hq
  | some f=>
   rw [ho] at hcv hq
   obtain ⟨b,rfl,dy,hb⟩:=hcv
   rw [if_neg (by simp)]
   exact ⟨_,rfl,⟨_,_,_,_,_,rfl,ha,T.idx.cl,T.idx.nn,qi,⟨b,dy,_,rfl,hb,(by kernel_rfl),_,rfl,b,c,f,r,rfl,⟨dy,hb⟩,hc,hlt f ho,hq⟩⟩⟩
theorem Qg:zy ["self","table","entries","group"] ["self","table"] (zh (Zl 3)):=scp
theorem z7H (T:Txt K mg C)(F:Fun K "room_for" "Index.room_for" (Zl 3) f fd)(m:zD P w K mg base k C.idx "has_entry" ["self","cells"] (JT C))(cr:ya P w K mg base k "count_rows" ["groups"] (Y6 L C))
  (oc:zD P w K mg base k C.idx "own_columns" ["self"] (WW L C)):yT P w K mg base (k+1) ["self","table"] (z0I L C) f:=by
 refine F.okN Qg (fun cdv A outer s H vs Q E hr h=>?_)
 ·obtain ⟨a,b,i,t,rfl,hI,⟨dt,gl,hb,⟨as,hS,hA⟩⟩,iok,tok,hq⟩:=h
  obtain ⟨dx,kl,il,cv,ha,hk,hi,hcv⟩:=id hI
  refine ⟨_,z6 (VS (i:=2) (own:=[("group",3)]) (tt:=tB (tMt C.idx "has_entry" (JT C) E0 (jc 0) (j6 (V5 K (jc 3) "cells") Yl))) rfl Qg.nd rfl rfl (Wa rfl rfl rfl rfl) (j7 (zm (pv 1) rfl)) (yR (by kernel_rfl))
    (fun _ _ _ _ _=>yB (i:=3) Qg.nd rfl loc) (fun _ _ _ _ _=>YK (ZW (jv m hr zL (pv 0) (z3 (zm (pv 3) rfl) z7)))) (fun _ _ _ _ _=>pv 3))
   (z9 (zA (jr Qw (yH cr hr rfl zL (z3 (pv 2) z7)) (jr Yd (yq y6 rfl T.bl jt (z3 (jQ oc hr zL (pv 0)) z7)) yb)))),?_⟩
  refine ⟨_,rfl,⟨_,_,_,_,_,rfl,hb,T.tbl.cl,T.tbl.nn,W9,⟨gl,rfl,⟨_,SqL.of hS⟩,fun D hD=>jS (L:=L) ((as.zip t.groups).map fun x=>if yQ i x.2.row=true then some (V.ref x.1) else none) (SqL.of hS) hD (by rw [z0,z0,j2,←hA.len,J7]) ?_ ?_⟩⟩⟩
  ·rintro j x o H2 hx ho I
   obtain ⟨g,d,rfl,hg,hd,dg,c,rg,rc⟩:=hA.get hx
   have eo:=Z8 ho (UN hg hd)
   have md:=zt hd
   refine ⟨rfl,_,rfl,a,dx,_,rfl,I.kp.ins ha,(by kernel_rfl),_,rfl,⟨_,_,_,_,_,rfl,I.kp.ins rg,T.grp.cl,T.grp.nn,ZP,⟨a,c,i,d.row,rfl,hI.kp I.kp,rc.kp I.kp,fun f hf=>by rw [tok.row d md];exact iok.oc f hf,_,rfl,?_⟩⟩⟩
   by_cases h1:yQ i d.row=true
   ·rw [if_pos h1] at eo ⊢
    subst eo
    refine ⟨_,rfl,?_⟩
    exact I.yes hD (by rw [z0,j2];exact zd (ZA _ _) (J0 (zd tok.gl (by decide)))) .refl ho
   ·rw [if_neg h1] at eo ⊢
    subst eo
    exact I.no .refl ho
  ·intro H2 k2 h2
   rw [Wm (p:=fun x:Addr×Group=>yQ i x.2.row)] at h2
   have hO:yZ (Ji C) H2 D (t.groups.filter fun g=>yQ i g.row):=⟨_,by rw [h2,zI];rfl,(Ats.pick (fun g:Group=>yQ i g.row) hA).imp fun _ _ r=>r.kp k2⟩
   have hl:(t.groups.filter fun g=>yQ i g.row).length≤12:=zd (jK _ _) tok.gl
   have hR:Z6 (t.groups.filter fun g=>yQ i g.row)≤12 * 1000000:=zd (z3L fun g hg=>tok.cnt g (yg.mp hg).1) (YY _ hl)
   refine ⟨_,rfl,D,_,rfl,hO,zd hl (by decide),fun H3 k3=>?_⟩
   have k23:=k2.trans k3
   refine ⟨_,rfl,a,dx,_,rfl,k23.ins ha,(by kernel_rfl),a,i,rfl,hI.kp k23,le4 iok.kl,le4 iok.il,fun H4 p4 k4 n4 h4=>?_⟩
   refine ⟨p4,_,rfl,.inl (SqL.of h4),_,_,rfl,rfl,_,_,rfl,rfl,.inl ⟨by omega,by omega⟩,?_⟩
   have e:((Z6 (t.groups.filter fun g=>yQ i g.row):Int) * (((yJ (qw i)).length:Int)+1))=(yn t i:Int):=by
    unfold yn VaidxBase.entriesIn
    rw [yM,JI,ZR]
    rfl
   have q1:=hq H4 (k23.trans k4)
   rw [←e] at q1
   exact q1
theorem z0V:zy ["self","question","each"] ["self","question"] (zh (Zl 4)):=scp
theorem z9r (T:Txt K mg C)(F:Fun K "serves" "Index.serves" (Zl 4) f fd)(m:zD P w K mg base k C.fil "is_within" ["self","other"] (Gg C)):yT P w K mg base (k+1) ["self","question"] (z2j L C) f:=by
 refine F.okN z0V (fun cdv A outer s H vs Q E hr h=>?_)
 ·obtain ⟨a,b,n,i,q,rfl,hI,⟨dq,fl,ol,wl,hb,⟨as,hS,hA⟩,_⟩,qok,hq⟩:=h
  obtain ⟨dx,kl,il,cv,ha,hk,hi,hcv⟩:=id hI
  refine ⟨_,z6 (jb (zZ zax (zm (pv 0) rfl) z2L (yj _)) (z9 (zA z1p)) yp)
   (z9 (zA (yq (cr_any rfl) rfl T.bl bt_any (z3 (Yy (own:=[("each",2)]) (te:=tMt C.fil "is_within" (Gg C) E0 (jc 2) (j6 (V5 K (jc 0) "condition") Yl)) rfl z0V.nd (j7 (zm (pv 1) rfl)) (yR (by kernel_rfl))
    (fun _ _ _ _ _=>yB (i:=2) z0V.nd rfl loc) (fun _ _ _ _ _=>Zm) (fun _ _ _ _ _=>jv m hr zL (pv 2) (z3 (zm (pv 0) rfl) z7))) z7)))),?_⟩
  refine ⟨_,rfl,⟨_,_,_,_,_,rfl,ha,T.idx.cl,T.idx.nn,qi,⟨rfl,_,rfl,?_⟩⟩⟩
  cases ho:i.only with
  | none=>
   rw [ho] at hcv
   have e:cv=.non:=hcv
   subst e
   rw [if_pos (by simp)]
   have q1:=hq H .refl
   unfold YF at q1
   rw [ho] at q1
   exact q1
  | some g=>
   rw [ho] at hcv
   obtain ⟨c,rfl,dy,hc⟩:=hcv
   rw [if_neg (by simp)]
   refine ⟨_,rfl,⟨_,_,_,_,_,rfl,hb,T.qst.cl,T.qst.nn,Js,⟨fl,rfl,⟨_,SqL.of hS⟩,fun D hD=>jS (L:=L) (q.filters.map fun f=>some (V.bl (Ww f g))) (SqL.of hS) hD (by rw [z0,z0,hA.len]) ?_ ?_⟩⟩⟩
   ·rintro j x o H2 hx ho' I
    obtain ⟨e,d,rfl,he,hd,de,re⟩:=hA.get hx
    have eo:=Z8 ho' hd
    subst eo
    refine ⟨rfl,Ya ⟨_,rfl,e,de,_,rfl,I.kp.ins re,(by kernel_rfl),_,rfl,⟨_,_,_,_,_,rfl,I.kp.ins ha,T.idx.cl,T.idx.nn,qi,⟨e,c,d,g,rfl,⟨de,I.kp.ins re⟩,⟨dy,I.kp.ins hc⟩,?_⟩⟩⟩⟩
    exact I.yes hD (by rw [z0];exact J0 (le4 qok.fl)) .refl ho'
   ·intro H2 k2 h2
    rw [Yf] at h2
    refine ⟨D,q.filters.map fun f=>Ww f g,rfl,SqL.of (by rw [h2,zI];rfl),?_⟩
    have q1:=hq H2 k2
    unfold YF at q1
    rw [ho] at q1
    rw [List.any_map]
    have e:q.filters.any (id∘fun f=>Ww f g)=q.filters.any fun f=>Ww f g:=rfl
    rw [e,z74 qok.ap]
    exact q1
theorem z9j:zy ["self","question"] ["self","question"] (zh (Zl 5)):=scp
theorem hu64 {A:Around}{k:Nat}(hr:Yu k A):A.units+64<cLine:=hr.units
theorem z9B (F:Fun K "covers" "Index.covers" (Zl 5) f fd)(wo:ya P w K mg base k "without" ["columns","left_out"] (WU L))(ne:zD P w K mg base k C.qst "needed_columns" ["self"] (z2k L C))(oc:zD P w K mg base k C.idx "own_columns" ["self"] (WW L C)) :
  yT P w K mg base (k+1) ["self","question"] (z2o L C) f:=by
 refine F.okN z9j (fun cdv A outer s H vs Q E hr h=>?_)
 ·obtain ⟨a,b,n,i,q,rfl,hI,hQ,iok,qok,hq⟩:=h
  obtain ⟨dx,kl,il,cv,ha,_⟩:=id hI
  obtain ⟨dq,fl,ol,wl,hb,_⟩:=id hQ
  refine ⟨_,z9 (zA (ZJ (z7z (hu64 hr)) (yH wo hr rfl zL (z3 (jQ ne hr zL (pv 1)) (z3 (jQ oc hr zL (pv 0)) z7))) (yy z7) (yj _))),?_⟩
  refine ⟨_,rfl,b,dq,_,rfl,hb,(by kernel_rfl),b,q,rfl,hQ,le4 qok.fl,le4 qok.ol,le4 qok.wl,fun H1 p1 k1 n1 h1=>?_⟩
  refine ⟨_,rfl,a,dx,_,rfl,k1.ins ha,(by kernel_rfl),a,i,rfl,hI.kp k1,le4 iok.kl,le4 iok.il,fun H2 p2 k2 n2 h2=>?_⟩
  refine ⟨p1,p2,_,_,rfl,h1.kp k2,h2,?_,fun H3 p3 k3 n3 h3=>?_⟩
  ·unfold z0z
   rw [za,za,z0]
   have:=qok.fl;have:=qok.ol;have:=qok.wl
   omega
  ·refine ⟨zk _,fun p4 n4=>?_⟩
   have k4:=Yn (o:=HO.lst []) n4
   have h4:zj (upd H3 p4 (.lst [])) p4 []:=z5
   have h3':zj (upd H3 p4 (.lst [])) p3 _:=k4 _ _ h3
   refine ⟨_,_,Wn h3',Wn h4,ZG _,ZG _,?_⟩
   rw [z0j,z9S]
   exact hq _ (((k1.trans k2).trans k3).trans k4.kp)
theorem z6w {l:List Nat}{n:Nat}:z1i (yJ l) none (some (n:Int))=yJ (l.take n):=by
 unfold z1i
 rw [HT.sIx_none,HT.sIx_nat,WK,Nat.sub_zero]
 have e:l.take (min n l.length)=l.take n:=by rw [List.take_eq_take_iff];omega
 unfold yJ
 rw [←List.map_take,z0,e]
theorem z2t:zy ["self","question","unsettled","unsettled_keys"] ["self","question"] (zh (Zl 6)):=scp
theorem zaD (T:Txt K mg C)(F:Fun K "frees_order_of" "Index.frees_order_of" (Zl 6) f fd)(wo:ya P w K mg base k "without" ["columns","left_out"] (WU L))(uo:zD P w K mg base k C.qst "unsettled_order" ["self"] (Wb L C))(ec:zD P w K mg base k C.qst "equal_columns" ["self"] (Ue L C)) :
  yT P w K mg base (k+1) ["self","question"] (z4h L C) f:=by
 refine F.okN z2t (fun cdv A outer s H vs Q E hr h=>?_)
 ·obtain ⟨a,b,n,i,q,rfl,hI,hQ,iok,qok,hq⟩:=h
  obtain ⟨dx,kl,il,cv,ha,hk,_⟩:=id hI
  obtain ⟨dq,fl,ol,wl,hb,_⟩:=id hQ
  refine ⟨_,z6 (zK (i:=2) z2t.nd rfl loc (jQ uo hr zL (pv 1)))
   (z6 (zK (i:=3) z2t.nd rfl loc (yH wo hr rfl zL (z3 (zm (pv 0) rfl) (z3 (jQ ec hr zL (pv 1)) z7))))
   (z9 (zA (ZJ (z7z (hu64 hr)) (z08 z1T (pv 3) z4B (z07 (yq y6 rfl T.bl jt (z3 (pv 2) z7)))) (pv 2) (yj _))))),?_⟩
  refine ⟨_,rfl,b,dq,_,rfl,hb,(by kernel_rfl),b,q,rfl,hQ,le4 qok.fl,le4 qok.ol,fun H1 p1 k1 n1 h1=>?_⟩
  refine ⟨_,rfl,⟨_,_,_,_,_,rfl,k1.ins ha,T.idx.cl,T.idx.nn,VI,⟨_,rfl,b,dq,_,rfl,k1.ins hb,(by kernel_rfl),b,q,rfl,hQ.kp k1,le4 qok.fl,fun H2 p2 k2 n2 h2=>?_⟩⟩⟩
  refine ⟨kl,p2,i.keys,QA q,rfl,(hk.kp k1).kp k2,h2,le4 iok.kl,fun H3 p3 k3 n3 h3=>?_⟩
  have h1':=(h1.kp k2).kp k3
  refine ⟨_,rfl,_,rfl,p1,_,rfl,.inl (SqL.of h1'),_,rfl,p3,_,rfl,SqL.of h3,fun p4 n4=>?_⟩
  have k4:=Yn (o:=HO.lst (z1i (yJ (GB i.keys q)) none (some ((yJ (GB q.order q)).length:Int)))) n4
  refine ⟨_,rfl,qP ((GB i.keys q).take (GB q.order q).length),_,Wn ?_,Wn (k4 _ _ h1'),ZG _,ZG _,?_⟩
  ·unfold zj
   rw [←z6w,←yM]
   exact z5
  ·have q1:=hq _ (((k1.trans k2).trans k3).trans k4.kp)
   unfold WN VaidxBase.startsWith at q1
   rw [←z0a qok.ap,←z3Q qok.ap,←z0j] at q1
   exact q1
theorem z02:zy ["self","question","equal","used"] ["self","question"] (zh (Zl 7)):=scp
theorem zay (T:Txt K mg C)(F:Fun K "range_filters" "Index.range_filters" (Zl 7) f fd)(fo:zD P w K mg base k C.qst "filters_of" ["self","columns"] (V7 L C))(ec:zD P w K mg base k C.qst "equal_columns" ["self"] (Ue L C)) :
  yT P w K mg base (k+1) ["self","question"] (z4e L C) f:=by
 refine F.okN z02 (fun cdv A outer s H vs Q E hr h=>?_)
 ·obtain ⟨a,b,n,i,q,rfl,hI,hQ,iok,qok,hq⟩:=h
  obtain ⟨dx,kl,il,cv,ha,hk,_⟩:=id hI
  obtain ⟨dq,fl,ol,wl,hb,_⟩:=id hQ
  refine ⟨_,z6 (zK (i:=2) z02.nd rfl loc (jQ ec hr zL (pv 1)))
   (z6 (zK (i:=3) z02.nd rfl loc yb)
   (z6 (Uk ji (PW.pt (z7q (zZ VT (pv 3) (yq y6 rfl T.bl jt (z3 (zm (pv 0) rfl) z7)) (yj _)) (z4w (zZ YM (Zt jl (zm (pv 0) rfl) (pv 3) (fun _ _=>rfl)) (pv 2) (by with_unfolding_all rfl)))))
    (z9 (z4z (i:=3) z02.nd rfl loc yb z86)))
   (z9 (zA (jv fo hr zL (pv 1) (z3 (z08 z1T (zm (pv 0) rfl) z4B (z07 (jr Yd (pv 3) yb))) z7)))))),?_⟩
  refine ⟨_,rfl,b,dq,_,rfl,hb,(by kernel_rfl),b,q,rfl,hQ,le4 qok.fl,fun H1 p1 k1 n1 h1=>?_⟩
  have hk1:=hk.kp k1
  refine ⟨fun m σ H'=>∃u:Nat,m=i.keys.length - u∧u≤Vr q i.keys∧σ=[some (.ref a),some (.ref b),some (.ref p1),some (.int (u:Int))]∧H'=H1,⟨_,0,rfl,zk _,rfl,rfl⟩,?_⟩
  rintro m σ H' ⟨u,rfl,hu,rfl,rfl⟩
  have hle:=z0k q i.keys
  refine ⟨_,rfl,_,rfl,⟨_,_,_,_,_,rfl,k1.ins ha,T.idx.cl,T.idx.nn,VI,⟨kl,_,rfl,.inl hk1.sq,_,_,rfl,rfl,_,rfl,?_⟩⟩⟩
  have done:u=Vr q i.keys→z3l (tMt C.qst "filters_of" (V7 L C) E0 (jc 1) (j6 (tSl (rSlL K) (V5 K (jc 0) "key_columns") z8u (tPart (tOp (rI0 fun i j=>.int (i+j)) (jc 3) (tC (.int 1))))) Yl)) { nx:=fun _ H'=>Q .non H',rt:=Q } [some (.ref a),some (.ref b),some (.ref p1),some (.int (u:Int))] H':=fun eu=>by
   refine ⟨_,rfl,b,dq,_,rfl,k1.ins hb,(by kernel_rfl),_,rfl,⟨_,_,_,_,_,rfl,k1.ins ha,T.idx.cl,T.idx.nn,VI,⟨_,rfl,_,_,rfl,rfl,_,rfl,kl,_,rfl,hk1.sq,fun p2 n2=>?_⟩⟩⟩
   have e:z1i (yJ i.keys) none (some ((u:Int)+1))=yJ (i.keys.take (u+1)):=by
    rw [show ((u:Int)+1)=((u+1:Nat):Int) from rfl,z6w]
   have k2:Kp L H' (upd H' p2 (.lst (yJ (i.keys.take (u+1))))):=(Yn n2).kp
   refine ⟨b,p2,q,i.keys.take (u+1),rfl,?_,?_,le4 qok.fl,fun H3 p3 k3 n3 h3=>?_⟩
   ·rw [e];exact (hQ.kp k1).kp k2
   ·rw [e];exact z5
   ·rw [e] at k3 n3
    refine hq H3 p3 ((k1.trans k2).trans k3) ((k1.trans k2).free n3) ?_
    unfold YJ
    rw [←eu]
    exact h3
  refine Zc (fun hc=>?_) (fun hc=>?_)
  ·have h1':u<i.keys.length:=by rw [yM] at hc;simpa using hc
   obtain ⟨c,hu'⟩:∃c,i.keys[u]?=some c:=⟨_,z8 h1'⟩
   refine ⟨_,rfl,⟨_,_,_,_,_,rfl,k1.ins ha,T.idx.cl,T.idx.nn,VI,⟨_,rfl,kl,_,_,_,rfl,rfl,hk1.sq,YA rfl (by rw [Us,hu'];rfl),_,rfl,p1,_,rfl,.inl (SqL.of h1),rfl,Yq _,_,rfl,?_⟩⟩⟩
   rw [Jx]
   simp only [j9,if_false]
   rw [z3X qok.ap]
   by_cases h2:VaidxBase.equalOn q c=true
   ·rw [if_pos h2]
    have hlt:u<Vr q i.keys:=by
     refine Nat.lt_of_le_of_ne hu fun z=>?_
     rw [z] at hu'
     rw [z0l hu'] at h2;cases h2
    refine ⟨fun σ' H2=>σ'=[some (.ref a),some (.ref b),some (.ref p1),some (.int ((u+1:Nat):Int))]∧H2=H',fun σ' H2 ⟨e1,e2⟩=>⟨_,?_,u+1,rfl,hlt,e1,e2⟩,?_⟩
    ·omega
    ·exact ⟨_,rfl,_,_,rfl,rfl,rfl,rfl⟩
   ·rw [if_neg h2]
    refine done ?_
    refine Nat.le_antisymm hu (Vx fun z=>h2 (qO hu' z))
  ·have h1':¬u<i.keys.length:=by rw [yM] at hc;simpa using hc
   exact iteF (done (by omega))
end
abbrev z2v:Stmt:=top 14
abbrev z2w:Stmt:=top 15
abbrev z4s:Stmt:=top 16
abbrev z05:Stmt:=top 17
abbrev z2A:Stmt:=top 18
abbrev z2B:Stmt:=top 19
theorem z8f:bootBuiltins "min"=some (.builtin "min"):=by decide +kernel
structure QG (n:Nat)(gs:List Group):Prop where
 gl:gs.length≤12
 row:∀g∈gs,g.row.length=n
 cnt:∀g∈gs,g.count≤1000000
theorem TOk.gs {t:Table}(h:TOk t):QG t.cols t.groups:=⟨h.gl,h.row,h.cnt⟩
theorem QG.touch {n lim:Nat}{fnd:List Nat→Bool}{free:Bool}{gs:List Group}(h:QG n gs):QG n (Jn fnd lim free gs):=
 ⟨zd (z9d _ _ _ _) h.gl,fun x hx=>let ⟨g,hg,e,_⟩:=z3F _ _ _ _ x hx;e ▸ h.row g hg,fun x hx=>let ⟨g,hg,_,e⟩:=z3F _ _ _ _ x hx;zd e (h.cnt g hg)⟩
theorem QG.filter {n:Nat}{gs:List Group}{p:Group→Bool}(h:QG n gs):QG n (gs.filter p):=
 ⟨zd (jK _ _) h.gl,fun g hg=>h.row g (yg.mp hg).1,fun g hg=>h.cnt g (yg.mp hg).1⟩
section
variable (L:List LT)(C:Adr)
inductive UO (vs:List V)(H:Hp)(Q:VK)(_E:XK):Prop | mk (a b n:Nat) (fr:Bool) (gs:List Group) (q:Qst) (_:vs=[.ref a,.ref b,.bl fr]) (_:yZ (Ji C) H a gs) (_:Y0 C H b q) (_:QG n gs) (_:QOk n q) (_:∀H' p,Kp L H H'→yZ (Ji C) H' p (Jn (zS q) q.limit fr gs)→Q (.ref p) H')
inductive UP (vs:List V)(H:Hp)(Q:VK)(_E:XK):Prop | mk (a b n:Nat) (fr:Bool) (gs:List Group) (q:Qst) (_:vs=[.ref a,.ref b,.bl fr]) (_:yZ (Ji C) H a gs) (_:Y0 C H b q) (_:QG n gs) (_:QOk n q) (_:∀H',Kp L H H'→Q (.int (if fr=true then 0 else 3 * Z6 (gs.filter fun g=>zS q g.row):Nat)) H')
inductive z2m (vs:List V)(H:Hp)(Q:VK)(_E:XK):Prop | mk (a b c n:Nat) (gs:List Group) (q:Qst) (i:Index) (_:vs=[.ref a,.ref b,.ref c]) (_:yZ (Ji C) H a gs) (_:Y0 C H b q) (_:JE C H c i) (_:QG n gs) (_:QOk n q) (_:IOk n i) (_:∀H',Kp L H H'→Q (.int (if z94 i q=true then 0 else 4 * Z6 (gs.filter fun g=>(jM i q).all (yc g.row)):Nat)) H')
end
def z91 (C:Adr)(H H':Hp)(l:Addr)(gs:List Group):Prop:=∃as,H' l=some (.lst (as.map V.ref))∧Ats (fun (y:Addr) (g:Group)=>∃dy cy,H' y=some (.ins C.grp dy (Ux cy g.count))∧zj H cy g.row) as gs
theorem z91.obs {C:Adr}{L:List LT}{H H':Hp}{l:Addr}{gs:List Group}(h:z91 C H H' l gs)(k:Kp L H H'):yZ (Ji C) H' l gs:=let ⟨as,a,b⟩:=h;⟨as,a,b.imp fun _ _ ⟨dy,cy,x,y⟩=>⟨dy,cy,x,y.kp k⟩⟩
section
variable {P:Program}{w:World}{K:z4}{mg:Str→Option Value}{base:Heap}{L:List LT}{C:Adr}{k:Nat}{f:Addr}{fd:FuncData}
theorem J9:zy ["groups","question","free","touched","missing","group","rows"] ["groups","question","free"] (zh z2v):=scp
theorem z7B (T:Txt K mg C)(F:Fun K "touched_groups" "touched_groups" z2v f fd)(fi:zD P w K mg base k C.qst "finds" ["self","cells"] (QY L C))(mk:ju P w K mg base k "Group" C.grp ["self","cells","rows"] (US C)) :
  yT P w K mg base (k+1) ["groups","question","free"] (UO L C) f:=by
 refine F.okN J9 (fun cdv A outer s H vs Q E hr h=>?_)
 ·obtain ⟨a,b,n,fr,gs,q,rfl,hG,hQ,gok,qok,hq⟩:=h
  obtain ⟨as,hS,hA⟩:=id hG
  obtain ⟨dq,fl,ol,wl,hb,_⟩:=id hQ
  refine ⟨_,z6 (jb (PW.pt (qK (z16 (ZW (pv 2))) (WD (zZ Zz (zm (pv 1) rfl) yb (yj _))))) (z9 (zA (pv 0))) yp)
   (z6 (zK (i:=3) J9.nd rfl loc (yy z7))
   (z6 (zK (i:=4) J9.nd rfl loc (zm (pv 1) rfl))
   (z6 (Vo ji rfl (j7 (pv 0)) (yB (i:=5) J9.nd rfl loc)
    (z6 (zK (i:=6) J9.nd rfl loc (zm (pv 5) rfl))
    (z6 (jb (ZW (jv fi hr zL (pv 1) (z3 (zm (pv 5) rfl) z7)))
     (z6 (zK (i:=6) J9.nd rfl loc (yq (z9U rfl) rfl T.bl z8f (z3 (pv 6) (z3 (pv 4) z7)))) (z9 (z4z (i:=4) J9.nd rfl loc (pv 6) ip_sub))) yp)
    (z6 (Z4 (Ju zF yL yK ZX (pv 3) (z3 (JP mk hr rfl zL (z3 (zm (pv 5) rfl) (z3 (pv 6) z7))) z7)))
    (z9 (jb (zZ Zz (pv 4) yb (yj _)) (z9 zaq) yp))))))
   (z9 (zA (pv 3)))))),?_⟩
  have same:Jn (zS q) q.limit fr gs=gs→Q (.ref a) H:=fun e=>hq H a .refl (by rw [e];exact hG)
  refine ⟨_,rfl,_,rfl,?_⟩
  cases fr with
  | false=>exact z1I (z1I ⟨_,rfl,same (if_pos (.inl rfl))⟩)
  | true=>
   refine iteF ⟨_,rfl,⟨_,_,_,_,_,rfl,hb,T.qst.cl,T.qst.nn,z2G,⟨rfl,_,rfl,?_⟩⟩⟩
   refine Zc (fun hc=>?_) (fun hc=>?_)
   ·have hl:q.limit=0:=by simpa using hc
    exact ⟨_,rfl,same (if_pos (.inr hl))⟩
   ·have hl:q.limit≠0:=by simpa using hc
    have et:Jn (zS q) q.limit true gs=go (zS q) gs q.limit:=if_neg (by simp [hl])
    rw [et] at hq
    refine ⟨zk _,fun l hn=>?_⟩
    have k1:Kp L H (upd H l (.lst [])):=Kp.refl.new hn
    refine ⟨_,rfl,⟨_,_,_,_,_,rfl,k1.ins hb,T.qst.cl,T.qst.nn,z2G,⟨_,rfl,a,rfl,⟨_,SqL.of (k1.lst hS)⟩,?_⟩⟩⟩
    refine Vd (K:=K) (a:=a) (xs:=as.map V.ref) (fun i σ H'=>∃(T:List Group) (m:Nat) (v5 v6:Option V),m≠0∧T.length≤i∧go (zS q) gs q.limit=T++go (zS q) (gs.drop i) m∧
      σ=[some (.ref a),some (.ref b),some (.bl true),some (.ref l),some (.int (m:Int)),v5,v6]∧Kp L H H'∧z91 C H H' l T)
     ⟨[],q.limit,none,none,hl,zk _,rfl,rfl,k1,[],z5,.nil⟩ (fun i σ H' _ ⟨_,_,_,_,_,_,_,_,k,_⟩=>SqL.of (k.lst hS)) ?_ ?_
    ·rintro i x σ H' hx ⟨T',m,v5,v6,hm,hTl,eg,rfl,k,as',hS',hA'⟩
     obtain ⟨g,d,rfl,hg,hd,dg,c,rg,rc⟩:=hA.get hx
     have md:=zt hd
     have lt:i<gs.length:=(zo.mp hd).1
     have edrop:gs.drop i=d::gs.drop (i+1):=by
      rw [jj lt]
      congr 1
      exact (zo.mp hd).2
     rw [edrop,go] at eg
     refine ⟨_,rfl,⟨_,_,_,_,_,rfl,k.ins rg,T.grp.cl,T.grp.nn,z3S,⟨_,rfl,b,dq,_,rfl,k.ins hb,(by kernel_rfl),_,rfl,⟨_,_,_,_,_,rfl,k.ins rg,T.grp.cl,T.grp.nn,ZP,⟨b,c,q,d.row,rfl,hQ.kp k,rc.kp k,fun f hf=>by rw [gok.row d md];exact qok.fc f hf,le4 qok.fl,fun H1 k1=>⟨_,rfl,?_⟩⟩⟩⟩⟩⟩
     have kk:=k.trans k1
     have gN:QG n gs:=gok
     refine Zc (fun hf=>?_) (fun hf=>?_)
     case' refine_1=>
      have e1:(if (m:Int)<(d.count:Int) then (m:Int) else (d.count:Int))=((goN (zS q) d m:Nat):Int):=by
       unfold goN
       rw [if_pos hf]
       split <;> omega
      have e2:(m:Int) - ((goN (zS q) d m:Nat):Int)=((goM (zS q) d m:Nat):Int):=by
       unfold goN goM
       rw [if_pos hf,if_pos hf]
       omega
      refine ⟨_,rfl,_,rfl,_,_,rfl,_,rfl,_,rfl,_,_,rfl,rfl,?_⟩
      show tSeq _ _ _ [some (.ref a),some (.ref b),some (.bl true),some (.ref l),some (.int ((m:Int) - (if (m:Int)<(d.count:Int) then (m:Int) else (d.count:Int)))),some (.ref g),some (.int (if (m:Int)<(d.count:Int) then (m:Int) else (d.count:Int)))] _
      rw [e1,e2]
     case' refine_2=>
      have e1:goN (zS q) d m=d.count:=if_neg hf
      have e2:goM (zS q) d m=m:=if_neg hf
      show tSeq _ _ _ [some (.ref a),some (.ref b),some (.bl true),some (.ref l),some (.int (m:Int)),some (.ref g),some (.int (d.count:Int))] _
      rw [←e2,←e1]
     all_goals
      refine ⟨_,rfl,.inl ⟨rfl,_,SqL.of (k1.lst hS')⟩,_,rfl,⟨_,_,_,_,_,rfl,kk.ins rg,T.grp.cl,T.grp.nn,ZP,⟨_,rfl,fun x dx nx nd ne=>⟨x,dx,c,_,rfl,z5,rfl,?_⟩⟩⟩⟩
      have k2:Kp L H1 _:=Zn (C:=C.grp) (o:=.ins C.grp dx (Ux c (goN (zS q) d m))) nx nd ne
      have hS2:=(k1.trans k2).lst hS'
      have nl:H l=none:=hn
      have hl6:(as'.map V.ref).length<sizeLine:=by
       rw [z0,hA'.len]
       exact WO (zd hTl (J8 lt)) (WO gok.gl (by decide))
      refine ⟨l,_,_,rfl,rfl,hS2,hl6,?_⟩
      have k3:=(kk.trans k2).putL (o:=.lst (as'.map V.ref++[.ref x])) nl hS2
      have gx:(fun (y:Addr) (g:Group)=>∃dy cy,(upd (upd (upd (upd H1 dx (.own x)) x (.ins C.grp dx [])) x (.ins C.grp dx (Ux c (goN (zS q) d m)))) l (.lst (as'.map V.ref++[.ref x]))) y=some (.ins C.grp dy (Ux cy g.count))∧zj H cy g.row) x ⟨d.row,goN (zS q) d m⟩:=by
       refine ⟨dx,c,?_,rc⟩
       rw [zl (fun z=>?_),z5]
       rw [z,k1.lst hS'] at nx;cases nx
      have hO:z91 C H (upd (upd (upd (upd H1 dx (.own x)) x (.ins C.grp dx [])) x (.ins C.grp dx (Ux c (goN (zS q) d m)))) l (.lst (as'.map V.ref++[.ref x]))) l (T'++[⟨d.row,goN (zS q) d m⟩]):=by
       refine ⟨as'++[x],by rw [z5,zw];rfl,Ats.snoc (hA'.imp fun y e ⟨dy,cy,hy,hc⟩=>?_) gx⟩
       have ky:=k1.trans k2
       have yl:y≠l:=Zg hy hS' (by intro z;cases z)
       exact ⟨dy,cy,by rw [zl yl];exact ky.ins hy,hc⟩
      refine ⟨_,rfl,rfl,_,rfl,?_⟩
      refine Zc (fun hz=>?_) (fun hz=>?_)
      ·have hz:goM (zS q) d m=0:=by simpa using hz
       rw [if_pos hz] at eg
       exact ⟨_,rfl,hq _ l k3 (by rw [eg];exact hO.obs k3)⟩
      ·have hz:goM (zS q) d m≠0:=by simpa using hz
       rw [if_neg hz] at eg
       exact ⟨T'++[⟨d.row,goN (zS q) d m⟩],goM (zS q) d m,_,_,hz,by rw [za];exact jP hTl,by rw [eg,jq];rfl,rfl,k3,hO⟩
    ·rintro σ H' ⟨T',m,v5,v6,hm,hTl,eg,rfl,k,hO⟩
     rw [z0,hA.len,Vu,go,jn] at eg
     exact ⟨_,rfl,hq H' l k (by rw [eg];exact hO.obs k)⟩
end
section
variable {P:Program}{w:World}{K:z4}{mg:Str→Option Value}{base:Heap}{L:List LT}{C:Adr}{k:Nat}{f:Addr}{fd:FuncData}
theorem Qc:zy ["touched","question","free","group"] ["touched","question","free"] (zh z2w):=scp
theorem z7E (T:Txt K mg C)(F:Fun K "sorting_cost" "sorting_cost" z2w f fd)(fi:zD P w K mg base k C.qst "finds" ["self","cells"] (QY L C))(cr:ya P w K mg base k "count_rows" ["groups"] (Y6 L C)) :
  yT P w K mg base (k+1) ["touched","question","free"] (UP L C) f:=by
 refine F.okN Qc (fun cdv A outer s H vs Q E hr h=>?_)
 ·obtain ⟨a,b,n,fr,gs,q,rfl,⟨as,hS,hA⟩,hQ,gok,qok,hq⟩:=h
  obtain ⟨dq,fl,ol,wl,hb,_⟩:=id hQ
  refine ⟨_,z6 (jb (ZW (pv 2)) (z9 (zA yb)) yp)
   (z9 (zA (jr Qw (yx rfl (T.n (n:=3))) (yH cr hr rfl zL (z3 (Yy (own:=[("group",3)]) (tt:=tB (tMt C.qst "finds" (QY L C) E0 (jc 1) (j6 (V5 K (jc 3) "cells") Yl))) rfl Qc.nd (j7 (pv 0)) (yR (by kernel_rfl))
    (fun _ _ _ _ _=>yB (i:=3) Qc.nd rfl loc) (fun _ _ _ _ _=>YK (ZW (jv fi hr zL (pv 1) (z3 (zm (pv 3) rfl) z7)))) (fun _ _ _ _ _=>pv 3)) z7))))),?_⟩
  refine ⟨_,rfl,_,rfl,?_⟩
  cases fr with
  | true=>exact z1I (hq H .refl)
  | false=>
   refine iteF ⟨_,rfl,a,rfl,⟨_,SqL.of hS⟩,fun D hD=>jS (L:=L) ((as.zip gs).map fun x=>if zS q x.2.row=true then some (V.ref x.1) else none) (SqL.of hS) hD (by rw [z0,z0,j2,←hA.len,J7]) ?_ ?_⟩
   ·rintro j x o H2 hx ho I
    obtain ⟨g,d,rfl,hg,hd,dg,c,rg,rc⟩:=hA.get hx
    have eo:=Z8 ho (UN hg hd)
    have md:=zt hd
    refine ⟨rfl,_,rfl,b,dq,_,rfl,I.kp.ins hb,(by kernel_rfl),_,rfl,⟨_,_,_,_,_,rfl,I.kp.ins rg,T.grp.cl,T.grp.nn,ZP,⟨b,c,q,d.row,rfl,hQ.kp I.kp,rc.kp I.kp,fun f hf=>by rw [gok.row d md];exact qok.fc f hf,le4 qok.fl,fun H3 k3=>⟨_,rfl,?_⟩⟩⟩⟩
    by_cases h1:zS q d.row=true
    ·rw [if_pos h1] at eo ⊢
     subst eo
     refine ⟨_,rfl,?_⟩
     exact I.yes hD (by rw [z0,j2];exact zd (ZA _ _) (J0 (zd gok.gl (by decide)))) k3 ho
    ·rw [if_neg h1] at eo ⊢
     subst eo
     exact I.no k3 ho
   ·intro H2 k2 h2
    rw [Wm (p:=fun x:Addr×Group=>zS q x.2.row)] at h2
    have hO:yZ (Ji C) H2 D (gs.filter fun g=>zS q g.row):=⟨_,by rw [h2,zI];rfl,(Ats.pick (fun g:Group=>zS q g.row) hA).imp fun _ _ r=>r.kp k2⟩
    refine ⟨D,_,rfl,hO,zd (gok.filter (p:=fun g=>zS q g.row)).gl (by decide),fun H3 k3=>⟨_,_,rfl,rfl,.inl ⟨by decide,by decide⟩,?_⟩⟩
    have q1:=hq H3 (k2.trans k3)
    rw [if_neg zR,JI] at q1
    exact q1
theorem UV:zy ["touched","question","index","known","group"] ["touched","question","index"] (zh z4s):=scp
theorem z9x (T:Txt K mg C)(F:Fun K "look_up_cost" "look_up_cost" z4s f fd)(co:zD P w K mg base k C.idx "covers" ["self","question"] (z2o L C))(fo:zD P w K mg base k C.qst "filters_of" ["self","columns"] (V7 L C))
  (oc:zD P w K mg base k C.idx "own_columns" ["self"] (WW L C)) (pa:ya P w K mg base k "passes_all" ["filters","cells"] (YC L C)) (cr:ya P w K mg base k "count_rows" ["groups"] (Y6 L C)) :
  yT P w K mg base (k+1) ["touched","question","index"] (z2m L C) f:=by
 refine F.okN UV (fun cdv A outer s H vs Q E hr h=>?_)
 ·obtain ⟨a,b,c,n,gs,q,i,rfl,⟨as,hS,hA⟩,hQ,hI,gok,qok,iok,hq⟩:=h
  obtain ⟨dq,fl,ol,wl,hb,_⟩:=id hQ
  obtain ⟨dx,kl,il,cv,hc,hk,hi,hcv⟩:=id hI
  refine ⟨_,z6 (jb (ZW (jv co hr zL (pv 2) (z3 (pv 1) z7))) (z9 (zA yb)) yp)
   (z6 (zK (i:=3) UV.nd rfl (z3z rfl) (jv fo hr zL (pv 1) (z3 (jQ oc hr zL (pv 2)) z7)))
   (z9 (zA (jr Qw (yx rfl (T.n (n:=4))) (yH cr hr rfl zL (z3 (Yy (own:=[("group",4)]) (tt:=tB (tCl (YC L C) E0 (j6 (jc 3) (j6 (V5 K (jc 4) "cells") Yl)))) rfl UV.nd (j7 (pv 0)) (yR (by kernel_rfl))
    (fun _ _ _ _ _=>yB (i:=4) UV.nd rfl loc) (fun _ _ _ _ _=>YK (ZW (yH pa hr rfl zL (z3 (pv 3) (z3 (zm (pv 4) rfl) z7))))) (fun _ _ _ _ _=>pv 4)) z7)))))),?_⟩
  refine ⟨_,rfl,c,dx,_,rfl,hc,(by kernel_rfl),_,rfl,c,b,n,i,q,rfl,hI,hQ,iok,qok,fun H0 k0=>⟨_,rfl,?_⟩⟩
  refine Zc (fun hco=>?_) (fun hco=>?_)
  ·have q1:=hq H0 k0
   rw [if_pos hco] at q1
   exact q1
  ·refine ⟨_,rfl,b,dq,_,rfl,k0.ins hb,(by kernel_rfl),_,rfl,c,dx,_,rfl,k0.ins hc,(by kernel_rfl),c,i,rfl,hI.kp k0,le4 iok.kl,le4 iok.il,fun H1 p1 k1 n1 h1=>?_⟩
   refine ⟨b,p1,q,_,rfl,(hQ.kp k0).kp k1,h1,le4 qok.fl,fun H2 p2 k2 n2 h2=>?_⟩
   have k02:=(k0.trans k1).trans k2
   refine ⟨_,rfl,a,rfl,⟨_,SqL.of (k02.lst hS)⟩,fun D hD=>jS (L:=L) ((as.zip gs).map fun x=>if (jM i q).all (yc x.2.row)=true then some (V.ref x.1) else none) (SqL.of (k02.lst hS)) hD (by rw [z0,z0,j2,←hA.len,J7]) ?_ ?_⟩
   ·rintro j x o H3 hx ho I
    obtain ⟨g,d,rfl,hg,hd,dg,e,rg,rc⟩:=hA.get hx
    have eo:=Z8 ho (UN hg hd)
    have md:=zt hd
    have k3:=k02.trans I.kp
    refine ⟨rfl,_,rfl,_,rfl,⟨_,_,_,_,_,rfl,k3.ins rg,T.grp.cl,T.grp.nn,ZP,⟨p2,e,jM i q,d.row,rfl,z59 h2 I.kp,rc.kp k3,fun f hf=>by rw [gok.row d md];exact qok.fc f (yg.mp hf).1,zd (jK _ _) (le4 qok.fl),fun H4 k4=>⟨_,rfl,?_⟩⟩⟩⟩
    by_cases h3:(jM i q).all (yc d.row)=true
    ·rw [if_pos h3] at eo ⊢
     subst eo
     refine ⟨_,rfl,?_⟩
     exact I.yes hD (by rw [z0,j2];exact zd (ZA _ _) (J0 (zd gok.gl (by decide)))) k4 ho
    ·rw [if_neg h3] at eo ⊢
     subst eo
     exact I.no k4 ho
   ·intro H3 k3 h3
    rw [Wm (p:=fun x:Addr×Group=>(jM i q).all (yc x.2.row))] at h3
    have hO:yZ (Ji C) H3 D (gs.filter fun g=>(jM i q).all (yc g.row)):=⟨_,by rw [h3,zI];rfl,(Ats.pick (fun g:Group=>(jM i q).all (yc g.row)) hA).imp fun _ _ r=>r.kp (k02.trans k3)⟩
    refine ⟨D,_,rfl,hO,zd (gok.filter (p:=fun g=>(jM i q).all (yc g.row))).gl (by decide),fun H4 k4=>⟨_,_,rfl,rfl,.inl ⟨by decide,by decide⟩,?_⟩⟩
    have q1:=hq H4 ((k02.trans k3).trans k4)
    rw [if_neg hco,JI] at q1
    exact q1
end
structure FunC (K:z4)(x qual:Str)(st:Stmt)(f:Addr)(fd:FuncData)(c0:Addr):Prop where
 ex:∃(oc:Value) (od:Option Addr) (kV doc pm:Value) (an:Option Addr) (ct:Value) (osl:Array (Option Value)),
  fd=jU x qual (JA st) (ZS st) (zh st) .none kV doc pm an (.ref c0) ct∧K.lookup f=some ⟨oc,od,.func fd,osl⟩∧Y2 K (.ref c0) qual=true
 kp:YG K (.ref f)=true
theorem FunC.fn {K:z4}{x qual:Str}{st:Stmt}{f c0:Addr}{fd:FuncData}(F:FunC K x qual st f fd c0):Fun K x qual st f fd:=by
 obtain ⟨oc,od,kV,doc,pm,an,ct,osl,a,b,c⟩:=F.ex
 exact ⟨⟨oc,od,kV,doc,pm,an,.ref c0,ct,osl,a,b,c⟩,F.kp⟩
theorem FunC.okN {P:Program}{w:World}{K:z4}{mg:Str→Option Value}{base:Heap}{x qual:Str}{st:Stmt}{f c0:Addr}{fd:FuncData}{N ps:List Str}{k:Nat}{sp:Sp}(F:FunC K x qual st f fd c0)(S:zy N ps (zh st))(B:GT K fd ps [])(len:∀vs H Q E,sp vs H Q E→vs.length=ps.length)
  (hbody:∀(A:Around) (outer:List Env) (s:Shared) (H:Hp) (vs:List V) (Q:VK) (E:XK),Yu k (A.deeper (envOfC qual (zh st) s.heap.objs.size f (.ref c0)))→sp vs H Q E→
   ∃t,PSs (GW (CX1 P w) P w K mg base N qual (zh st) f (.ref c0) A outer s H E).nox (ZS st) t∧t { nx:=fun _ H'=>Q .non H',rt:=Q } (start N vs) H):yT P w K mg base (k+1) ps sp f:=by
 refine ⟨k+1,fd,zb _,?_,B⟩
 obtain ⟨oc,od,kV,doc,pm,an,ct,osl,rfl,lk,hcd⟩:=F.ex
 refine z8P lk hcd S len fun A outer s H vs Q E hr hsp=>?_
 obtain ⟨t,h,q⟩:=hbody A outer s H vs Q E hr hsp
 exact ⟨t,h.nox,q⟩
theorem z2S:∀(cs r s:List Nat),HT.lexLt (cs.map fun c=>(y9 r c:Int)) (cs.map fun c=>(y9 s c:Int))=VaidxBase.less cs r s
 | [],_,_=>rfl
 | c::cs,r,s=>by
  rw [zJ,zJ,HT.lexLt_cons,z2S cs r s]
  show _=(decide (y9 r c<y9 s c)||(y9 r c==y9 s c&&VaidxBase.less cs r s))
  by_cases e:y9 r c=y9 s c
  ·rw [if_pos (by rw [e]),e];simp
  ·rw [if_neg (by omega)]
   have:(y9 r c==y9 s c)=false:=beq_eq_false_iff_ne.mpr e
   rw [this,z5m,z6J]
   rw [y8];simp
theorem Ats.places {α:Type}[Inhabited α]{R:Addr→α→Prop}{as:List Addr}{ds:List α}{p:List Nat}(h:Ats R as ds)(hp:∀i∈p,i<as.length):Ats R (p.map fun i=>as.getD i 0) (p.map fun i=>ds.getD i default):=by
 refine ⟨by rw [z0,z0],fun i a d x y=>?_⟩
 rw [zB] at x y
 cases q:p[i]? with
 | none=>rw [q] at x;cases x
 | some j=>
  rw [q] at x y
  have lt:=hp j (zt q)
  have lt':j<ds.length:=by rw [←h.len];exact lt
  have x:as.getD j 0=a:=zG x
  have y:ds.getD j default=d:=zG y
  rw [←x,←y,yE,yE,z8 lt,z8 lt']
  exact h.at_ j _ _ (z8 lt) (z8 lt')
theorem Ats.rev {α:Type}{R:Addr→α→Prop}{as:List Addr}{ds:List α}(h:Ats R as ds):Ats R as.reverse ds.reverse:=by
 refine ⟨by rw [Y8,Y8,h.len],fun i a d x y=>?_⟩
 have lt:i<as.length:=by have:=(zo.mp x).1;simpa using this
 rw [qH lt] at x
 rw [qH (by rw [←h.len];exact lt),←h.len] at y
 exact h.at_ _ _ _ x y
theorem z5Q {as:List Addr}{p:List Nat}(hp:∀i∈p,i<as.length):p.map (fun i=>(as.map V.ref).getD i .non)=(p.map fun i=>as.getD i 0).map V.ref:=by
 rw [zI]
 refine W3 fun i hi=>?_
 have lt:=hp i hi
 show (as.map V.ref).getD i .non=.ref (as.getD i 0)
 rw [yE,yE,zB,z8 lt]
 rfl
def JC (L:List LT)(H:Hp):Prop:=∀t∈L,Yv H t.P t.pos t.qual
theorem JC.kp {L:List LT}{H H':Hp}(h:JC L H)(k:Kp L H H'):JC L H':=k.tabs h
def z55:Pos:=match ZS z05 with
 | _::_::.Assign _ (.Call _ _ [⟨_,.Lambda _ _ _ p,_⟩] _) _::_=>p
 | _=>⟨0,0,0,0⟩
def z0f:Str:="entries_in_range.<locals>.<lambda>"
structure LamOk (L:List LT)(P0:Addr):Prop where
 mem:(⟨P0,z55,z0f⟩:LT)∈L
 one:∀t'∈L,t'=⟨P0,z55,z0f⟩∨t'.P≠P0
section
variable (L:List LT)(C:Adr)
inductive z0O (vs:List V)(H:Hp)(Q:VK)(_E:XK):Prop | mk (a b c n:Nat) (t:Table) (q:Qst) (i:Index) (_:vs=[.ref a,.ref b,.ref c]) (_:Vg C H a t) (_:Y0 C H b q) (_:JE C H c i) (_:TOk t) (_:QOk t.cols q) (_:IOk t.cols i) (_:JC L H) (_:∀H' p,Kp L H H'→yZ (Ji C) H' p (QM t i q)→Q (.ref p) H')
end
section
variable {P:Program}{w:World}{K:z4}{mg:Str→Option Value}{base:Heap}{L:List LT}{C:Adr}{k:Nat}{f c0 P0:Addr}{fd:FuncData}
theorem YE:zy ["table","question","index","filters","groups","group","column"] ["table","question","index"] (zh z05):=scp
theorem z7T (T:Txt K mg C)(F:FunC K "entries_in_range" "entries_in_range" z05 f fd c0)(hC:∀h,K.In h→qC h c0 P0)(hB:base.BuiltinsAt mg P0)(lok:LamOk L P0)
  (rf:zD P w K mg base k C.idx "range_filters" ["self","question"] (z4e L C)) (he:zD P w K mg base k C.idx "has_entry" ["self","cells"] (JT C)) (pa:ya P w K mg base k "passes_all" ["filters","cells"] (YC L C)) :
  yT P w K mg base (k+1) ["table","question","index"] (z0O L C) f:=by
 refine F.okN YE (F.fn.binds fun _ _ _ _ _ _ us hl=>match us,hl with | [_,_,_],_=>rfl) (fun vs H Q E h=>?_) (fun A outer s H vs Q E hr h=>?_)
 ·obtain ⟨a,b,c,n,t,q,i,rfl,_⟩:=h;rfl
 ·obtain ⟨a,b,c,n,t,q,i,rfl,⟨dt,gl,ha,⟨as,hS,hA⟩⟩,hQ,hI,tok,qok,iok,tabs,hq⟩:=h
  obtain ⟨dq,fl,ol,wl,hb,_⟩:=id hQ
  obtain ⟨dx,kl,il,cv,hc,hk,hi,hcv⟩:=id hI
  refine ⟨_,z6 (zK (i:=3) YE.nd rfl (z3z rfl) (jv rf hr zL (pv 2) (z3 (pv 1) z7)))
   (z6 (VS (i:=4) (own:=[("group",5)]) (tt:=tAnd (tB (tMt C.idx "has_entry" (JT C) E0 (jc 2) (j6 (V5 K (jc 5) "cells") Yl))) (tB (tCl (YC L C) E0 (j6 (jc 3) (j6 (V5 K (jc 5) "cells") Yl))))) rfl YE.nd rfl rfl (Wa rfl rfl rfl rfl) (j7 (zm (pv 0) rfl)) (yR (by kernel_rfl))
     (fun _ _ _ _ _=>yB (i:=5) YE.nd rfl loc) (fun _ _ _ _ _=>YK (PW.pt (z7q (ZW (jv he hr zL (pv 2) (z3 (zm (pv 5) rfl) z7))) (z4w (ZW (yH pa hr rfl zL (z3 (pv 3) (z3 (zm (pv 5) rfl) z7)))))))) (fun _ _ _ _ _=>pv 5))
   (z6 (zK (i:=4) YE.nd rfl loc (zat (qual:=z0f) (own:=[("group",5)]) (ix:=5) (x:="group") (tb:=tLc (iList K (V5 K (jc 2) "key_columns")) (VX 6) tYes (tOp (rIxL K) (V5 K (jc 5) "cells") (jc 6)) [6]) hr rfl YE.nd (yR (by kernel_rfl)) rfl hC hB rfl (by kernel_rfl) rfl T.bl (pv 4) rfl rfl (fun u fd e1 e2 e3=>by cases fd;cases e1;cases e2;cases e3;rfl) rfl rfl
     (fun s H f c=>Yy (own:=[("column",6)]) rfl YE.nd (j7 (zm (pv 2) rfl)) (yR (by kernel_rfl)) (fun _ _ _ _ _=>yB (i:=6) YE.nd rfl loc) (fun _ _ _ _ _=>Zm) (fun _ _ _ _ _=>Zt jl (zm (pv 5) rfl) (pv 6) (fun _ _=>rfl)))))
   (z6 (jb (ZW (zm (pv 1) rfl)) (z9 (zA (z7v rfl rfl T.bl rfl T.bl (pv 4)))) yp)
   (z9 (zA (pv 4)))))),?_⟩
  refine ⟨_,rfl,c,dx,_,rfl,hc,(by kernel_rfl),_,rfl,c,b,t.cols,i,q,rfl,hI,hQ,iok,qok,fun H1 p1 k1 n1 h1=>?_⟩
  have hRl:(YJ i q).length≤1000:=zd (jK _ _) (le4 qok.fl)
  refine ⟨_,rfl,⟨_,_,_,_,_,rfl,k1.ins ha,T.tbl.cl,T.tbl.nn,W9,⟨gl,rfl,⟨_,SqL.of (k1.lst hS)⟩,fun D hD=>jS (L:=L) ((as.zip t.groups).map fun x=>if (yQ i x.2.row&&(YJ i q).all (yc x.2.row))=true then some (V.ref x.1) else none) (SqL.of (k1.lst hS)) hD (by rw [z0,z0,j2,←hA.len,J7]) ?_ ?_⟩⟩⟩
  ·rintro j x o H2 hx ho I
   obtain ⟨g,d,rfl,hg,hd,dg,e,rg,rc⟩:=hA.get hx
   have eo:=Z8 ho (UN hg hd)
   have md:=zt hd
   have k2:=k1.trans I.kp
   have hl12:(z1L (fun x:Addr×Group=>if (yQ i x.2.row&&(YJ i q).all (yc x.2.row))=true then some (V.ref x.1) else none) (as.zip t.groups)).length≤sizeLine:=by
    rw [z0,j2];exact zd (ZA _ _) (J0 (zd tok.gl (by decide)))
   refine ⟨rfl,_,rfl,c,dx,_,rfl,k2.ins hc,(by kernel_rfl),_,rfl,⟨_,_,_,_,_,rfl,k2.ins rg,T.grp.cl,T.grp.nn,ZP,⟨c,e,i,d.row,rfl,hI.kp k2,rc.kp k2,fun f hf=>by rw [tok.row d md];exact iok.oc f hf,_,rfl,?_⟩⟩⟩
   refine Zc (fun h2=>?_) (fun h2=>?_)
   ·refine ⟨_,rfl,_,rfl,⟨_,_,_,_,_,rfl,k2.ins rg,T.grp.cl,T.grp.nn,ZP,⟨p1,e,YJ i q,d.row,rfl,z59 h1 I.kp,rc.kp k2,fun f hf=>by rw [tok.row d md];exact qok.fc f (yg.mp hf).1,hRl,fun H3 k3=>⟨_,rfl,?_⟩⟩⟩⟩
    refine Zc (fun h3=>?_) (fun h3=>?_)
    ·rw [h2,h3,if_pos (by rfl)] at eo
     subst eo
     exact ⟨_,rfl,I.yes hD hl12 k3 ho⟩
    ·rw [h2,VA,if_neg h3] at eo
     subst eo
     exact I.no k3 ho
   ·rw [if_neg (by simp [h2])] at eo
    subst eo
    exact iteF (I.no .refl ho)
  ·intro H2 k2 h2
   rw [Wm (p:=fun x:Addr×Group=>yQ i x.2.row&&(YJ i q).all (yc x.2.row))] at h2
   have hA2:=Ats.pick (fun g:Group=>yQ i g.row&&(YJ i q).all (yc g.row)) hA
   have gokG:QG t.cols (t.groups.filter fun g=>yQ i g.row&&(YJ i q).all (yc g.row)):=tok.gs.filter
   have hent:=z8c (t:=t) (i:=i) (q:=q) (fs:=YJ i q) (fun p=>z9l qok.ap _ p)
   have h2':H2 D=some (.lst ((((as.zip t.groups).filter fun x=>yQ i x.2.row&&(YJ i q).all (yc x.2.row)).map (·.1)).map V.ref)):=by rw [h2,zI];rfl
   generalize (((as.zip t.groups).filter fun x=>yQ i x.2.row&&(YJ i q).all (yc x.2.row)).map (·.1))=bs at h2' hA2
   generalize hG:(t.groups.filter fun g=>yQ i g.row&&(YJ i q).all (yc g.row))=G at hA2 gokG hent
   have k12:=k1.trans k2
   have tab2:=(tabs.kp k12) _ lok.mem
   have lenb:bs.length≤12:=by rw [hA2.len];exact gokG.gl
   refine ⟨_,rfl,tab2,D,bs.map V.ref,G.map (fun g=>i.keys.map fun c=>(y9 g.row c:Int)),i.keys.length,rfl,SqL.of h2',by rw [z0,z0,hA2.len],by rw [z0];omega,fun kk hk=>?_,?_,?_⟩
   ·obtain ⟨g,_,rfl⟩:=yr.mp hk
    rw [z0]
   ·intro H3 j x key sx hx hkey
    obtain ⟨ps,hP,_⟩:=id tab2
    obtain ⟨g,d,rfl,hg,hd,dg,e,rg,rc⟩:=hA2.get hx
    rw [zB,hd] at hkey
    have hkey:(i.keys.map fun c=>(y9 d.row c:Int))=key:=zG hkey
    subst hkey
    have nP:∀{b:Addr} {o:HO},H2 b=some o→(∀qs,o≠.tbl qs)→H3 b=some o:=fun {b o} e n=>sx b o e (fun z=>by rw [z,hP] at e;cases e;exact n _ rfl)
    have hc3:H3 c=_:=nP (k12.ins hc) (by intro _ z;cases z)
    have hk3:H3 kl=_:=nP (k12.lst hk) (by intro _ z;cases z)
    have rg3:H3 g=_:=nP (k12.ins rg) (by intro _ z;cases z)
    have rc3:H3 e=_:=nP (k12.lst rc) (by intro _ z;cases z)
    have lens:d.row.length=t.cols:=gokG.row d (zt hd)
    refine ⟨_,rfl,⟨_,_,_,_,_,rfl,hc3,T.idx.cl,T.idx.nn,VI,⟨kl,rfl,⟨_,SqL.of hk3⟩,fun D2 hD2=>?_⟩⟩⟩
    refine z54 (K:=K) (a:=kl) (xs:=yJ i.keys) (fun j H'=>W5 H3 H'∧H' D2=some (.lst (((i.keys.map fun c=>(y9 d.row c:Int)).map V.int).take j))) ⟨Yn hD2,z5⟩ (fun j H' _ ⟨sm,_⟩=>SqL.of (sm _ _ hk3)) ?_ ?_
    ·rintro j x H4 hx ⟨sm,hD4⟩
     obtain ⟨cc,hcc,rfl⟩:=G1 hx
     have lt:cc<d.row.length:=by rw [lens];exact iok.kc cc (zt hcc)
     have ltj:j<i.keys.length:=(zo.mp hcc).1
     have hv:(yJ d.row)[cc]?=some (.int (y9 d.row cc)):=by
      rw [Us,z8 lt]
      unfold y9
      rw [z8 lt];rfl
     refine ⟨rfl,Ya ⟨_,rfl,⟨_,_,_,_,_,rfl,sm _ _ rg3,T.grp.cl,T.grp.nn,ZP,⟨_,rfl,e,_,_,_,rfl,rfl,SqL.of (sm _ _ rc3),YA rfl hv,_,hD4,?_,?_,?_⟩⟩⟩⟩
     ·rw [Zx,z0,z0]
      have:=iok.kl
      have:(16:Nat)<sizeLine:=by decide
      omega
     ·exact fun b o e=>by rw [zl (zT e hD2)];exact sm b o e
     ·rw [z5,Zr (l:=(i.keys.map fun c=>(y9 d.row c:Int)).map V.int) (x:=.int (y9 d.row cc)) (by rw [zB,zB,hcc];rfl)]
    ·rintro H4 ⟨sm,hD4⟩
     refine ⟨D2,rfl,sm,?_⟩
     rw [hD4,yM]
     rw [Zu (by rw [z0,z0];exact zb _)]
   ·intro D3 H3 p sx tab3 hD3 perm bf
    rw [z0] at perm bf
    have hpl:∀j∈p.toList,j<bs.length:=fun j hj=>by simpa using perm.mem_iff.mp hj
    have k3:Kp L H2 H3:=Kp.sortX (t:=⟨P0,z55,z0f⟩) lok.mem lok.one sx tab2 tab3
    have k13:=(k12.trans k3).new (o:=.lst (p.toList.map fun j=>(bs.map V.ref).getD j .non)) hD3
    have srt:p.toList.map (fun j=>G.getD j default)=qQ i.keys G:=by
     refine z5z (by rw [←hA2.len];exact perm) ?_
     rw [z5q]
     intro u v hu hv huv
     have lu:p.toList.length=bs.length:=by rw [perm.length_eq,yA]
     have b1:=bf u v huv (by omega)
     have eu:KP.g p u=p.toList[u]:=by
      show p.getD u 0=_
      rw [ja]
      simp at hu
      simp [hu]
     have ev:KP.g p v=p.toList[v]:=by
      show p.getD v 0=_
      rw [ja]
      simp at hv
      simp [hv]
     rw [eu,ev] at b1
     have key:∀y,y<bs.length→(G.map (fun g=>i.keys.map fun c=>(y9 g.row c:Int))).getD y []=i.keys.map fun c=>(y9 (G.getD y default).row c:Int):=fun y hy=>by
      have hy':y<G.length:=by rw [←hA2.len];exact hy
      rw [yE,zB,z8 hy',yE,z8 hy']
      rfl
     have mu:=hpl _ (Vt hu)
     have mv:=hpl _ (Vt hv)
     unfold KP.Bf klt at b1
     rw [key _ mu,key _ mv,z2S,z2S] at b1
     exact b1
    have hO:yZ (Ji C) (upd H3 D3 (.lst (p.toList.map fun j=>(bs.map V.ref).getD j .non))) D3 (qQ i.keys G):=by
     refine ⟨p.toList.map fun j=>bs.getD j 0,by rw [z5,z5Q hpl],?_⟩
     rw [←srt]
     exact (Ats.places hA2 hpl).imp fun _ _ r=>r.kp k13
    obtain ⟨cs,hcs,hcA⟩:=id hO
    refine ⟨_,rfl,⟨_,_,_,_,_,rfl,k13.ins hb,T.qst.cl,T.qst.nn,z2H,⟨_,rfl,?_⟩⟩⟩
    refine Zc (fun hbk=>?_) (fun hbk=>?_)
    ·refine ⟨_,rfl,D3,_,rfl,SqL.of hcs,fun l hl=>?_⟩
     have k14:=k13.new (o:=.lst (cs.map V.ref).reverse) hl
     refine hq _ l k14 ?_
     rw [hent,if_pos hbk]
     exact ⟨cs.reverse,by rw [z5,List.map_reverse],(Ats.rev hcA).imp fun _ _ r=>r.kp (L:=L) (Kp.refl.new hl)⟩
    ·refine ⟨_,rfl,hq _ D3 k13 ?_⟩
     rw [hent,if_neg hbk]
     exact hO
end
section
variable (L:List LT)(C:Adr)
inductive z0P (vs:List V)(H:Hp)(Q:VK)(_E:XK):Prop | mk (a b:Addr) (t:Table) (q:Qst) (_:vs=[.ref a,.ref b]) (_:Vg C H a t) (_:Y0 C H b q) (_:TOk t) (_:QOk t.cols q) (_:∀H',Kp L H H'→Q (.int (Vq t q:Nat)) H')
inductive z0Q (vs:List V)(H:Hp)(Q:VK)(_E:XK):Prop | mk (a b c:Addr) (t:Table) (q:Qst) (i:Index) (_:vs=[.ref a,.ref b,.ref c]) (_:Vg C H a t) (_:Y0 C H b q) (_:JE C H c i) (_:TOk t) (_:QOk t.cols q) (_:IOk t.cols i) (_:JC L H) (_:∀H',Kp L H H'→Q (.int (YT t i q:Nat)) H')
end
theorem z36 {t:Table}{i:Index}{q:Qst}(tok:TOk t):QG t.cols (QM t i q):=by
 have h:QG t.cols ((qQ i.keys (t.groups.filter fun g=>yQ i g.row)).filter fun g=>(VaidxBase.rangeFilters i q).all (yc g.row)):=by
  refine QG.filter ⟨?_,fun g hg=>?_,fun g hg=>?_⟩
  ·rw [z4j];exact zd (jK _ _) tok.gl
  ·exact tok.row g (yg.mp (QZ.mp hg)).1
  ·exact tok.cnt g (yg.mp (QZ.mp hg)).1
 unfold QM
 simp only []
 split
 ·exact ⟨by rw [Y8];exact h.gl,fun g hg=>h.row g (List.mem_reverse.mp hg),fun g hg=>h.cnt g (List.mem_reverse.mp hg)⟩
 ·exact h
section
variable {P:Program}{w:World}{K:z4}{mg:Str→Option Value}{base:Heap}{L:List LT}{C:Adr}{k:Nat}{f:Addr}{fd:FuncData}
theorem Qh:zy ["table","question","free","touched"] ["table","question"] (zh z2A):=scp
theorem z7V (T:Txt K mg C)(F:Fun K "cost_by_table" "cost_by_table" z2A f fd)(uo:zD P w K mg base k C.qst "unsettled_order" ["self"] (Wb L C))(tg:ya P w K mg base k "touched_groups" ["groups","question","free"] (UO L C))
  (cr:ya P w K mg base k "count_rows" ["groups"] (Y6 L C)) (sc:ya P w K mg base k "sorting_cost" ["touched","question","free"] (UP L C)):yT P w K mg base (k+1) ["table","question"] (z0P L C) f:=by
 refine F.okN Qh (fun cdv A outer s H vs Q E hr h=>?_)
 ·obtain ⟨a,b,t,q,rfl,⟨dt,gl,ha,hG⟩,hQ,tok,qok,hq⟩:=h
  obtain ⟨dq,fl,ol,wl,hb,_⟩:=id hQ
  refine ⟨_,z6 (zK (i:=2) Qh.nd rfl loc (ZJ (z7z (hu64 hr)) (jQ uo hr zL (pv 1)) (yy z7) (yj _)))
   (z6 (zK (i:=3) Qh.nd rfl loc (yH tg hr rfl zL (z3 (zm (pv 0) rfl) (z3 (pv 1) (z3 (pv 2) z7)))))
   (z9 (zA (jr Yd (jr Qw (yx rfl (T.n (n:=2))) (yH cr hr rfl zL (z3 (pv 3) z7))) (yH sc hr rfl zL (z3 (pv 3) (z3 (pv 1) (z3 (pv 2) z7)))))))),?_⟩
  refine ⟨_,rfl,b,dq,_,rfl,hb,(by kernel_rfl),b,q,rfl,hQ,le4 qok.fl,le4 qok.ol,fun H1 p1 k1 n1 h1=>⟨zk _,fun p2 n2=>?_⟩⟩
  have k2:=k1.new (o:=HO.lst []) n2
  have h2:zj (upd H1 p2 (.lst [])) p2 []:=z5
  have h1':zj (upd H1 p2 (.lst [])) p1 _:=Yn n2 _ _ h1
  refine ⟨_,_,Wn h1',Wn h2,ZG _,ZG _,?_⟩
  rw [z0j]
  generalize hfr:(GB q.order q==[])=fr
  have hfr':fr=(z6E q).isEmpty:=by
   rw [←hfr,z0a qok.ap]
   cases z6E q <;> rfl
  refine ⟨_,rfl,⟨_,_,_,_,_,rfl,k2.ins ha,T.tbl.cl,T.tbl.nn,W9,⟨_,rfl,_,rfl,gl,b,t.cols,fr,t.groups,q,rfl,qj hG k2,hQ.kp k2,tok.gs,qok,fun H3 p3 k3 h3=>?_⟩⟩⟩
  have k23:=k2.trans k3
  have gk:=tok.gs.touch (fnd:=zS q) (lim:=q.limit) (free:=fr)
  refine ⟨_,rfl,p3,_,rfl,h3,zd gk.gl (by decide),fun H4 k4=>⟨_,_,rfl,rfl,.inl ⟨by decide,by decide⟩,?_⟩⟩
  refine ⟨_,rfl,_,rfl,_,rfl,p3,b,t.cols,fr,_,q,rfl,qj h3 k4,hQ.kp (k23.trans k4),gk,qok,fun H5 k5=>⟨_,_,rfl,rfl,?_⟩⟩
  have q1:=hq H5 ((k23.trans k4).trans k5)
  rw [za9 hfr',ZR,JI] at q1
  exact q1
theorem Gr:zy ["table","question","index","free","touched","cost"] ["table","question","index"] (zh z2B):=scp
theorem z7W (T:Txt K mg C)(F:Fun K "cost_by_index" "cost_by_index" z2B f fd)(fr:zD P w K mg base k C.idx "frees_order_of" ["self","question"] (z4h L C))(tg:ya P w K mg base k "touched_groups" ["groups","question","free"] (UO L C))
  (en:ya P w K mg base k "entries_in_range" ["table","question","index"] (z0O L C)) (cr:ya P w K mg base k "count_rows" ["groups"] (Y6 L C)) (sc:ya P w K mg base k "sorting_cost" ["touched","question","free"] (UP L C))
  (lu:ya P w K mg base k "look_up_cost" ["touched","question","index"] (z2m L C)):yT P w K mg base (k+1) ["table","question","index"] (z0Q L C) f:=by
 refine F.okN Gr (fun cdv A outer s H vs Q E hr h=>?_)
 ·obtain ⟨a,b,c,t,q,i,rfl,hT,hQ,hI,tok,qok,iok,tabs,hq⟩:=h
  obtain ⟨dx,kl,il,cv,hc,hk,hi,hcv⟩:=id hI
  refine ⟨_,z6 (zK (i:=3) Gr.nd rfl loc (jv fr hr zL (pv 2) (z3 (pv 1) z7)))
   (z6 (zK (i:=4) Gr.nd rfl loc (yH tg hr rfl zL (z3 (yH en hr rfl zL (z3 (pv 0) (z3 (pv 1) (z3 (pv 2) z7)))) (z3 (pv 1) (z3 (pv 3) z7)))))
   (z6 (zK (i:=5) Gr.nd rfl loc (jr Qw (yx rfl (T.n (n:=1))) (yH cr hr rfl zL (z3 (pv 4) z7))))
   (z9 (zA (jr Yd (jr Yd (pv 5) (yH lu hr rfl zL (z3 (pv 4) (z3 (pv 1) (z3 (pv 2) z7))))) (yH sc hr rfl zL (z3 (pv 4) (z3 (pv 1) (z3 (pv 3) z7))))))))),?_⟩
  refine ⟨_,rfl,c,dx,_,rfl,hc,(by kernel_rfl),_,rfl,c,b,t.cols,i,q,rfl,hI,hQ,iok,qok,fun H1 k1=>?_⟩
  refine ⟨_,rfl,_,rfl,_,rfl,a,b,c,t.cols,t,q,i,rfl,hT.kp k1,hQ.kp k1,hI.kp k1,tok,qok,iok,tabs.kp k1,fun H2 p2 k2 h2=>?_⟩
  have k12:=k1.trans k2
  refine ⟨_,rfl,_,rfl,p2,b,t.cols,WN i q,_,q,rfl,h2,hQ.kp k12,z36 tok,qok,fun H3 p3 k3 h3=>?_⟩
  have k13:=k12.trans k3
  have gk:=(z36 (i:=i) (q:=q) tok).touch (fnd:=zS q) (lim:=q.limit) (free:=WN i q)
  refine ⟨_,rfl,p3,_,rfl,h3,zd gk.gl (by decide),fun H4 k4=>⟨_,_,rfl,rfl,.inl ⟨by decide,by decide⟩,?_⟩⟩
  have k14:=k13.trans k4
  refine ⟨_,rfl,_,rfl,_,rfl,_,rfl,p3,b,c,t.cols,_,q,i,rfl,qj h3 k4,hQ.kp k14,hI.kp k14,gk,qok,iok,fun H5 k5=>⟨_,_,rfl,rfl,?_⟩⟩
  have k15:=k14.trans k5
  refine ⟨_,rfl,_,rfl,_,rfl,p3,b,t.cols,_,_,q,rfl,qj (qj h3 k4) k5,hQ.kp k15,gk,qok,fun H6 k6=>⟨_,_,rfl,rfl,?_⟩⟩
  have q1:=hq H6 (k15.trans k6)
  rw [zaS,ZR,ZR] at q1
  show Q (.int (1 * (Z6 _:Int)+_+_)) H6
  rw [Int.one_mul]
  exact q1
end
open Vaidxd (Offer Costs Problem Set_ costsOf problemOf)
abbrev z7k (j:Nat):Stmt:=Jy (top 22) j
abbrev Qq:Stmt:=top 23
abbrev z4q:Stmt:=top 24
abbrev z10:Stmt:=top 25
abbrev z2C:Stmt:=top 26
abbrev Qk:Stmt:=top 27
abbrev z2y:Stmt:=top 28
abbrev z2x:Stmt:=top 29
abbrev z7l:Stmt:=top 30
abbrev z7m:Stmt:=top 31
abbrev z2z:Stmt:=top 32
abbrev z4p:Stmt:=top 33
abbrev Qr:Stmt:=top 34
abbrev Ui:Stmt:=top 35
structure OsOk (t:Table)(l:List Offer):Prop where
 len:l.length≤8
 ix:∀o∈l,IOk t.cols o.index
 up:∀o∈l,o.upkeep≤1000000000
def jG (H:Hp)(a:Addr)(c:Costs):Prop:=yt H a (z0m c)
theorem jG.kp {L:List LT}{H H':Hp}{a:Addr}{c:Costs}(h:jG H a c)(k:Kp L H H'):jG H' a c:=yt.kp h k
theorem jC {L:List LT}{H H':Hp}{a:Addr}{c:List Costs}(h:yZ jG H a c)(k:Kp L H H'):yZ jG H' a c:=h.kp (fun _ _ r=>r.kp k) k
theorem Vc {l:List Int}{i:Nat}:(l.map V.int)[i]?=(l[i]?).map V.int:=zB ..
section
variable (L:List LT)(C:Adr)
inductive z0K (vs:List V)(H:Hp)(Q:VK)(_E:XK):Prop | mk (p dx ia:Addr) (u r:Nat) (_:vs=[.ref p,.ref ia,.int u,.int r]) (_:H p=some (.ins C.off dx [])) (_:Q .non (upd H p (.ins C.off dx (z6d ia u r))))
def z0c (t:Table)(q:Qst)(o:Offer):Option Nat:=if YF o.index q then some (q.times * YT t o.index q) else none
inductive Uc (vs:List V)(H:Hp)(Q:VK)(_E:XK):Prop | mk (a b c:Addr) (t:Table) (q:Qst) (o:Offer) (_:vs=[.ref a,.ref b,.ref c]) (_:Vg C H a t) (_:Y0 C H b q) (_:Yo C t H c o) (_:TOk t) (_:QOk t.cols q) (_:IOk t.cols o.index) (_:JC L H) (_:∀H',Kp L H H'→Q (.int (yG (z0c t q o))) H')
inductive Ub (vs:List V)(H:Hp)(Q:VK)(_E:XK):Prop | mk (a b c:Addr) (t:Table) (q:Qst) (l:List Offer) (_:vs=[.ref a,.ref b,.ref c]) (_:Vg C H a t) (_:Y0 C H b q) (_:yZ (Yo C t) H c l) (_:TOk t) (_:QOk t.cols q) (_:OsOk t l) (_:JC L H) (_:∀H' p,Kp L H H'→H p=none→jG H' p (costsOf t l q)→Q (.ref p) H')
inductive VO (vs:List V)(H:Hp)(Q:VK)(_E:XK):Prop | mk (a b:Addr) (c:Costs) (s:Set_) (_:vs=[.ref a,.ref b]) (_:jG H a c) (_:zj H b s) (_:(∀i∈s,i<c.by_.length)) (_:Q (.int (JL c s:Nat)) H)
def CsAt (H:Hp)(a:Addr)(p:Problem):Prop:=yZ jG H a p.costs
inductive WY (vs:List V)(H:Hp)(Q:VK)(_E:XK):Prop | mk (a d:Addr) (t:Table) (qs:List Qst) (l:List Offer) (s:Set_) (_:vs=[.ref a,.ref d]) (_:CsAt H a (problemOf t qs l)) (_:zj H d s) (_:qs.length≤1000) (_:(∀i∈s,i<l.length)) (_:∀H',Kp L H H'→Q (.int (Vk (problemOf t qs l) s:Nat)) H')
inductive Wc (vs:List V)(H:Hp)(Q:VK)(_E:XK):Prop | mk (b d:Addr) (t:Table) (qs:List Qst) (l:List Offer) (s:Set_) (_:vs=[.ref b,.ref d]) (_:yZ (Yo C t) H b l) (_:zj H d s) (_:s.length≤1000) (_:(∀i∈s,i<l.length)) (_:∀H',Kp L H H'→Q (.int (z3y (problemOf t qs l) s:Nat)) H')
inductive ZC (vs:List V)(H:Hp)(Q:VK)(_E:XK):Prop | mk (a b d:Addr) (t:Table) (qs:List Qst) (l:List Offer) (s:Set_) (_:vs=[.ref a,.ref b,.ref d]) (_:yZ jG H a (problemOf t qs l).costs) (_:yZ (Yo C t) H b l) (_:zj H d s) (_:qs.length≤1000) (_:s.length≤1000) (_:(∀i∈s,i<l.length)) (_:∀H',Kp L H H'→Q (.int (zH (problemOf t qs l) s:Nat)) H')
inductive JS (vs:List V)(H:Hp)(Q:VK)(_E:XK):Prop | mk (b d:Addr) (t:Table) (qs:List Qst) (l:List Offer) (s:Set_) (_:vs=[.ref b,.ref d]) (_:yZ (Yo C t) H b l) (_:zj H d s) (_:s.length≤1000) (_:(∀i∈s,i<l.length)) (_:∀H',Kp L H H'→Q (.int (yk (problemOf t qs l) s:Nat)) H')
end
section
variable {P:Program}{w:World}{K:z4}{mg:Str→Option Value}{base:Heap}{L:List LT}{C:Adr}{k:Nat}{f:Addr}{fd:FuncData}
theorem z7c:zy ["self","index","upkeep","room"] ["self","index","upkeep","room"] (zh (z7k 0)):=scp
theorem z7N (T:Txt K mg C)(F:Fun K "__init__" "Offer.__init__" (z7k 0) f fd):yT P w K mg base 1 ["self","index","upkeep","room"] (z0K C) f:=by
 refine F.okN z7c (fun cdv A outer s H vs Q E hr h=>?_)
 ·obtain ⟨p,dx,ia,u,r,rfl,hp,q⟩:=h
  refine ⟨_,z6 (jk (pv 0) (pv 1) rfl) (z6 (jk (pv 0) (pv 2) rfl) (z9 (jk (pv 0) (pv 3) rfl))),?_⟩
  refine ⟨_,rfl,_,rfl,⟨_,_,_,_,rfl,hp,T.off.cl,T.off.nn,few,⟨_,rfl,_,rfl,⟨_,_,_,_,rfl,z5,T.off.cl,T.off.nn,few,⟨_,rfl,_,rfl,⟨_,_,_,_,rfl,z5,T.off.cl,T.off.nn,few,?_⟩⟩⟩⟩⟩⟩
  rw [Z3,Z3]
  exact q
theorem z4m:zy ["table","question","offer"] ["table","question","offer"] (zh Qq):=scp
theorem z4V (T:Txt K mg C)(F:Fun K "offer_cost" "offer_cost" Qq f fd)(sv:zD P w K mg base k C.idx "serves" ["self","question"] (z2j L C))(bi:ya P w K mg base k "cost_by_index" ["table","question","index"] (z0Q L C)) :
  yT P w K mg base (k+1) ["table","question","offer"] (Uc L C) f:=by
 refine F.okN z4m (fun cdv A outer s H vs Q E hr h=>?_)
 ·obtain ⟨a,b,c,t,q,o,rfl,hT,hQ,⟨dc,ia,hc,hI⟩,tok,qok,iok,tabs,hq⟩:=h
  obtain ⟨dq,fl,ol,wl,hb,_⟩:=id hQ
  obtain ⟨di,kl,il,cv,hi,_⟩:=id hI
  refine ⟨_,z6 (jb (z16 (ZW (jv sv hr zL (zm (pv 2) rfl) (z3 (pv 1) z7)))) (z9 (zA (yx rfl (T.n (n:=-1))))) yp)
   (z9 (zA (jr Qw (yH bi hr rfl zL (z3 (pv 0) (z3 (pv 1) (z3 (zm (pv 2) rfl) z7)))) (zm (pv 1) rfl)))),?_⟩
  refine ⟨_,rfl,⟨_,_,_,_,_,rfl,hc,T.off.cl,T.off.nn,z2P,⟨ia,di,_,rfl,hi,(by kernel_rfl),_,rfl,ia,b,t.cols,o.index,q,rfl,hI,hQ,qok,fun H1 k1=>⟨_,rfl,?_⟩⟩⟩⟩
  have hq:∀H',Kp L H H'→Q (.int (yG (z0c t q o))) H':=hq
  unfold z0c at hq
  refine Zc (fun h1=>?_) (fun h1=>?_)
  ·have h1:YF o.index q=false:=by simpa using h1
   have q1:=hq H1 k1
   rw [h1] at q1
   exact q1
  ·have h1:YF o.index q=true:=by simpa using h1
   rw [if_pos h1] at hq
   refine ⟨_,rfl,_,rfl,_,rfl,⟨_,_,_,_,_,rfl,k1.ins hc,T.off.cl,T.off.nn,z2P,⟨a,b,ia,t,q,o.index,rfl,hT.kp k1,hQ.kp k1,hI.kp k1,tok,qok,iok,tabs.kp k1,fun H2 k2=>?_⟩⟩⟩
   have k12:=k1.trans k2
   have ht:=qok.tms
   refine ⟨_,rfl,⟨_,_,_,_,_,rfl,k12.ins hb,T.qst.cl,T.qst.nn,z2I,⟨_,_,rfl,rfl,.inr ⟨by omega,by omega⟩,?_⟩⟩⟩
   have q1:=hq H2 k12
   have e:yG (some (q.times * YT t o.index q))=(YT t o.index q:Int) * (q.times:Int):=by
    show ((q.times * YT t o.index q:Nat):Int)=_
    rw [JI,Int.mul_comm]
   rw [e] at q1
   exact q1
theorem UU:zy ["table","question","offers","by_table","offer"] ["table","question","offers"] (zh z4q):=scp
theorem z9s (T:Txt K mg C)(F:Fun K "question_costs" "question_costs" z4q f fd)(bt:ya P w K mg base k "cost_by_table" ["table","question"] (z0P L C))(oc:ya P w K mg base k "offer_cost" ["table","question","offer"] (Uc L C)) :
  yT P w K mg base (k+1) ["table","question","offers"] (Ub L C) f:=by
 refine F.okN UU (fun cdv A outer s H vs Q E hr h=>?_)
 ·obtain ⟨a,b,c,t,q,l,rfl,hT,hQ,⟨as,hS,hA⟩,tok,qok,ook,tabs,hq⟩:=h
  obtain ⟨dq,fl,ol,wl,hb,_⟩:=id hQ
  refine ⟨_,z6 (zK (i:=3) UU.nd rfl loc (jr Qw (yH bt hr rfl zL (z3 (pv 0) (z3 (pv 1) z7))) (zm (pv 1) rfl)))
   (z9 (zA (jr Jv (yy (z3 (pv 3) z7)) (Yy (own:=[("offer",4)]) rfl UU.nd (j7 (pv 2)) (yR (by kernel_rfl)) (fun _ _ _ _ _=>yB (i:=4) UU.nd rfl loc) (fun _ _ _ _ _=>Zm)
    (fun _ _ _ _ _=>yH oc hr rfl zL (z3 (pv 0) (z3 (pv 1) (z3 (pv 4) z7)))))))),?_⟩
  refine ⟨_,rfl,_,rfl,a,b,t,q,rfl,hT,hQ,tok,qok,fun H1 k1=>?_⟩
  have ht:=qok.tms
  refine ⟨_,rfl,⟨_,_,_,_,_,rfl,k1.ins hb,T.qst.cl,T.qst.nn,z2I,⟨_,_,rfl,rfl,.inr ⟨by omega,by omega⟩,_,rfl,(by show 1≤sizeLine;decide),fun p1 n1=>?_⟩⟩⟩
  have k2:=k1.new (o:=.lst [V.int ((Vq t q:Int) * (q.times:Int))]) n1
  have hp1:(upd H1 p1 (.lst [V.int ((Vq t q:Int) * (q.times:Int))])) p1=_:=z5
  refine ⟨_,rfl,c,rfl,⟨_,SqL.of (k2.lst hS)⟩,fun D hD=>jS (L:=L) (l.map fun o=>some (V.int (yG (z0c t q o)))) (SqL.of (k2.lst hS)) hD (by rw [z0,z0,hA.len]) ?_ ?_⟩
  ·rintro j x o H2 hx ho I
   obtain ⟨e,d,rfl,he,hd,re⟩:=hA.get hx
   have eo:=Z8 ho hd
   subst eo
   have md:=zt hd
   have k3:=k2.trans I.kp
   refine ⟨rfl,Ya ⟨_,rfl,_,rfl,_,rfl,a,b,e,t,q,d,rfl,hT.kp k3,hQ.kp k3,re.kp k3,tok,qok,ook.ix d md,tabs.kp k3,fun H4 k4=>?_⟩⟩
   exact I.yes hD (by rw [z0];exact J0 (zd ook.len (by decide))) k4 ho
  ·intro H2 k3 h2
   rw [Yf] at h2
   refine ⟨p1,D,_,_,rfl,rfl,k3.lst hp1,h2,?_,fun p2 n2=>?_⟩
   ·rw [z0]
    have:=ook.len
    have:(100:Nat)≤sizeLine:=by decide
    show 1+l.length≤sizeLine
    omega
   ·have k4:=(k2.trans k3).new (o:=.lst ([V.int ((Vq t q:Int) * (q.times:Int))]++l.map fun o=>V.int (yG (z0c t q o)))) n2
    refine hq _ p2 k4 ((k2.trans k3).free n2) ?_
    unfold jG yt z0m costsOf
    rw [z5]
    simp only [zJ,zI,JI,Zy,Jm]
    rw [Int.mul_comm]
    rfl
theorem V9:zy ["ways","chosen","best","number","cost"] ["ways","chosen"] (zh z10):=scp
theorem z69 (T:Txt K mg C)(F:Fun K "cheapest_way" "cheapest_way" z10 f fd):yT P w K mg base 1 ["ways","chosen"] VO f:=by
 refine F.okN V9 (fun cdv A outer s H vs Q E hr h=>?_)
 ·obtain ⟨a,b,c,st,rfl,ha,hb,hlt,hq⟩:=h
  refine ⟨_,z6 (zK (i:=2) V9.nd rfl loc yb)
   (z6 (Vo ji rfl (j7 (pv 1)) (yB (i:=3) V9.nd rfl loc)
    (z6 (zK (i:=4) V9.nd rfl loc (Zt jl (pv 0) (jr Yd (pv 3) yb) (fun _ _=>rfl)))
    (z9 (jb (PW.pt (z7q (zZ op_ne (pv 4) (yx rfl (T.n (n:=-1))) (yj _)) (z4w (zZ VT (pv 4) (Zt jl (pv 0) (pv 2) (fun _ _=>rfl)) (yj _))))) (z9 (zK (i:=2) V9.nd rfl loc (jr Yd (pv 3) yb))) yp))))
   (z9 (zA (pv 2)))),?_⟩
  refine ⟨_,rfl,b,rfl,⟨_,hb.sq⟩,Vd (K:=K) (a:=b) (xs:=yJ st) (fun i σ H'=>∃v3 v4:Option V,σ=[some (.ref a),some (.ref b),some (.int ((JL c (st.take i):Nat):Int)),v3,v4]∧H'=H) ⟨none,none,by rw [List.take_zero,(way_nil c).1];rfl,rfl⟩ (fun i σ H' _ ⟨_,_,_,e⟩=>by rw [e];exact hb.sq) ?_ ?_⟩
  ·rintro i x σ H' hx ⟨v3,v4,rfl,rfl⟩
   obtain ⟨n,hn,rfl⟩:=G1 hx
   have ln:=hlt n (zt hn)
   have cs:∀j∈st.take i,j<c.by_.length:=fun j hj=>hlt j (List.mem_of_mem_take hj)
   have e1:((z0m c).map V.int)[n+1]?=some (.int (yG (js c n))):=by rw [Vc,GK ln];rfl
   have e2:((z0m c).map V.int)[JL c (st.take i)]?=some (.int (je c (st.take i):Int)):=by rw [Vc,z8t cs];rfl
   refine ⟨_,rfl,_,rfl,_,_,rfl,rfl,a,_,_,_,rfl,rfl,SqL.of ha,YA rfl e1,_,rfl,rfl,_,rfl,?_⟩
   have stay:(∀m,js c n=some m→je c (st.take i)≤m)→∃v3 v4:Option V,[some (.ref a),some (.ref b),some (.int ((JL c (st.take i):Nat):Int)),some (.int (n:Int)),some (.int (yG (js c n)))]=[some (.ref a),some (.ref b),some (.int ((JL c (st.take (i+1)):Nat):Int)),v3,v4]∧H'=H':=fun h=>by
    rw [Zr hn,(zaa h).1]
    exact ⟨_,_,rfl,rfl⟩
   cases hc:js c n with
   | none=>
    rw [hc] at stay
    exact iteF (iteF (stay (by intro m z;cases z)))
   | some m=>
    rw [hc] at stay
    have en:(!decide (V.int (yG (some m))=V.int (-1)))=true:=by
     have:¬V.int (yG (some m))=V.int (-1):=fun z=>by
      have z:(m:Int)=-1:=V.int.inj z
      omega
     simp [this]
    refine Zc (fun _=>?_) (fun h=>absurd en h)
    refine ⟨_,rfl,_,rfl,_,rfl,a,_,_,_,rfl,rfl,SqL.of ha,YA rfl e2,_,_,rfl,rfl,_,rfl,?_⟩
    refine Zc (fun h=>?_) (fun h=>?_)
    ·have h:m<je c (st.take i):=by
      have h:=of_decide_eq_true h
      have h:(m:Int)<(je c (st.take i):Int):=h
      omega
     refine ⟨_,rfl,_,_,rfl,rfl,?_⟩
     refine ⟨some (.int (n:Int)),some (.int (yG (some m))),?_,rfl⟩
     rw [Zr hn,(way_new hc h).1]
     rfl
    ·have h:¬m<je c (st.take i):=fun z=>h (decide_eq_true (show (m:Int)<(je c (st.take i):Int) by omega))
     exact stay (fun m' e=>by cases e;omega)
  ·rintro σ H' ⟨v3,v4,rfl,rfl⟩
   rw [yM,jO]
   exact ⟨_,rfl,hq⟩
end
def Wj (n:Nat):Int→List Int→Bool
 | _,[]=>true
 | lo,z::r=>if z<lo∨(n:Int)≤z then false else Wj n (z+1) r
theorem qf {n:Nat}:∀{l:List Int},(∀z∈l,0≤z∧z<(n:Int))→(l.mapM fun z=>if 0≤z∧z<YN n then some z.toNat else none)=some (l.map Yk)
 | [],_=>rfl
 | z::l,h=>by
  rw [List.mapM_cons,if_pos (show 0≤z∧z<YN n from h z zn),qf fun y hy=>h y (zg _ hy)]
  rfl
theorem z6h {n:Nat}:∀{l:List Int}{s:List Nat},(l.mapM fun z=>if 0≤z∧z<YN n then some z.toNat else none)=some s→∀z∈l,0≤z∧z<(n:Int)
 | z::l,s,h,y,hy=>by
  rw [List.mapM_cons] at h
  by_cases q:0≤z∧z<YN n
  ·rw [if_pos q] at h
   cases q2:(l.mapM fun z=>if 0≤z∧z<YN n then some z.toNat else none) with
   | none=>rw [q2] at h;cases h
   | some s2=>
    rcases zx.mp hy with rfl | hy
    ·exact q
    ·exact z6h q2 y hy
  ·rw [if_neg q] at h;cases h
theorem Uq {n:Nat}:∀{l:List Int}{lo:Int},0≤lo→(Wj n lo l=true↔((∀z∈l,0≤z∧z<(n:Int))∧JN (l.map Yk)=true∧∀z,l.head?=some z→lo≤z))
 | [],lo,_=>by simp [Wj,JN]
 | [z],lo,h=>by
  simp [Wj,JN]
  omega
 | z::y::l,lo,h=>by
  unfold Wj
  by_cases q:z<lo∨(n:Int)≤z
  ·rw [if_pos q]
   constructor
   ·intro z;cases z
   ·rintro ⟨h1,_,h3⟩
    have:=h1 z zn
    have:=h3 z rfl
    omega
  ·rw [if_neg q,Uq (l:=y::l) (lo:=z+1) (by omega)]
   constructor
   ·rintro ⟨h1,h2,h3⟩
    have h3:=h3 y rfl
    refine ⟨fun x hx=>?_,?_,fun x hx=>?_⟩
    ·rcases zx.mp hx with rfl | hx
     ·omega
     ·exact h1 x hx
    ·show (decide (z.toNat<y.toNat)&&JN ((y::l).map Yk))=true
     rw [h2,GQ]
     exact decide_eq_true (by omega)
    ·cases hx;omega
   ·rintro ⟨h1,h2,h3⟩
    have h2:(decide (z.toNat<y.toNat)&&JN ((y::l).map Yk))=true:=h2
    rw [ye] at h2
    refine ⟨fun x hx=>h1 x (zg _ hx),h2.2,fun x hx=>?_⟩
    cases hx
    have h4:=of_decide_eq_true h2.1
    have:=h1 z zn
    have:=h1 y (zg _ zn)
    omega
theorem zai {n:Nat}{l:List Int}(h:Wj n 0 l=true):JM n l=some (l.map Yk)∧l=(l.map Yk).map (fun (i:Nat)=>(i:Int))∧∀i∈l.map Yk,i<n:=by
 obtain ⟨h1,h2,_⟩:=(Uq (Int.le_refl 0)).mp h
 refine ⟨?_,?_,fun i hi=>?_⟩
 ·unfold JM
  rw [qf h1]
  show (if JN (l.map Yk)=true then some (l.map Yk) else none)=_
  rw [if_pos h2]
 ·rw [zI]
  conv=>lhs;rw [←List.map_id l]
  refine W3 fun z hz=>?_
  have:=h1 z hz
  show z=((z.toNat:Nat):Int)
  omega
 ·obtain ⟨z,hz,rfl⟩:=yr.mp hi
  have:=h1 z hz
  omega
theorem zaj {n:Nat}{l:List Int}(h:Wj n 0 l=false):JM n l=none:=by
 cases q:JM n l with
 | none=>rfl
 | some s=>
  exfalso
  unfold JM at q
  cases q2:(l.mapM fun z=>if 0≤z∧z<YN n then some z.toNat else none) with
  | none=>rw [q2] at q;cases q
  | some s2=>
   have h1:=z6h q2
   rw [qf h1] at q2
   rw [qf h1] at q
   have q:(if JN (l.map Yk)=true then some (l.map Yk) else none)=some s:=q
   split at q
   ·rename_i h2
    have:=(Uq (n:=n) (l:=l) (Int.le_refl 0)).mpr ⟨h1,h2,fun z hz=>(h1 z (List.mem_of_mem_head? hz)).1⟩
    rw [this] at h;cases h
   ·cases q
section
variable (L:List LT)(C:Adr)
inductive z4f (vs:List V)(H:Hp)(Q:VK)(_E:XK):Prop | mk (a:Addr) (l:List Int) (n:Nat) (_:vs=[.ref a,.int n]) (_:yt H a l) (_:Q (.bl (Wj n 0 l)) H)
inductive NewSets (H H':Hp)(p:Addr)(ss:List Set_):Prop | mk (as) (_:H' p=some (.lst (as.map V.ref))) (_:Ats (zj H') as ss) (_:∀a∈as,H a=none∧a≠p)
inductive z4g (vs:List V)(H:Hp)(Q:VK)(_E:XK):Prop | mk (a:Addr) (s:Set_) (n:Nat) (_:vs=[.ref a,.int n]) (_:zj H a s) (_:s.length≤1000) (_:(∀i∈s,i<n)) (_:n≤1000) (_:∀H' p,Kp L H H'→H p=none→NewSets H H' p (Jz n s)→Q (.ref p) H')
inductive UR (vs:List V)(H:Hp)(Q:VK)(_E:XK):Prop | mk (n:Nat) (_:vs=[.int n]) (_:n≤8) (_:∀H' p,Kp L H H'→H p=none→yZ zj H' p (jf n)→Q (.ref p) H')
inductive QV (vs:List V)(H:Hp)(Q:VK)(_E:XK):Prop | mk (b:Addr) (t:Table) (qs:List Qst) (l:List Offer) (r:Nat) (_:vs=[.ref b,.int r]) (_:yZ (Yo C t) H b l) (_:l.length≤8) (_:∀H' p,Kp L H H'→H p=none→yZ zj H' p (jH (problemOf t qs l) r)→Q (.ref p) H')
end
section
variable {P:Program}{w:World}{K:z4}{mg:Str→Option Value}{base:Heap}{L:List LT}{C:Adr}{k:Nat}{f:Addr}{fd:FuncData}
theorem Qi:zy ["costs","chosen","ways"] ["costs","chosen"] (zh z2C):=scp
theorem z7X (T:Txt K mg C)(F:Fun K "asking_cost" "asking_cost" z2C f fd)(cw:ya P w K mg base k "cheapest_way" ["ways","chosen"] VO):yT P w K mg base (k+1) ["costs","chosen"] (WY L) f:=by
 refine F.okN Qi (fun cdv A outer s H vs Q E hr h=>?_)
 ·obtain ⟨a,d,t,qs,l,st,rfl,⟨as,hS,hA⟩,hd,hql,hlt,hq⟩:=h
  refine ⟨_,z9 (zA (yq (z5c rfl) rfl T.bl z5d (z3 (Yy (own:=[("ways",2)]) (te:=tOp (rIxL K) (jc 2) (tCl VO E0 (j6 (jc 2) (j6 (jc 1) Yl)))) rfl Qi.nd (j7 (pv 0)) (yR (by kernel_rfl))
    (fun _ _ _ _ _=>yB (i:=2) Qi.nd rfl loc) (fun _ _ _ _ _=>Zm) (fun _ _ _ _ _=>Zt jl (pv 2) (yH cw hr rfl zL (z3 (pv 2) (z3 (pv 1) z7))) (fun _ _=>rfl))) z7))),?_⟩
  have hcl:(problemOf t qs l).costs.length≤1000:=by show (qs.map _).length≤_;rw [z0];exact hql
  have hby:∀c∈(problemOf t qs l).costs,c.by_.length=l.length:=fun c hc=>by
   obtain ⟨q,_,rfl⟩:=yr.mp (show c∈qs.map (costsOf t l) from hc)
   show (l.map _).length=_
   rw [z0]
  refine ⟨_,rfl,a,rfl,⟨_,SqL.of hS⟩,fun D hD=>jS (L:=L) ((problemOf t qs l).costs.map fun c=>some (V.int (je c st:Int))) (SqL.of hS) hD (by rw [z0,z0,hA.len]) ?_ ?_⟩
  ·rintro j x o H2 hx ho I
   obtain ⟨e,c,rfl,he,hc,re⟩:=hA.get hx
   have eo:=Z8 ho hc
   subst eo
   have mc:=zt hc
   have hs:∀i∈st,i<c.by_.length:=fun i hi=>by rw [hby c mc];exact hlt i hi
   refine ⟨rfl,Ya ⟨_,rfl,_,rfl,_,rfl,e,d,c,st,rfl,re.kp I.kp,hd.kp I.kp,hs,e,_,_,_,rfl,rfl,SqL.of (re.kp I.kp),YA rfl (by rw [Vc,z8t hs];rfl),?_⟩⟩
   exact I.yes hD (by rw [z0];exact J0 hcl) .refl ho
  ·intro H2 k2 h2
   rw [Yf] at h2
   refine ⟨D,(problemOf t qs l).costs.map fun c=>(je c st:Int),rfl,SqL.of (by rw [h2,zI];rfl),?_⟩
   have q1:=hq H2 k2
   have e1:((problemOf t qs l).costs.map fun c=>(je c st:Int)).sum=(Vk (problemOf t qs l) st:Int):=by
    unfold Vk
    rw [←z1Q,zI];rfl
   rw [←e1] at q1
   exact q1
theorem Gn:zy ["offers","chosen","number"] ["offers","chosen"] (zh Qk):=scp
theorem z4P (T:Txt K mg C)(F:Fun K "set_upkeep" "set_upkeep" Qk f fd):yT P w K mg base 1 ["offers","chosen"] (Wc L C) f:=by
 refine F.okN Gn (fun cdv A outer s H vs Q E hr h=>?_)
 ·obtain ⟨b,d,t,qs,l,st,rfl,⟨bs,hSb,hAb⟩,hd,hsl,hlt,hq⟩:=h
  refine ⟨_,z9 (zA (yq (z5c rfl) rfl T.bl z5d (z3 (Yy (own:=[("number",2)]) (te:=V5 K (tOp (rIxL K) (jc 0) (jc 2)) "upkeep") rfl Gn.nd (j7 (pv 1)) (yR (by kernel_rfl))
    (fun _ _ _ _ _=>yB (i:=2) Gn.nd rfl loc) (fun _ _ _ _ _=>Zm) (fun _ _ _ _ _=>zm (Zt jl (pv 0) (pv 2) (fun _ _=>rfl)) rfl)) z7))),?_⟩
  refine ⟨_,rfl,d,rfl,⟨_,hd.sq⟩,fun D2 hD2=>jS (L:=L) (st.map fun i=>some (V.int (((problemOf t qs l).upkeeps[i]?.getD 0:Nat):Int))) hd.sq hD2 (by rw [z0,yM]) ?_ ?_⟩
  ·rintro j x o H3 hx ho I
   obtain ⟨n,hn,rfl⟩:=G1 hx
   have eo:=Z8 ho hn
   subst eo
   have ln:=hlt n (zt hn)
   obtain ⟨e,he,dx,ia,re,_⟩:=hAb.get' (z8 ln)
   have eu:((problemOf t qs l).upkeeps[n]?.getD 0:Nat)=l[n].upkeep:=by
    show ((l.map fun o=>o.upkeep)[n]?).getD 0=_
    rw [zB,z8 ln];rfl
   refine ⟨rfl,Ya ⟨_,rfl,_,rfl,b,_,_,_,rfl,rfl,SqL.of (I.kp.lst hSb),YA rfl he,⟨_,_,_,_,_,rfl,I.kp.ins re,T.off.cl,T.off.nn,Wk,?_⟩⟩⟩
   rw [←eu]
   exact I.yes hD2 (by rw [z0];exact J0 hsl) .refl ho
  ·intro H3 k3 h3
   rw [Yf] at h3
   refine ⟨D2,st.map fun i=>(((problemOf t qs l).upkeeps[i]?.getD 0:Nat):Int),rfl,SqL.of (by rw [h3,zI];rfl),?_⟩
   have q1:=hq H3 k3
   have e2:(st.map fun i=>(((problemOf t qs l).upkeeps[i]?.getD 0:Nat):Int)).sum=(z3y (problemOf t qs l) st:Int):=by
    unfold z3y
    rw [←z1Q,zI];rfl
   rw [←e2] at q1
   exact q1
theorem z76:zy ["costs","offers","chosen"] ["costs","offers","chosen"] (zh z2y):=scp
theorem z7G (F:Fun K "set_cost" "set_cost" z2y f fd)(ac:ya P w K mg base k "asking_cost" ["costs","chosen"] (WY L))(su:ya P w K mg base k "set_upkeep" ["offers","chosen"] (Wc L C)):yT P w K mg base (k+1) ["costs","offers","chosen"] (ZC L C) f:=by
 refine F.okN z76 (fun cdv A outer s H vs Q E hr h=>?_)
 ·obtain ⟨a,b,d,t,qs,l,st,rfl,hC,hO,hd,hql,hsl,hlt,hq⟩:=h
  refine ⟨_,z9 (zA (jr Yd (yH ac hr rfl zL (z3 (pv 0) (z3 (pv 2) z7))) (yH su hr rfl zL (z3 (pv 1) (z3 (pv 2) z7))))),?_⟩
  refine ⟨_,rfl,_,rfl,a,d,t,qs,l,st,rfl,hC,hd,hql,hlt,fun H1 k1=>⟨_,rfl,_,rfl,b,d,t,qs,l,st,rfl,jN hO k1,hd.kp k1,hsl,hlt,fun H2 k2=>⟨_,_,rfl,rfl,?_⟩⟩⟩
  have q1:=hq H2 (k1.trans k2)
  unfold zH at q1
  rw [ZR] at q1
  exact q1
theorem Qe:zy ["offers","chosen","number"] ["offers","chosen"] (zh z2x):=scp
theorem z7F (T:Txt K mg C)(F:Fun K "set_room" "set_room" z2x f fd):yT P w K mg base 1 ["offers","chosen"] (JS L C) f:=by
 refine F.okN Qe (fun cdv A outer s H vs Q E hr h=>?_)
 ·obtain ⟨b,d,t,qs,l,st,rfl,⟨bs,hSb,hAb⟩,hd,hsl,hlt,hq⟩:=h
  refine ⟨_,z9 (zA (yq (z5c rfl) rfl T.bl z5d (z3 (Yy (own:=[("number",2)]) (te:=V5 K (tOp (rIxL K) (jc 0) (jc 2)) "room") rfl Qe.nd (j7 (pv 1)) (yR (by kernel_rfl))
    (fun _ _ _ _ _=>yB (i:=2) Qe.nd rfl loc) (fun _ _ _ _ _=>Zm) (fun _ _ _ _ _=>zm (Zt jl (pv 0) (pv 2) (fun _ _=>rfl)) rfl)) z7))),?_⟩
  refine ⟨_,rfl,d,rfl,⟨_,hd.sq⟩,fun D2 hD2=>jS (L:=L) (st.map fun i=>some (V.int (((problemOf t qs l).rooms[i]?.getD 0:Nat):Int))) hd.sq hD2 (by rw [z0,yM]) ?_ ?_⟩
  ·rintro j x o H3 hx ho I
   obtain ⟨n,hn,rfl⟩:=G1 hx
   have eo:=Z8 ho hn
   subst eo
   have ln:=hlt n (zt hn)
   obtain ⟨e,he,dx,ia,re,_⟩:=hAb.get' (z8 ln)
   have eu:((problemOf t qs l).rooms[n]?.getD 0:Nat)=yn t l[n].index:=by
    show ((l.map fun o=>yn t o.index)[n]?).getD 0=_
    rw [zB,z8 ln];rfl
   refine ⟨rfl,Ya ⟨_,rfl,_,rfl,b,_,_,_,rfl,rfl,SqL.of (I.kp.lst hSb),YA rfl he,⟨_,_,_,_,_,rfl,I.kp.ins re,T.off.cl,T.off.nn,qb,?_⟩⟩⟩
   rw [←eu]
   exact I.yes hD2 (by rw [z0];exact J0 hsl) .refl ho
  ·intro H3 k3 h3
   rw [Yf] at h3
   refine ⟨D2,st.map fun i=>(((problemOf t qs l).rooms[i]?.getD 0:Nat):Int),rfl,SqL.of (by rw [h3,zI];rfl),?_⟩
   have q1:=hq H3 k3
   have e2:(st.map fun i=>(((problemOf t qs l).rooms[i]?.getD 0:Nat):Int)).sum=(yk (problemOf t qs l) st:Int):=by
    unfold yk
    rw [←z1Q,zI];rfl
   rw [←e2] at q1
   exact q1
theorem z03:zy ["numbers","count","lowest","number"] ["numbers","count"] (zh z7l):=scp
theorem zaA (F:Fun K "is_set" "is_set" z7l f fd):yT P w K mg base 1 ["numbers","count"] z4f f:=by
 refine F.okN z03 (fun cdv A outer s H vs Q E hr h=>?_)
 ·obtain ⟨a,l,n,rfl,ha,hq⟩:=h
  refine ⟨_,z6 (zK (i:=2) z03.nd rfl loc yb)
   (z6 (Vo ji rfl (j7 (pv 0)) (yB (i:=3) z03.nd rfl loc)
    (z6 (jb (PW.pt (qK (zZ VT (pv 3) (pv 2) (yj _)) (WD (zZ z5Y (pv 3) (pv 1) (yj _))))) (z9 (zA z1p)) yp)
    (z9 (zK (i:=2) z03.nd rfl loc (jr Yd (pv 3) yb)))))
   (z9 (zA z1p))),?_⟩
  refine ⟨_,rfl,a,rfl,⟨_,SqL.of ha⟩,Vd (K:=K) (a:=a) (xs:=l.map V.int) (fun i σ H'=>∃(lo:Int) (v3:Option V),Wj n 0 l=Wj n lo (l.drop i)∧σ=[some (.ref a),some (.int (n:Int)),some (.int lo),v3]∧H'=H) ⟨0,none,rfl,rfl,rfl⟩ (fun i σ H' _ ⟨_,_,_,_,e⟩=>by rw [e];exact SqL.of ha) ?_ ?_⟩
  ·rintro i x σ H' hx ⟨lo,v3,eo,rfl,rfl⟩
   obtain ⟨z,hz,rfl⟩:∃z,l[i]?=some z∧x=.int z:=by
    rw [Vc] at hx
    cases q:l[i]? with
    | none=>rw [q] at hx;cases hx
    | some z=>rw [q] at hx;exact ⟨z,rfl,(zG hx).symm⟩
   have lt:i<l.length:=(zo.mp hz).1
   have ed:l.drop i=z::l.drop (i+1):=by
    rw [jj lt]
    congr 1
    exact (zo.mp hz).2
   rw [ed,Wj] at eo
   refine ⟨_,rfl,_,rfl,_,_,rfl,rfl,_,rfl,?_⟩
   refine Zc (fun h=>?_) (fun h=>?_)
   ·have h:=of_decide_eq_true h
    rw [if_pos (.inl h)] at eo
    rw [eo] at hq
    exact z1I hq
   ·refine ⟨_,rfl,_,rfl,_,_,rfl,rfl,_,rfl,?_⟩
    have h:¬z<lo:=fun y=>h (decide_eq_true y)
    refine Zc (fun h2=>?_) (fun h2=>?_)
    ·have h2:=of_decide_eq_true h2
     rw [if_pos (.inr h2)] at eo
     rw [eo] at hq
     exact hq
    ·have h2:¬(n:Int)≤z:=fun y=>h2 (decide_eq_true y)
     rw [if_neg (by intro y;exact y.elim h h2)] at eo
     exact ⟨_,rfl,_,_,rfl,rfl,z+1,_,eo,rfl,rfl⟩
  ·rintro σ H' ⟨lo,v3,eo,rfl,rfl⟩
   rw [z0,Vu,Wj] at eo
   rw [eo] at hq
   exact hq
end
theorem Ats.app {α:Type}{R:Addr→α→Prop}{as bs:List Addr}{ds es:List α}(h:Ats R as ds)(g:Ats R bs es):Ats R (as++bs) (ds++es):=by
 refine ⟨by rw [za,za,h.len,g.len],fun i a d x y=>?_⟩
 by_cases q:i<as.length
 ·rw [jx q] at x
  rw [jx (by rw [←h.len];exact q)] at y
  exact h.at_ i a d x y
 ·have hl:=h.len
  rw [ZB (Vx q)] at x
  rw [ZB (by omega),←hl] at y
  exact g.at_ _ a d x y
theorem Ats.mem {α:Type}{R R':Addr→α→Prop}{as:List Addr}{ds:List α}(h:Ats R as ds)(k:∀a d,a∈as→R a d→R' a d):Ats R' as ds:=⟨h.len,fun i a d x y=>k a d (zt x) (h.at_ i a d x y)⟩
theorem z2f (n:Nat):∀(m a:Nat),a+m=n→(ZN a n).length=m
 | 0,a,h=>by rw [WR (by omega)];rfl
 | m+1,a,h=>by rw [ZD n a (by omega),zu,z2f n m (a+1) (by omega)]
theorem z2g (n:Nat):∀(m a i:Nat),a+m=n→i<m→(ZN a n)[i]?=some (a+i)
 | m+1,a,0,h,_=>by rw [ZD n a (by omega)];rfl
 | m+1,a,i+1,h,hi=>by
  rw [ZD n a (by omega),z6P,z2g n m (a+1) i (by omega) (by omega)]
  congr 1;omega
def Zh (s:Set_):Nat:=match s.getLast? with | some a=>a+1 | none=>0
theorem Qz {n:Nat}{s:Set_}(h:∀i∈s,i<n):Zh s≤n:=by
 unfold Zh
 cases q:s.getLast? with
 | none=>exact zk _
 | some a=>exact h a (za4 q)
theorem z9Q {n i:Nat}{s:Set_}(h:∀j∈s,j<n)(hi:i<n - Zh s):(Jz n s)[i]?=some (s++[Zh s+i]):=by
 have:=Qz h
 show ((ZN (Zh s) n).map fun j=>s++[j])[i]?=_
 rw [zB,z2g n (n - Zh s) (Zh s) i (by omega) hi];rfl
theorem z9P {n:Nat}{s:Set_}(h:∀j∈s,j<n):(Jz n s).length=n - Zh s:=by
 have:=Qz h
 show ((ZN (Zh s) n).map fun j=>s++[j]).length=_
 rw [z0,z2f n (n - Zh s) (Zh s) (by omega)]
section
variable {P:Program}{w:World}{K:z4}{mg:Str→Option Value}{base:Heap}{L:List LT}{C:Adr}{k:Nat}{f:Addr}{fd:FuncData}
theorem z04:zy ["chosen","count","first","number"] ["chosen","count"] (zh z7m):=scp
theorem zaC (T:Txt K mg C)(F:Fun K "grown_sets" "grown_sets" z7m f fd):yT P w K mg base 1 ["chosen","count"] (z4g L) f:=by
 refine F.okN z04 (fun cdv A outer s H vs Q E hr h=>?_)
 ·obtain ⟨a,st,n,rfl,ha,hsl,hlt,hn,hq⟩:=h
  refine ⟨_,z6 (zK (i:=2) z04.nd rfl loc (z2M (zZ Up (yq y6 rfl T.bl jt (z3 (pv 0) z7)) yb (yj _)) (jr Yd (Zt jl (pv 0) (pe_un zab yb) (fun _ _=>rfl)) yb) yb))
   (z9 (zA (Yy (own:=[("number",3)]) rfl z04.nd (z9p rfl T.bl (z3 (pv 2) (z3 (pv 1) z7))) (yR (by kernel_rfl))
    (fun _ _ _ _ _=>yB (i:=3) z04.nd rfl loc) (fun _ _ _ _ _=>Zm) (fun _ _ _ _ _=>jr Jv (pv 0) (yy (z3 (pv 3) z7)))))),?_⟩
  have hf:=Qz hlt
  refine ⟨_,rfl,a,_,rfl,.inl ha.sq,_,_,rfl,rfl,_,rfl,?_⟩
  refine Zc (fun h=>?_) (fun h=>?_)
  case' refine_1=>
   have h:st≠[]:=fun z=>by
    subst z
    have h:=of_decide_eq_true h
    have h:(0:Int)<(0:Int):=h
    omega
   obtain ⟨b,hb⟩:∃b,st.getLast?=some b:=⟨_,Ys h⟩
   have e1:atI (yJ st) (-1)=some (.int (b:Int)):=by
    have e:st=st.dropLast++[b]:=by
     have h2:st.getLast h=b:=by rw [Ys h] at hb;exact zG hb
     rw [←h2]
     exact (Zo h).symm
    have e2:yJ st=yJ st.dropLast++[V.int (b:Int)]:=by
     conv=>lhs;rw [e]
     unfold yJ
     rw [zw];rfl
    rw [e2]
    exact z6z _ _
   have e2:Zh st=b+1:=by unfold Zh;rw [hb]
   have hbn:b<n:=hlt b (za4 hb)
   refine ⟨_,rfl,_,rfl,a,_,_,_,rfl,rfl,ha.sq,e1,_,_,rfl,rfl,?_⟩
   refine ⟨_,rfl,_,rfl,_,_,rfl,⟨by omega,by omega,by omega,by omega⟩,fun D hD=>?_⟩
   rw [show ((b:Int)+1)=((Zh st:Nat):Int) by rw [e2];rfl]
  case' refine_2=>
   have e2:Zh st=0:=by
    cases st with
    | nil=>rfl
    | cons x l=>exact absurd (decide_eq_true (show (0:Int)<((yJ (x::l)).length:Int) by rw [yM,zu];omega)) h
   refine ⟨_,rfl,_,rfl,_,_,rfl,⟨by omega,by omega,by omega,by omega⟩,fun D hD=>?_⟩
   rw [show (0:Int)=((Zh st:Nat):Int) by rw [e2];rfl]
  all_goals
   have em:((n:Int) - (Zh st:Int)).toNat=n - Zh st:=by omega
   rw [em]
   refine lc_accR (L:=L) (fun i ys H'=>∃as,ys=as.map V.ref∧Ats (zj H') as ((Jz n st).take i)∧∀a∈as,H a=none∧a≠D) hD ⟨[],rfl,.nil,fun a h=>by cases h⟩ ?_ ?_
   ·intro i H2 hi I
    have ha2:=ha.kp I.kp
    refine ⟨rfl,Ya ⟨_,rfl,_,rfl,(by show 1≤sizeLine;decide),fun l1 n1=>?_⟩⟩
    have k1:Kp L H2 (upd H2 l1 (.lst [V.int ((Zh st:Int)+(i:Int))])):=Kp.refl.new n1
    refine ⟨a,l1,_,_,rfl,rfl,ha2.kp k1,z5,?_,fun p np=>?_⟩
    ·rw [yM]
     show st.length+1≤sizeLine
     have:(2000:Nat)≤sizeLine:=by decide
     omega
    ·have k2:=k1.new (o:=.lst (yJ st++[V.int ((Zh st:Int)+(i:Int))])) np
     refine I.yes hD (zW (zW hi (Nat.sub_le _ _)) (J0 hn)) k2 fun ys e1 e2 ⟨as,ey,hA,hf⟩=>?_
     subst ey
     have pD:p≠D:=fun z=>by rw [z,k1.lst e1] at np;cases np
     refine ⟨as++[p],by rw [zw];rfl,?_,fun y hy=>?_⟩
     ·rw [Zr (z9Q hlt hi)]
      refine Ats.snoc (Ats.mem hA fun y d hy r=>?_) ?_
      ·unfold zj
       rw [zl (hf y hy).2]
       exact zj.kp r k2
      ·unfold zj
       rw [zl pD,z5]
       unfold yJ
       rw [zw]
       rfl
     ·rcases zQ.mp hy with hy | hy
      ·exact hf y hy
      ·rw [zi.mp hy]
       exact ⟨I.kp.free (k1.free np),pD⟩
   ·intro H2 ys k2 h2 ⟨as,ey,hA,hf⟩
    subst ey
    rw [←z9P hlt,jO] at hA
    exact hq H2 D k2 hD ⟨as,h2,hA,hf⟩
end
def UF (n k:Nat):List Set_:=(zf k).flatMap fun j=>yz j (zf n)
theorem z3b (n k:Nat):UF n (k+1)=UF n k++yz k (zf n):=by
 unfold UF
 rw [List.range_succ,Jc]
 simp
theorem z1c {n k:Nat}(h:n≤8):(yz k (zf n)).length≤256:=by
 refine zd (V3 _ k) ?_
 rw [yA]
 exact VL (by decide) h
theorem G5 {n:Nat}(h:n≤8):∀k:Nat,(UF n k).length≤k * 256
 | 0=>by unfold UF;simp
 | k+1=>by
  rw [z3b,za,z96]
  have:=G5 h k
  have:=z1c (n:=n) (k:=k) h
  omega
section
variable {P:Program}{w:World}{K:z4}{mg:Str→Option Value}{base:Heap}{L:List LT}{C:Adr}{k:Nat}{f:Addr}{fd:FuncData}
theorem JU:zy ["count","sets","same_size","larger","chosen"] ["count"] (zh z2z):=scp
theorem z7P (T:Txt K mg C)(F:Fun K "sets_in_order" "sets_in_order" z2z f fd)(gs:ya P w K mg base k "grown_sets" ["chosen","count"] (z4g L)):yT P w K mg base (k+1) ["count"] (UR L) f:=by
 refine F.okN JU (fun cdv A outer s H vs Q E hr h=>?_)
 ·obtain ⟨n,rfl,hn,hq⟩:=h
  refine ⟨_,z6 (zK (i:=1) JU.nd rfl loc (yy z7))
   (z6 (zK (i:=2) JU.nd rfl loc (yy (z3 (yy z7) z7)))
   (z6 (Uk ji (zZ Up (yq y6 rfl T.bl jt (z3 (pv 2) z7)) yb (yj _))
    (z6 (Z4 (Ju zF jE jD JY (pv 1) (z3 (pv 2) z7)))
    (z6 (zK (i:=3) JU.nd rfl loc (yy z7))
    (z6 (Vo ji rfl (j7 (pv 2)) (yB (i:=4) JU.nd rfl loc)
     (z9 (Z4 (Ju zF jE jD JY (pv 3) (z3 (yH gs hr rfl zL (z3 (pv 4) (z3 (pv 0) z7))) z7)))))
    (z9 (zK (i:=2) JU.nd rfl loc (pv 3)))))))
   (z9 (zA (pv 1))))),?_⟩
  refine ⟨zk _,fun l nl=>⟨zk _,fun e0 ne0=>⟨(by show 1≤sizeLine;decide),fun m nm=>?_⟩⟩⟩
  have kl:Kp L H (upd H l (.lst [])):=Kp.refl.new nl
  have ke:=kl.new (o:=.lst []) ne0
  have km:=ke.new (o:=.lst [.ref e0]) nm
  have el:e0≠l:=fun z=>by rw [z,z5] at ne0;cases ne0
  have ml:m≠l:=fun z=>by rw [z,zl (j1 el),z5] at nm;cases nm
  have me:m≠e0:=fun z=>by rw [z,z5] at nm;cases nm
  refine ⟨fun d σ H'=>∃(j:Nat) (m:Addr) (v3 v4:Option V) (as bs:List Addr),d=n+1 - j∧j≤n+1∧σ=[some (.int (n:Int)),some (.ref l),some (.ref m),v3,v4]∧Kp L H H'∧H' l=some (.lst (as.map V.ref))∧H' m=some (.lst (bs.map V.ref))∧
   Ats (zj H') as (UF n j)∧Ats (zj H') bs (yz j (zf n))∧(∀a∈as,a≠l)∧(∀a∈bs,a≠l)∧m≠l,⟨_,0,m,none,none,[],[e0],rfl,zk _,rfl,km,?_,z5,.nil,?_,(fun a h=>by cases h),(fun a h=>by rw [zi.mp h];exact el),ml⟩,?_⟩
  ·rw [zl (j1 ml),zl (j1 el),z5];rfl
  ·rw [show yz 0 (zf n)=[[]] by simp [yz]]
   refine Ats.snoc (as:=[]) (ds:=[]) .nil ?_
   unfold zj
   rw [zl (j1 me),z5];rfl
  ·rintro d σ H' ⟨j,m,v3,v4,as,bs,rfl,hj,rfl,k1,hl,hm,hA,hB,nas,nbs,ml⟩
   have hbl:(bs.map V.ref).length=(yz j (zf n)).length:=by rw [z0,hB.len]
   refine ⟨_,rfl,m,_,rfl,.inl (SqL.of hm),_,_,rfl,rfl,_,rfl,?_⟩
   refine Zc (fun h=>?_) (fun h=>?_)
   ·
    have hjn:j≤n:=by
     rcases z29 n j with z | z
     ·have e:=z3P.mpr z
      rw [hbl,e] at h
      have h:=of_decide_eq_true h
      have h:(0:Int)<(0:Int):=h
      omega
     ·exact z
    refine ⟨fun σ' H''=>∃(m:Addr) (v3 v4:Option V) (as bs:List Addr),σ'=[some (.int (n:Int)),some (.ref l),some (.ref m),v3,v4]∧Kp L H H''∧H'' l=some (.lst (as.map V.ref))∧H'' m=some (.lst (bs.map V.ref))∧
     Ats (zj H'') as (UF n (j+1))∧Ats (zj H'') bs (yz (j+1) (zf n))∧(∀a∈as,a≠l)∧(∀a∈bs,a≠l)∧m≠l,fun σ' H'' ⟨m,v3,v4,as,bs,x1,x2,x3,x4,x5,x6,x7,x8,x9⟩=>⟨n+1 - (j+1),by omega,j+1,m,v3,v4,as,bs,rfl,by omega,x1,x2,x3,x4,x5,x6,x7,x8,x9⟩,?_⟩
    have hAl:=hA.len
    have hBl:=hB.len
    have l1:=G5 hn j
    have l2:=z1c (n:=n) (k:=j) hn
    have big:(16000:Nat)≤sizeLine:=by decide
    refine ⟨_,rfl,.inl ⟨rfl,_,SqL.of hl⟩,_,rfl,l,m,_,_,rfl,rfl,hl,hm,by rw [z0,z0];omega,?_⟩
    have kl1:Kp L H (upd H' l (.lst (as.map V.ref++bs.map V.ref))):=k1.putL nl hl
    have hA1:Ats (zj (upd H' l (.lst (as.map V.ref++bs.map V.ref)))) as (UF n j):=Ats.mem hA fun a d ha r=>by unfold zj;rw [zl (nas a ha)];exact r
    have hB1:Ats (zj (upd H' l (.lst (as.map V.ref++bs.map V.ref)))) bs (yz j (zf n)):=Ats.mem hB fun a d ha r=>by unfold zj;rw [zl (nbs a ha)];exact r
    have hm1:(upd H' l (.lst (as.map V.ref++bs.map V.ref))) m=some (.lst (bs.map V.ref)):=by rw [zl ml];exact hm
    have hl1:(upd H' l (.lst (as.map V.ref++bs.map V.ref))) l=some (.lst ((as++bs).map V.ref)):=by rw [z5,zw]
    generalize upd H' l (.lst (as.map V.ref++bs.map V.ref))=H1 at kl1 hA1 hB1 hm1 hl1
    refine ⟨zk _,fun r nr=>?_⟩
    have kr:Kp L H1 (upd H1 r (.lst [])):=Kp.refl.new nr
    refine ⟨_,rfl,m,rfl,⟨_,SqL.of (kr.lst hm1)⟩,Vd (K:=K) (a:=m) (xs:=bs.map V.ref) (fun i σ H3=>∃(v4:Option V) (cs:List Addr),σ=[some (.int (n:Int)),some (.ref l),some (.ref m),some (.ref r),v4]∧Kp L H1 H3∧H3 r=some (.lst (cs.map V.ref))∧
     Ats (zj H3) cs (((yz j (zf n)).take i).flatMap (Jz n))∧∀a∈cs,H1 a=none∧a≠r) ⟨v4,[],rfl,kr,z5,.nil,fun a h=>by cases h⟩ (fun i σ H3 _ ⟨_,_,_,k,_⟩=>SqL.of (k.lst hm1)) ?_ ?_⟩
    ·rintro i x σ H3 hx ⟨v4,cs,rfl,k3,hr3,hC,ncs⟩
     obtain ⟨a,st,rfl,ha,hst,ra⟩:=hB1.get hx
     have ms:=z8x (zt hst)
     refine ⟨_,rfl,.inl ⟨rfl,_,SqL.of hr3⟩,_,rfl,_,rfl,a,st,n,rfl,zj.kp ra k3,by omega,ms.2.1,by omega,fun H4 p k4 np ⟨gs,hp,hG,ngs⟩=>?_⟩
     have hr4:=k4.lst hr3
     have tlen:(((yz j (zf n)).take (i+1)).flatMap (Jz n)).length≤256:=by
      have e:(((yz j (zf n)).take (i+1)).flatMap (Jz n)).length≤((yz j (zf n)).flatMap (Jz n)).length:=by
       conv=>rhs;rw [←List.take_append_drop (i+1) (yz j (zf n))]
       rw [Jc,za]
       omega
      rw [z2U] at e
      exact zd e (z1c hn)
     have et:((yz j (zf n)).take (i+1)).flatMap (Jz n)=((yz j (zf n)).take i).flatMap (Jz n)++Jz n st:=by
      rw [Zr hst,Jc];simp
     have hlen:cs.length+gs.length≤256:=by
      rw [et,za,←hC.len,←hG.len] at tlen
      exact tlen
     refine ⟨r,p,_,_,rfl,rfl,hr4,hp,by rw [z0,z0];omega,?_⟩
     have gr:∀y∈gs,y≠r:=fun y hy z=>by have:=(ngs y hy).1;rw [z,hr3] at this;cases this
     refine ⟨_,cs++gs,rfl,(k3.trans k4).putL nr hr4,by rw [z5,zw],?_,fun y hy=>?_⟩
     ·rw [et]
      refine Ats.app (Ats.mem hC fun y d hy ry=>?_) (Ats.mem hG fun y d hy ry=>?_)
      ·unfold zj;rw [zl (ncs y hy).2];exact zj.kp ry k4
      ·unfold zj;rw [zl (gr y hy)];exact ry
     ·rcases zQ.mp hy with hy | hy
      ·exact ncs y hy
      ·exact ⟨k3.free (ngs y hy).1,gr y hy⟩
    ·rintro σ H3 ⟨v4,cs,rfl,k3,hr3,hC,ncs⟩
     rw [hbl,jO,z2U] at hC
     have lr:r≠l:=fun z=>by rw [z,hl1] at nr;cases nr
     refine ⟨_,rfl,?_⟩
     refine ⟨r,_,_,as++bs,cs,rfl,kl1.trans k3,k3.lst hl1,hr3,?_,hC,fun a ha=>?_,fun a ha z=>?_,lr⟩
     ·rw [z3b]
      exact (Ats.app hA1 hB1).imp fun _ _ r=>zj.kp r k3
     ·rcases zQ.mp ha with ha | ha
      ·exact nas a ha
      ·exact nbs a ha
     ·have:=(ncs a ha).1
      rw [z,hl1] at this;cases this
   ·
    have hjn:j=n+1:=by
     rcases z29 n j with z | z
     ·omega
     ·exfalso
      have e:yz j (zf n)≠[]:=fun y=>by have:=z3P.mp y;omega
      refine h (decide_eq_true (show (0:Int)<((bs.map V.ref).length:Int) from ?_))
      rw [hbl]
      have:=z0y.mpr e
      omega
    subst hjn
    exact ⟨_,rfl,hq H' l k1 nl ⟨as,hl,hA⟩⟩
theorem z0U:zy ["offers","room","chosen"] ["offers","room"] (zh z4p):=scp
theorem z9q (T:Txt K mg C)(F:Fun K "sets_within" "sets_within" z4p f fd)(so:ya P w K mg base k "sets_in_order" ["count"] (UR L))(sr:ya P w K mg base k "set_room" ["offers","chosen"] (JS L C)) :
  yT P w K mg base (k+1) ["offers","room"] (QV L C) f:=by
 refine F.okN z0U (fun cdv A outer s H vs Q E hr h=>?_)
 ·obtain ⟨b,t,qs,l,r,rfl,hO,hl,hq⟩:=h
  obtain ⟨os,hS,hA⟩:=id hO
  refine ⟨_,z9 (zA (Yy (own:=[("chosen",2)]) rfl z0U.nd (j7 (yH so hr rfl zL (z3 (yq y6 rfl T.bl jt (z3 (pv 0) z7)) z7))) (yR (by kernel_rfl))
   (fun _ _ _ _ _=>yB (i:=2) z0U.nd rfl loc) (fun _ _ _ _ _=>YK (zZ z2N (yH sr hr rfl zL (z3 (pv 0) (z3 (pv 2) z7))) (pv 1) (yj _))) (fun _ _ _ _ _=>pv 2))),?_⟩
  have hol:(os.map V.ref).length=l.length:=by rw [z0,hA.len]
  refine ⟨_,rfl,b,_,rfl,.inl (SqL.of hS),l.length,by rw [hol],hl,fun H1 p1 k1 n1 ⟨as,hp1,hA1⟩=>?_⟩
  have al:(jf l.length).length≤9 * 256:=by
   have:=G5 hl (l.length+1)
   have e:UF l.length (l.length+1)=jf l.length:=rfl
   rw [e] at this
   refine zd this (YY _ (by omega))
  have big:(9 * 256:Nat)≤sizeLine:=by decide
  refine ⟨p1,rfl,⟨_,SqL.of hp1⟩,fun D hD=>jS (L:=L) ((as.zip (jf l.length)).map fun x=>if decide (yk (problemOf t qs l) x.2≤r)=true then some (V.ref x.1) else none) (SqL.of hp1) hD (by rw [z0,z0,j2,←hA1.len,J7]) ?_ ?_⟩
  ·rintro j x o H2 hx ho I
   obtain ⟨a,st,rfl,ha,hst,ra⟩:=hA1.get hx
   have eo:=Z8 ho (UN ha hst)
   have ms:=z0t (zt hst)
   have k2:=k1.trans I.kp
   refine ⟨rfl,_,rfl,_,rfl,b,a,t,qs,l,st,rfl,jN hO k2,zj.kp ra I.kp,by omega,ms.2.1,fun H3 k3=>?_⟩
   refine ⟨_,rfl,_,_,rfl,rfl,_,rfl,?_⟩
   have hd:decide ((yk (problemOf t qs l) st:Int)≤(r:Int))=decide (yk (problemOf t qs l) st≤r):=by
    rw [y8];simp
   rw [hd]
   refine Zc (fun h1=>?_) (fun h1=>?_)
   ·rw [if_pos h1] at eo
    subst eo
    exact ⟨_,rfl,I.yes hD (by rw [z0,j2];exact zd (ZA _ _) (zd al big)) k3 ho⟩
   ·rw [if_neg h1] at eo
    subst eo
    exact I.no k3 ho
  ·intro H2 k2 h2
   rw [Wm (p:=fun x:Addr×Set_=>decide (yk (problemOf t qs l) x.2≤r))] at h2
   refine hq H2 D (k1.trans k2) (k1.free hD) ⟨((as.zip (jf l.length)).filter fun x=>decide (yk (problemOf t qs l) x.2≤r)).map (·.1),by rw [h2,zI];rfl,?_⟩
   have e:jH (problemOf t qs l) r=(jf l.length).filter fun s=>decide (yk (problemOf t qs l) s≤r):=by
    unfold jH zN
    show (jf (l.map fun o=>o.upkeep).length).filter _=_
    rw [z0]
   rw [e]
   exact (Ats.pick (fun s:Set_=>decide (yk (problemOf t qs l) s≤r)) hA1).imp fun _ _ r=>zj.kp r k2
end
theorem qL {t:Table}{qs:List Qst}{l:List Offer}:zN (problemOf t qs l)=l.length:=z0 _
theorem zaQ {a b:Nat}:decide (V.int (a:Int)=V.int (b:Int))=(a==b):=by
 rw [y8];simp;omega
theorem Uw {c A B:Prop}[Decidable c](hc:c)(h:A):if c then A else B:=by rw [if_pos hc];exact h
theorem GV {c A B:Prop}[Decidable c](hc:¬c)(h:B):if c then A else B:=by rw [if_neg hc];exact h
theorem z9Y {α:Type}{R:Addr→α→Prop}{l:List (Addr×α)}(h:∀x∈l,R x.1 x.2):Ats R (l.map WI) (l.map YW):=by
 refine ⟨by rw [z0,z0],fun i a d ha hd=>?_⟩
 rw [zB] at ha hd
 cases q:l[i]? with
 | none=>rw [q] at ha;cases ha
 | some x=>
  rw [q] at ha hd
  cases ha;cases hd
  exact h x (zt q)
theorem z5e {α:Type}{R:Addr→α→Prop}{as:List Addr}{ds:List α}(h:Ats R as ds):∀x∈as.zip ds,R x.1 x.2:=fun x hx=>by
 obtain ⟨i,hi⟩:=List.mem_iff_getElem?.mp hx
 obtain ⟨h1,h2⟩:=Ga.mp hi
 exact h.at_ i _ _ h1 h2
section
variable (L:List LT)(C:Adr)
inductive V6 (vs:List V)(H:Hp)(Q:VK)(_E:XK):Prop | mk (a b:Addr) (t:Table) (qs:List Qst) (l:List Offer) (r:Nat) (_:vs=[.ref a,.ref b,.int r]) (_:yZ jG H a (problemOf t qs l).costs) (_:yZ (Yo C t) H b l) (_:qs.length≤1000) (_:l.length≤8) (_:∀H' p,Kp L H H'→H p=none→yZ zj H' p (yD (problemOf t qs l) r)→Q (.ref p) H')
end
section
variable {P:Program}{w:World}{K:z4}{mg:Str→Option Value}{base:Heap}{L:List LT}{C:Adr}{k:Nat}{f:Addr}{fd:FuncData}
theorem ZI:zy ["costs","offers","room","sets","set_costs","least","chosen","cost"] ["costs","offers","room"] (zh Qr):=scp
theorem z4X (T:Txt K mg C)(F:Fun K "least_sets" "least_sets" Qr f fd)(sw:ya P w K mg base k "sets_within" ["offers","room"] (QV L C))
  (sc:ya P w K mg base k "set_cost" ["costs","offers","chosen"] (ZC L C)):yT P w K mg base (k+1) ["costs","offers","room"] (V6 L C) f:=by
 refine F.okN ZI (fun cdv A outer s H vs Q E hr h=>?_)
 ·obtain ⟨a,b,t,qs,l,r,rfl,hC,hO,hq6,hl8,hq⟩:=h
  refine ⟨_,z6 (zK (i:=3) ZI.nd rfl loc (yH sw hr rfl zL (z3 (pv 1) (z3 (pv 2) z7))))
   (z6 (VS (i:=4) (own:=[("chosen",6)]) (te:=tCl (ZC L C) E0 (j6 (jc 0) (j6 (jc 1) (j6 (jc 6) Yl)))) rfl ZI.nd rfl rfl (Wa rfl rfl rfl rfl) (j7 (pv 3)) (yR (by kernel_rfl))
     (fun _ _ _ _ _=>yB (i:=6) ZI.nd rfl loc) (fun _ _ _ _ _=>Zm) (fun _ _ _ _ _=>yH sc hr rfl zL (z3 (pv 0) (z3 (pv 1) (z3 (pv 6) z7)))))
   (z6 (zK (i:=5) ZI.nd rfl (z3z rfl) (yq (zb4 rfl) rfl T.bl z8f (z3 (pv 4) z7)))
   (z9 (zA (Yy (own:=[("chosen",6),("cost",7)]) (g:=gTup K 2 (z6t (VX 6) (z6t (VX 7) gNil))) (te:=jc 6) rfl ZI.nd (pi_zip rfl T.bl (z3 (pv 3) (z3 (pv 4) z7))) (yR (by kernel_rfl))
     (fun _ _ _ _ _=>z4C rfl (Vb (yB (i:=6) ZI.nd rfl loc) (Vb (yB (i:=7) ZI.nd rfl loc) z1W))) (fun _ _ _ _ _=>YK (zZ Zz (pv 7) (pv 5) (yj _))) (fun _ _ _ _ _=>pv 6)))))),?_⟩
  have hsz:zN (problemOf t qs l)≤8:=by rw [qL];exact hl8
  refine ⟨_,rfl,_,rfl,b,t,qs,l,r,rfl,hO,hl8,fun H2 p2 k2 n2 ⟨as,h2,hA2⟩=>?_⟩
  have hwl:=qW (p:=problemOf t qs l) (room:=r) hsz
  have big:(10000:Nat)≤sizeLine:=by decide
  generalize hW:jH (problemOf t qs l) r=W at hA2
  rw [hW] at hwl
  refine ⟨_,rfl,p2,rfl,⟨_,SqL.of h2⟩,fun D hD=>jS (L:=L) (W.map fun s=>some (V.int (zH (problemOf t qs l) s:Int))) (SqL.of h2) hD (by rw [z0,z0,hA2.len]) ?_ ?_⟩
  ·rintro j y o H3 hy ho I
   obtain ⟨e,x,rfl,hb,hx,rb⟩:=hA2.get hy
   have eo:=Z8 ho hx
   subst eo
   have mx:x∈W:=zt hx
   rw [←hW] at mx
   have ms:=z0t (yg.mp mx).1
   have k3:=k2.trans I.kp
   have hsl:x.length≤1000:=by have:=ms.2.2;omega
   refine ⟨rfl,Ya ⟨_,rfl,_,rfl,_,rfl,a,b,e,t,qs,l,x,rfl,jC hC k3,jN hO k3,zj.kp rb I.kp,hq6,hsl,fun i hi=>by have:=ms.2.1 i hi;rw [qL] at this;exact this,fun H4 k4=>?_⟩⟩
   exact I.yes hD (by rw [z0];omega) k4 ho
  ·intro H3 k3 h3
   rw [Yf] at h3
   have h3:zj H3 D (W.map (zH (problemOf t qs l))):=by
    unfold zj yJ
    rw [h3,zI];rfl
   have k13:=k2.trans k3
   have em:ym (problemOf t qs l) r=z3x (W.map (zH (problemOf t qs l))):=by unfold ym;rw [hW]
   have els:yD (problemOf t qs l) r=W.filter fun s=>zH (problemOf t qs l) s==ym (problemOf t qs l) r:=by unfold yD;rw [hW]
   have hWne:W≠[]:=by rw [←hW];exact z3C _ _
   have hmne:W.map (zH (problemOf t qs l))≠[]:=by simp [hWne]
   have hns:SqL K H3 D (((W.map (zH (problemOf t qs l))).map fun (n:Nat)=>(n:Int)).map V.int):=by
    have:=h3.sq (K:=K)
    unfold yJ at this
    rw [zI]
    exact this
   refine ⟨_,rfl,D,(W.map (zH (problemOf t qs l))).map fun (n:Nat)=>(n:Int),rfl,hns,?_,fun m hm hmin=>?_⟩
   ·rw [z0];exact z0y.mpr hmne
   have em2:m=((ym (problemOf t qs l) r:Nat):Int):=by
    rw [em]
    obtain ⟨m',hm',rfl⟩:=yr.mp hm
    have h5:=Z9 hm'
    have h6:=hmin _ (yr.mpr ⟨_,ZK hmne,rfl⟩)
    omega
   subst em2
   generalize hmm:ym (problemOf t qs l) r=m at *
   have hA3:=hA2.imp fun _ _ r=>zj.kp r k3
   have hWl:W.length=as.length:=hA2.len.symm
   refine ⟨_,rfl,_,rfl,p2,D,_,_,rfl,SqL.of (k3.lst h2),h3.sq,fun D2 hD2=>lc_zipF (L:=L) ((as.zip W).map fun x=>if (zH (problemOf t qs l) x.2==m)=true then some (V.ref x.1) else none) (SqL.of (k3.lst h2)) h3.sq hD2 (by rw [z0,z0,j2,hWl,J7]) (by rw [yM,z0,z0,hWl]) ?_ ?_⟩
   ·rintro i x y o T2 H4 hx hy ho I nT
    obtain ⟨e,st,rfl,he,hst,re⟩:=hA3.get hx
    rw [Us,zB,hst] at hy
    have ey:y=V.int (zH (problemOf t qs l) st:Int):=(zG hy).symm
    subst ey
    have ez:(as.zip W)[i]?=some (e,st):=by rw [Ga];exact ⟨he,hst⟩
    have eo:=Z8 ho ez
    have kT:Kp L H4 (upd H4 T2 (.tup [V.ref e,V.int (zH (problemOf t qs l) st:Int)])):=Kp.refl.new nT
    refine ⟨T2,_,rfl,SqT.of z5,rfl,_,_,rfl,_,_,rfl,rfl,rfl,?_⟩
    refine ⟨_,rfl,_,rfl,rfl,_,rfl,?_⟩
    by_cases hc:(zH (problemOf t qs l) st==m)=true
    ·rw [if_pos hc] at eo
     subst eo
     refine Uw (by rw [zaQ];exact hc) ⟨_,rfl,?_⟩
     exact I.yes hD2 (by rw [z0,j2,hWl,J7,←hWl];omega) kT ho
    ·rw [if_neg hc] at eo
     subst eo
     refine GV (by rw [zaQ];exact hc) ?_
     exact I.no kT ho
   ·intro H4 k4 h4
    refine hq H4 D2 (k13.trans k4) (k13.free hD2) ?_
    rw [els]
    refine ⟨((as.zip W).filter fun x=>zH (problemOf t qs l) x.2==m).map WI,?_,?_⟩
    ·rw [h4,Wm,zI];rfl
    ·have e2:W.filter (fun s=>zH (problemOf t qs l) s==m)=((as.zip W).filter fun x=>zH (problemOf t qs l) x.2==m).map YW:=by
      have:W=(as.zip W).map YW:=(z3i (by omega)).symm
      conv=>lhs;rw [this]
      rw [z3B];rfl
     rw [e2]
     exact z9Y fun x hx=>z5e (hA3.imp fun _ _ r=>zj.kp r k4) x (yg.mp hx).1
end
def JQ (H:Hp)(a:Addr)(d:NP):Prop:=H a=some (.tup [.int (d.1:Int),.int (d.2:Int)])
theorem JQ.kp {L:List LT}{H H':Hp}{a:Addr}{d:NP}(h:JQ H a d)(k:Kp L H H'):JQ H' a d:=k.obj _ _ h (by intro _ z;cases z)
theorem JQ.put {H:Hp}{a b:Addr}{d:NP}{xs:List V}{o:HO}(h:JQ H a d)(hb:H b=some (.lst xs)):JQ (upd H b o) a d:=by
 unfold JQ
 rw [zl (Zg h hb (by intro z;cases z))];exact h
theorem Q0:∀(l k:List NP),(l.foldl Zi k).length≤k.length+l.length
 | [],k=>zb _
 | x::l,k=>by
  rw [yC]
  refine zd (Q0 l _) ?_
  have:(Zi k x).length≤k.length+1:=by
   unfold Zi
   split
   ·split
    ·rw [za];exact zb _
    ·omega
   ·rw [za];exact zb _
  rw [zu];omega
section
variable (L:List LT)(C:Adr)
inductive Gf (vs:List V)(H:Hp)(Q:VK)(_E:XK):Prop | mk (a b:Addr) (t:Table) (qs:List Qst) (l:List Offer) (_:vs=[.ref a,.ref b]) (_:yZ jG H a (problemOf t qs l).costs) (_:yZ (Yo C t) H b l) (_:qs.length≤1000) (_:l.length≤8) (_:∀H' p,Kp L H H'→H p=none→yZ JQ H' p (Zk (problemOf t qs l))→Q (.ref p) H')
end
section
variable {P:Program}{w:World}{K:z4}{mg:Str→Option Value}{base:Heap}{L:List LT}{C:Adr}{k:Nat}{f:Addr}{fd:FuncData}
theorem Zp:zy ["costs","offers","sets","pairs","steps","room","cost","chosen"] ["costs","offers"] (zh Ui):=scp
theorem z3q (T:Txt K mg C)(F:Fun K "least_steps" "least_steps" Ui f fd)(so:ya P w K mg base k "sets_in_order" ["count"] (UR L))(sr:ya P w K mg base k "set_room" ["offers","chosen"] (JS L C))
  (sc:ya P w K mg base k "set_cost" ["costs","offers","chosen"] (ZC L C)):yT P w K mg base (k+1) ["costs","offers"] (Gf L C) f:=by
 refine F.okN Zp (fun cdv A outer s H vs Q E hr h=>?_)
 ·obtain ⟨a,b,t,qs,l,rfl,hC,hO,hq6,hl8,hq⟩:=h
  obtain ⟨os,hS,hA⟩:=id hO
  refine ⟨_,z6 (zK (i:=2) Zp.nd rfl loc (yH so hr rfl zL (z3 (yq y6 rfl T.bl jt (z3 (pv 1) z7)) z7)))
   (z6 (zK (i:=3) Zp.nd rfl loc (yq z8d rfl T.bl boot_sorted (z3 (Yy (own:=[("chosen",7)]) (te:=tTup (j6 (tCl (JS L C) E0 (j6 (jc 1) (j6 (jc 7) Yl))) (j6 (tCl (ZC L C) E0 (j6 (jc 0) (j6 (jc 1) (j6 (jc 7) Yl)))) Yl))) rfl Zp.nd (j7 (pv 2)) (yR (by kernel_rfl))
     (fun _ _ _ _ _=>yB (i:=7) Zp.nd rfl loc) (fun _ _ _ _ _=>Zm) (fun _ _ _ _ _=>z4D (z3 (yH sr hr rfl zL (z3 (pv 1) (z3 (pv 7) z7))) (z3 (yH sc hr rfl zL (z3 (pv 0) (z3 (pv 1) (z3 (pv 7) z7)))) z7)))) z7)))
   (z6 (zK (i:=4) Zp.nd rfl loc (yy z7))
   (z6 (Vo ji rfl (j7 (pv 3)) (z4C rfl (Vb (yB (i:=5) Zp.nd rfl loc) (Vb (yB (i:=6) Zp.nd rfl loc) z1W)))
    (z9 (jb (PW.pt (qK (zZ Zz (yq y6 rfl T.bl jt (z3 (pv 4) z7)) yb (yj _)) (WD (zZ VT (pv 6) (Zt ix_tup (Zt jl (pv 4) (pe_un zab yb) (fun _ _=>rfl)) yb (fun _ _=>rfl)) (yj _)))))
     (z9 (Z4 (Ju zF yL yK ZX (pv 4) (z3 (z4D (z3 (pv 5) (z3 (pv 6) z7))) z7)))) yp)))
   (z9 (zA (pv 4)))))),?_⟩
  have hol:(os.map V.ref).length=l.length:=by rw [z0,hA.len]
  have al:(jf l.length).length≤9 * 256:=by
   have:=G5 hl8 (l.length+1)
   have e:UF l.length (l.length+1)=jf l.length:=rfl
   rw [e] at this
   refine zd this (YY _ (by omega))
  have big:(9 * 256+10:Nat)≤sizeLine:=by decide
  refine ⟨_,rfl,b,_,rfl,.inl (SqL.of hS),l.length,by rw [hol],hl8,fun H1 p1 k1 n1 ⟨as,hp1,hA1⟩=>?_⟩
  have epl:(Z5 (problemOf t qs l)).length=(jf l.length).length:=by unfold Z5;rw [z0,qL]
  refine ⟨_,rfl,p1,rfl,⟨_,SqL.of hp1⟩,fun D hD=>zaN (L:=L) (fun i ys H'=>∃ts:List Addr,ys=ts.map V.ref∧Ats (JQ H') ts ((Z5 (problemOf t qs l)).take i)) (SqL.of hp1) hD ⟨[],rfl,.nil⟩ ?_ ?_⟩
  ·rintro i x H2 hx I
   obtain ⟨e,st,rfl,he,hst,re⟩:=hA1.get hx
   have ms:=z0t (zt hst)
   have lti:=(zo.mp hst).1
   have hsl:st.length≤1000:=by have:=ms.2.2;omega
   have k2:=k1.trans I.kp
   refine ⟨rfl,Ya ⟨_,rfl,_,rfl,b,e,t,qs,l,st,rfl,jN hO k2,zj.kp re I.kp,hsl,ms.2.1,fun H3 k3=>?_⟩⟩
   have k23:=k2.trans k3
   refine ⟨_,rfl,_,rfl,_,rfl,a,b,e,t,qs,l,st,rfl,jC hC k23,jN hO k23,zj.kp (zj.kp re I.kp) k3,hq6,hsl,ms.2.1,fun H4 k4=>⟨(by show 2≤sizeLine;decide),fun T2 nT=>?_⟩⟩
   have k34:=(k3.trans k4).new (o:=.tup [.int (yk (problemOf t qs l) st:Int),.int (zH (problemOf t qs l) st:Int)]) nT
   refine I.yes hD (by omega) k34 fun ys e1 e2 ⟨ts,ey,hB⟩=>?_
   subst ey
   have ec:(Z5 (problemOf t qs l))[i]?=some (yk (problemOf t qs l) st,zH (problemOf t qs l) st):=by
    unfold Z5
    rw [qL,zB,hst];rfl
   refine ⟨ts++[T2],by rw [zw];rfl,?_⟩
   rw [Zr ec]
   refine Ats.snoc (hB.imp fun y d r=>(JQ.kp r k34).put e2) (JQ.put ?_ e2)
   exact z5
  ·intro H2 ys k2 h2 ⟨ts,ey,hB⟩
   subst ey
   have el:(as.map V.ref).length=(Z5 (problemOf t qs l)).length:=by rw [epl,z0,hA1.len]
   rw [el,jO] at hB
   generalize hds:Z5 (problemOf t qs l)=ds at *
   have htl:=hB.len
   have k12:=k1.trans k2
   let cast:Addr×NP→Addr×Int×Int:=fun x=>(x.1,(x.2.1:Int),(x.2.2:Int))
   have hfst:∀zs:List (Addr×NP),(zs.map cast).map (fun p=>V.ref p.1)=(zs.map WI).map V.ref:=fun zs=>by rw [zI,zI];rfl
   have hmz:(ts.zip ds).map WI=ts:=List.map_fst_zip (by omega)
   refine ⟨D,(ts.zip ds).map cast,rfl,SqL.of (by rw [hfst,hmz];exact h2),fun p hp=>?_,fun qz D2 hperm hsort nD2=>?_⟩
   ·obtain ⟨x,hx,rfl⟩:=yr.mp hp
    exact z5e hB x hx
   obtain ⟨zs,hz1,rfl⟩:=Um hperm
   have hzs:(zs.map YW).Pairwise leP:=by
    rw [List.pairwise_map] at hsort ⊢
    refine hsort.imp fun {x y} h=>?_
    have h:le2 ((x.2.1:Int),(x.2.2:Int)) ((y.2.1:Int),(y.2.2:Int)):=h
    unfold le2 at h
    unfold leP
    simp only at h
    omega
   have hsnd:(ts.zip ds).map YW=ds:=z3i (by omega)
   have hzp:(zs.map YW).Perm (Z5 (problemOf t qs l)):=by rw [hds,←hsnd];exact hz1.map _
   have hres:=z5x hzp hzs
   have hzl:zs.length=ds.length:=by rw [hz1.length_eq,j2];omega
   rw [hfst]
   have hzt:∀x∈zs,JQ H2 x.1 x.2:=fun x hx=>z5e hB x (hz1.subset hx)
   have k3:Kp L H2 (upd H2 D2 (.lst ((zs.map WI).map V.ref))):=Kp.refl.new nD2
   have hD2:(upd H2 D2 (.lst ((zs.map WI).map V.ref))) D2=_:=z5
   generalize upd H2 D2 (.lst ((zs.map WI).map V.ref))=H3 at k3 hD2
   have k13:=k12.trans k3
   refine ⟨zk _,fun p np=>?_⟩
   have kp:Kp L H3 (upd H3 p (.lst [])):=Kp.refl.new np
   refine ⟨_,rfl,D2,rfl,⟨_,SqL.of (kp.lst hD2)⟩,Vd (K:=K) (a:=D2) (xs:=(zs.map WI).map V.ref) (fun i σ H'=>∃(v5 v6 v7:Option V) (us:List Addr),σ=[some (.ref a),some (.ref b),some (.ref p1),some (.ref D2),some (.ref p),v5,v6,v7]∧Kp L H3 H'∧H' p=some (.lst (us.map V.ref))∧
    Ats (JQ H') us (((zs.map YW).take i).foldl Zi [])) ⟨none,none,none,[],rfl,kp,z5,.nil⟩ (fun i σ H' _ ⟨_,_,_,_,_,k,_⟩=>SqL.of (k.lst hD2)) ?_ ?_⟩
   ·rintro i x σ H' hx ⟨v5,v6,v7,us,rfl,k4,hp,hU⟩
    rw [zB,zB] at hx
    cases q:zs[i]? with
    | none=>rw [q] at hx;cases hx
    | some z=>
     rw [q] at hx
     have ex:x=V.ref z.1:=(zG hx).symm
     subst ex
     have lti:=(zo.mp q).1
     have hz:=JQ.kp (JQ.kp (hzt z (zt q)) k3) k4
     have eq1:(zs.map YW)[i]?=some z.2:=by rw [zB,q];rfl
     have est:((zs.map YW).take (i+1)).foldl Zi []=Zi (((zs.map YW).take i).foldl Zi []) z.2:=by rw [Zr eq1,V1];rfl
     have hkl:=Q0 ((zs.map YW).take i) []
     rw [Zx,List.length_nil,z95] at hkl
     have hul:=hU.len
     rw [est]
     generalize ((zs.map YW).take i).foldl Zi []=k0 at *
     refine ⟨z.1,_,rfl,SqT.of hz,rfl,_,_,rfl,_,_,rfl,rfl,?_⟩
     refine ⟨_,rfl,p,_,rfl,.inl (SqL.of hp),rfl,_,rfl,?_⟩
     refine Zc (fun h=>?_) (fun h=>?_)
     case' refine_1=>
      have e0:us=[]:=by
       have h:=of_decide_eq_true h
       have h:((us.map V.ref).length:Int)=0:=V.int.inj h
       rw [z0] at h
       exact Yh.mp (by omega)
      have e1:k0=[]:=Yh.mp (by rw [←hul,e0];rfl)
      have es:Zi k0 z.2=k0++[z.2]:=by rw [e1];rfl
      refine z1I ?_
     case' refine_2=>
      have hune:k0≠[]:=fun e1=>by
       have e0:us=[]:=Yh.mp (by rw [hul,e1];rfl)
       subst e0
       exact h rfl
      obtain ⟨y,hy⟩:∃y,k0.getLast?=some y:=⟨_,Ys hune⟩
      obtain ⟨k1',rfl⟩:∃k1',k0=k1'++[y]:=⟨k0.dropLast,by
       have h2:k0.getLast hune=y:=by rw [Ys hune] at hy;exact zG hy
       rw [←h2];exact (Zo hune).symm⟩
      obtain ⟨u,hu,ru⟩:=hU.get' (i:=k1'.length) (d:=y) (by simp)
      have hlast:atI (us.map V.ref) (-1)=some (.ref u):=by
       have e:us.map V.ref=(us.map V.ref).dropLast++[V.ref u]:=by
        have hne:us.map V.ref≠[]:=fun z=>by rw [z] at hu;simp at hu
        have hl:(us.map V.ref).length=k1'.length+1:=by rw [z0,hul];simp
        have h2:(us.map V.ref).getLast hne=V.ref u:=by
         rw [List.getLast_eq_getElem]
         have:(us.map V.ref)[(us.map V.ref).length - 1]?=some (V.ref u):=by rw [hl];exact hu
         rw [z8 (by omega)] at this
         exact zG this
        rw [←h2];exact (Zo hne).symm
       rw [e];exact z6z _ _
      refine ⟨_,rfl,_,rfl,_,rfl,p,_,_,_,rfl,rfl,SqL.of hp,hlast,u,_,_,_,rfl,rfl,SqT.of ru,qv (j:=1) rfl,_,_,rfl,rfl,_,rfl,?_⟩
      refine Zc (fun h2=>?_) (fun h2=>?_)
     case' refine_2.refine_1=>
      have es:Zi (k1'++[y]) z.2=(k1'++[y])++[z.2]:=by
       have h2:=of_decide_eq_true h2
       unfold Zi
       rw [GG]
       simp only
       rw [if_pos (by omega)]
     case refine_2.refine_2=>
      have es:Zi (k1'++[y]) z.2=k1'++[y]:=by
       have h2:¬((z.2.2:Int)<(y.2:Int)):=fun z=>h2 (decide_eq_true z)
       unfold Zi
       rw [GG]
       simp only
       rw [if_neg (by omega)]
      rw [es]
      exact ⟨_,_,_,us,rfl,k4,hp,hU⟩
     all_goals
      rw [es]
      refine ⟨_,rfl,.inl ⟨rfl,_,SqL.of hp⟩,_,rfl,_,rfl,(by show 2≤sizeLine;decide),fun T2 nT=>?_⟩
      have kT:Kp L H' (upd H' T2 (.tup [.int (z.2.1:Int),.int (z.2.2:Int)])):=Kp.refl.new nT
      have hpT:=kT.lst hp
      refine ⟨p,_,_,rfl,rfl,hpT,?_,?_⟩
      ·rw [z0];omega
      ·refine ⟨_,_,_,us++[T2],rfl,(k4.trans kT).putL np hpT,by rw [z5,zw];rfl,?_⟩
       exact Ats.snoc (hU.imp fun y d r=>(JQ.kp r kT).put hpT) (JQ.put z5 hpT)
   ·rintro σ H' ⟨v5,v6,v7,us,rfl,k4,hp,hU⟩
    refine ⟨_,rfl,hq H' p (k13.trans k4) (k13.free np) ⟨us,hp,?_⟩⟩
    rw [hres]
    have e:((zs.map WI).map V.ref).length=(zs.map YW).length:=by rw [z0,z0,z0]
    rw [e,jO] at hU
    exact hU
end
abbrev z4r:Stmt:=top 37
abbrev z4u:Stmt:=top 38
abbrev Qs:Stmt:=top 39
abbrev Uj:Stmt:=top 40
abbrev z4t:Stmt:=top 41
theorem z5b (p:Problem)(j i:Nat):Y5 p j i=(Vl p j i&&(decide (j<i)||!Vaidxd.asGood p i j)):=by
 unfold Y5
 by_cases e:j=i
 ·subst e
  cases Vl p j j <;> simp
 ·rw [show (j != i)=true by simp [e],VA,Bool.or_comm]
theorem z6o {i:Nat}:∀cs:List Costs,((Jj (cs.map fun c=>c.whole - je c [i]):Nat):Int)=(Jj (cs.map fun c=>je c []):Int) - (Jj (cs.map fun c=>je c [i]):Int)
 | []=>rfl
 | c::cs=>by
  rw [zJ,zJ,zJ,QS,QS,QS]
  have ih:=z6o (i:=i) cs
  have h:=z6l c [i]
  have e:je c []=c.whole:=rfl
  rw [e]
  omega
theorem idle_eq (p:Problem)(i:Nat):Jk p i=decide ((Vk p []:Int) - (Vk p [i]:Int)≤(((p.upkeeps[i]?).getD 0:Nat):Int)):=by
 unfold Jk Vk
 rw [←z6o,y8]
 simp
section
variable {t:Table}{qs:List Qst}{l:List Offer}{n:Nat}
theorem z4A (h:n<l.length):((problemOf t qs l).upkeeps[n]?).getD 0=l[n].upkeep:=by
 show ((l.map fun o=>o.upkeep)[n]?).getD 0=_
 rw [zB,z8 h];rfl
theorem z8E (h:n<l.length):((problemOf t qs l).rooms[n]?).getD 0=yn t l[n].index:=by
 show ((l.map fun o=>yn t o.index)[n]?).getD 0=_
 rw [zB,z8 h];rfl
theorem zar:∀c∈(problemOf t qs l).costs,c.by_.length=l.length:=fun c hc=>by
 obtain ⟨q,_,rfl⟩:=yr.mp (show c∈qs.map (costsOf t l) from hc)
 exact z0 _
theorem prob_cl:(problemOf t qs l).costs.length=qs.length:=z0 _
end
section
variable (L:List LT)(C:Adr)
inductive QX (vs:List V)(H:Hp)(Q:VK)(_E:XK):Prop | mk (x y:Option Nat) (_:vs=[.int (yG x),.int (yG y)]) (_:Q (.bl (Ja x y)) H)
inductive z2p (vs:List V)(H:Hp)(Q:VK)(_E:XK):Prop | mk (a b:Addr) (t:Table) (qs:List Qst) (l:List Offer) (i j:Nat) (_:vs=[.ref a,.ref b,.int i,.int j]) (_:yZ jG H a (problemOf t qs l).costs) (_:yZ (Yo C t) H b l) (_:qs.length≤1000) (_:i<l.length) (_:j<l.length) (_:∀H',Kp L H H'→Q (.bl (Vl (problemOf t qs l) i j)) H')
inductive Wg (vs:List V)(H:Hp)(Q:VK)(_E:XK):Prop | mk (a b:Addr) (t:Table) (qs:List Qst) (l:List Offer) (i j:Nat) (_:vs=[.ref a,.ref b,.int i,.int j]) (_:yZ jG H a (problemOf t qs l).costs) (_:yZ (Yo C t) H b l) (_:qs.length≤1000) (_:i<l.length) (_:j<l.length) (_:∀H',Kp L H H'→Q (.bl (Y5 (problemOf t qs l) i j)) H')
inductive Gh (vs:List V)(H:Hp)(Q:VK)(_E:XK):Prop | mk (a b:Addr) (t:Table) (qs:List Qst) (l:List Offer) (i:Nat) (_:vs=[.ref a,.ref b,.int i]) (_:yZ jG H a (problemOf t qs l).costs) (_:yZ (Yo C t) H b l) (_:qs.length≤1000) (_:l.length≤1000) (_:i<l.length) (_:∀H' p,Kp L H H'→H p=none→zj H' p ((zf l.length).filter fun j=>Y5 (problemOf t qs l) j i)→Q (.ref p) H')
inductive z2n (vs:List V)(H:Hp)(Q:VK)(_E:XK):Prop | mk (a b:Addr) (t:Table) (qs:List Qst) (l:List Offer) (i:Nat) (_:vs=[.ref a,.ref b,.int i]) (_:yZ jG H a (problemOf t qs l).costs) (_:yZ (Yo C t) H b l) (_:qs.length≤1000) (_:i<l.length) (_:∀H',Kp L H H'→Q (.bl (Jk (problemOf t qs l) i)) H')
end
section
variable {P:Program}{w:World}{K:z4}{mg:Str→Option Value}{base:Heap}{L:List LT}{C:Adr}{k:Nat}{f:Addr}{fd:FuncData}
theorem z9h:zy ["cost","other"] ["cost","other"] (zh z4r):=scp
theorem z9u (T:Txt K mg C)(F:Fun K "costs_no_more" "costs_no_more" z4r f fd):yT P w K mg base 1 ["cost","other"] QX f:=by
 refine F.okN z9h (fun cdv A outer s H vs Q E hr h=>?_)
 ·obtain ⟨x,y,rfl,hq⟩:=h
  refine ⟨_,z6 (jb (zZ Zz (pv 1) (yx rfl (T.n (n:=-1))) (yj _)) (z9 (zA z1p)) yp)
   (z9 (zA (z7x (ZJ op_ne (pv 0) (yx rfl (T.n (n:=-1))) (yj _)) (z4E (ZJ z2N (pv 0) (pv 1) (yj _)))))),?_⟩
  refine ⟨_,rfl,rfl,_,rfl,?_⟩
  cases y with
  | none=>
   refine Uw rfl ?_
   cases x <;> exact hq
  | some m=>
   have e:¬(decide (V.int (yG (some m))=V.int (-1))=true):=fun h=>by
    have h:(m:Int)=-1:=V.int.inj (of_decide_eq_true h)
    omega
   refine GV e ⟨_,rfl,rfl,_,rfl,?_⟩
   cases x with
   | none=>exact GV (by decide) hq
   | some n=>
    have e2:(!decide (V.int (yG (some n))=V.int (-1)))=true:=by
     have:¬V.int (yG (some n))=V.int (-1):=fun z=>by
      have z:(n:Int)=-1:=V.int.inj z
      omega
     simp [this]
    refine Uw e2 ⟨_,rfl,_,rfl,_,_,rfl,rfl,?_⟩
    have e3:decide (yG (some n)≤yG (some m))=Ja (some n) (some m):=by
     show decide ((n:Int)≤(m:Int))=decide (n≤m)
     rw [y8];simp
    rw [←e3] at hq
    exact hq
theorem z0Y:zy ["costs","offers","one","other","ways"] ["costs","offers","one","other"] (zh z4u):=scp
theorem z9C (T:Txt K mg C)(F:Fun K "is_as_good" "is_as_good" z4u f fd)(nm:ya P w K mg base k "costs_no_more" ["cost","other"] QX):yT P w K mg base (k+1) ["costs","offers","one","other"] (z2p L C) f:=by
 refine F.okN z0Y (fun cdv A outer s H vs Q E hr h=>?_)
 ·obtain ⟨a,b,t,qs,l,i,j,rfl,⟨as,hS,hA⟩,⟨bs,hSb,hAb⟩,hq6,hi,hj,hq⟩:=h
  refine ⟨_,z6 (jb (PW.pt (qK (zZ Up (zm (Zt jl (pv 1) (pv 2) (fun _ _=>rfl)) rfl) (zm (Zt jl (pv 1) (pv 3) (fun _ _=>rfl)) rfl) (yj _)) (WD (zZ Up (zm (Zt jl (pv 1) (pv 2) (fun _ _=>rfl)) rfl) (zm (Zt jl (pv 1) (pv 3) (fun _ _=>rfl)) rfl) (yj _))))) (z9 (zA z1p)) yp)
   (z9 (zA (yq (zb5 rfl) rfl T.bl zbb (z3 (Yy (own:=[("ways",4)]) (te:=tCl QX E0 (j6 (tOp (rIxL K) (jc 4) (tOp (rI0 fun i j=>.int (i+j)) (jc 2) (tC (.int 1)))) (j6 (tOp (rIxL K) (jc 4) (tOp (rI0 fun i j=>.int (i+j)) (jc 3) (tC (.int 1)))) Yl))) rfl z0Y.nd (j7 (pv 0)) (yR (by kernel_rfl))
    (fun _ _ _ _ _=>yB (i:=4) z0Y.nd rfl loc) (fun _ _ _ _ _=>Zm) (fun _ _ _ _ _=>yH nm hr rfl zL (z3 (Zt jl (pv 4) (jr Yd (pv 2) yb) (fun _ _=>rfl)) (z3 (Zt jl (pv 4) (jr Yd (pv 3) yb) (fun _ _=>rfl)) z7)))) z7)))),?_⟩
  obtain ⟨e1,he1,d1,i1,r1,_⟩:=hAb.get' (z8 hi)
  obtain ⟨e2,he2,d2,i2,r2,_⟩:=hAb.get' (z8 hj)
  have eg:Vl (problemOf t qs l) i j=((problemOf t qs l).costs.all (fun c=>Ja (js c i) (js c j))&&(decide (l[i].upkeep≤l[j].upkeep)&&decide (yn t l[i].index≤yn t l[j].index))):=by
   unfold Vl
   rw [z4A hi,z4A hj,z8E hi,z8E hj]
  rw [eg] at hq
  refine ⟨_,rfl,_,rfl,b,_,_,_,rfl,rfl,SqL.of hSb,YA rfl he1,⟨_,_,_,_,_,rfl,r1,T.off.cl,T.off.nn,Wk,⟨_,rfl,_,rfl,b,_,_,_,rfl,rfl,SqL.of hSb,YA rfl he2,⟨_,_,_,_,_,rfl,r2,T.off.cl,T.off.nn,Wk,⟨_,_,rfl,rfl,_,rfl,?_⟩⟩⟩⟩⟩
  refine Zc (fun h1=>?_) (fun h1=>?_)
  ·have h1:=of_decide_eq_true h1
   refine z1I ?_
   have q:=hq H .refl
   rw [show decide (l[i].upkeep≤l[j].upkeep)=false from decide_eq_false (by omega),z5m,QJ] at q
   exact q
  have h1:¬((l[j].upkeep:Int)<(l[i].upkeep:Int)):=fun z=>h1 (decide_eq_true z)
  refine ⟨_,rfl,_,rfl,b,_,_,_,rfl,rfl,SqL.of hSb,YA rfl he1,⟨_,_,_,_,_,rfl,r1,T.off.cl,T.off.nn,qb,⟨_,rfl,_,rfl,b,_,_,_,rfl,rfl,SqL.of hSb,YA rfl he2,⟨_,_,_,_,_,rfl,r2,T.off.cl,T.off.nn,qb,⟨_,_,rfl,rfl,_,rfl,?_⟩⟩⟩⟩⟩
  refine Zc (fun h2=>?_) (fun h2=>?_)
  ·have h2:=of_decide_eq_true h2
   have q:=hq H .refl
   rw [show decide (yn t l[i].index≤yn t l[j].index)=false from decide_eq_false (by omega),QJ,QJ] at q
   exact q
  have h2:¬((yn t l[j].index:Int)<(yn t l[i].index:Int)):=fun z=>h2 (decide_eq_true z)
  rw [decide_eq_true (show l[i].upkeep≤l[j].upkeep by omega),decide_eq_true (show yn t l[i].index≤yn t l[j].index by omega),GQ,GQ] at hq
  refine ⟨_,rfl,a,rfl,⟨_,SqL.of hS⟩,fun D hD=>jS (L:=L) ((problemOf t qs l).costs.map fun c=>some (V.bl (Ja (js c i) (js c j)))) (SqL.of hS) hD (by rw [z0,z0,hA.len]) ?_ ?_⟩
  ·rintro n x o H2 hx ho I
   obtain ⟨e,c,rfl,he,hc,re⟩:=hA.get hx
   have eo:=Z8 ho hc
   subst eo
   have mc:=zar c (zt hc)
   have rc:=jG.kp re I.kp
   refine ⟨rfl,Ya ⟨_,rfl,_,rfl,_,_,rfl,rfl,e,_,_,_,rfl,rfl,SqL.of rc,YA rfl (by rw [Vc,GK (by omega)];rfl),_,rfl,_,rfl,_,_,rfl,rfl,e,_,_,_,rfl,rfl,SqL.of rc,YA rfl (by rw [Vc,GK (by omega)];rfl),_,_,rfl,?_⟩⟩
   exact I.yes hD (by rw [z0,prob_cl];exact J0 hq6) .refl ho
  ·intro H2 k2 h2
   rw [Yf] at h2
   refine ⟨D,(problemOf t qs l).costs.map fun c=>Ja (js c i) (js c j),rfl,SqL.of (by rw [h2,zI];rfl),?_⟩
   have e:((problemOf t qs l).costs.map fun c=>Ja (js c i) (js c j)).all id=(problemOf t qs l).costs.all fun c=>Ja (js c i) (js c j):=by rw [z8q];rfl
   rw [e]
   exact hq H2 k2
theorem z4n:zy ["costs","offers","one","other"] ["costs","offers","one","other"] (zh Qs):=scp
theorem z4Z (F:Fun K "dominates" "dominates" Qs f fd)(ag:ya P w K mg base k "is_as_good" ["costs","offers","one","other"] (z2p L C)):yT P w K mg base (k+1) ["costs","offers","one","other"] (Wg L C) f:=by
 refine F.okN z4n (fun cdv A outer s H vs Q E hr h=>?_)
 ·obtain ⟨a,b,t,qs,l,i,j,rfl,hC,hO,hq6,hi,hj,hq⟩:=h
  rw [z5b] at hq
  refine ⟨_,z6 (jb (z16 (ZW (yH ag hr rfl zL (z3 (pv 0) (z3 (pv 1) (z3 (pv 2) (z3 (pv 3) z7))))))) (z9 (zA z1p)) yp)
   (z9 (zA (pe_or (ZJ VT (pv 2) (pv 3) (yj _)) (z4E (pe_not (yH ag hr rfl zL (z3 (pv 0) (z3 (pv 1) (z3 (pv 3) (z3 (pv 2) z7)))))))))),?_⟩
  refine ⟨_,rfl,_,rfl,_,rfl,_,rfl,a,b,t,qs,l,i,j,rfl,hC,hO,hq6,hi,hj,fun H1 k1=>⟨_,rfl,?_⟩⟩
  cases h1:Vl (problemOf t qs l) i j with
  | false=>
   refine Uw rfl ?_
   have q:=hq H1 k1
   rw [h1] at q
   exact q
  | true=>
   rw [h1,VA] at hq
   refine GV (by decide) ⟨_,rfl,_,rfl,_,_,rfl,rfl,_,rfl,?_⟩
   have ed:decide ((i:Int)<(j:Int))=decide (i<j):=by rw [y8];simp
   by_cases h2:i<j
   ·refine Uw (by rw [ed];exact decide_eq_true h2) ?_
    have q:=hq H1 k1
    rw [decide_eq_true h2] at q
    exact q
   ·refine GV (by rw [ed,decide_eq_false h2];decide) ⟨_,rfl,_,rfl,_,rfl,_,rfl,a,b,t,qs,l,j,i,rfl,jC hC k1,jN hO k1,hq6,hj,hi,fun H2 k2=>⟨_,rfl,?_⟩⟩
    have q:=hq H2 (k1.trans k2)
    rw [decide_eq_false h2,Bool.false_or] at q
    exact q
theorem WB:zy ["costs","offers","number","one"] ["costs","offers","number"] (zh Uj):=scp
theorem z3r (T:Txt K mg C)(F:Fun K "dominating" "dominating" Uj f fd)(dm:ya P w K mg base k "dominates" ["costs","offers","one","other"] (Wg L C)):yT P w K mg base (k+1) ["costs","offers","number"] (Gh L C) f:=by
 refine F.okN WB (fun cdv A outer s H vs Q E hr h=>?_)
 ·obtain ⟨a,b,t,qs,l,i,rfl,hC,hO,hq6,hl,hi,hq⟩:=h
  obtain ⟨bs,hSb,hAb⟩:=id hO
  have hbl:(bs.map V.ref).length=l.length:=by rw [z0,hAb.len]
  refine ⟨_,z9 (zA (Yy (own:=[("one",3)]) (tt:=z2i (tCl (Wg L C) E0 (j6 (jc 0) (j6 (jc 1) (j6 (jc 3) (j6 (jc 2) Yl)))))) rfl WB.nd (VH rfl T.bl (z3 (yq y6 rfl T.bl jt (z3 (pv 1) z7)) z7)) (yR (by kernel_rfl))
   (fun _ _ _ _ _=>yB (i:=3) WB.nd rfl loc) (fun _ _ _ _ _=>YK (ZW (yH dm hr rfl zL (z3 (pv 0) (z3 (pv 1) (z3 (pv 3) (z3 (pv 2) z7))))))) (fun _ _ _ _ _=>pv 3))),?_⟩
  refine ⟨_,rfl,b,_,rfl,.inl (SqL.of hSb),_,rfl,by omega,by omega,fun D hD=>?_⟩
  rw [hbl]
  refine z6m (L:=L) ((zf l.length).map fun j=>if Y5 (problemOf t qs l) j i=true then some (V.int (j:Int)) else none) hD (by rw [z0,yA];rfl) ?_ ?_
  ·rintro j o H2 hj ho I
   have hj:j<l.length:=hj
   have eo:=Z8 ho (Y9 hj)
   rw [Int.zero_add]
   refine ⟨rfl,_,rfl,_,rfl,_,rfl,_,rfl,a,b,t,qs,l,j,i,rfl,jC hC I.kp,jN hO I.kp,hq6,hj,hi,fun H3 k3=>⟨_,rfl,?_⟩⟩
   refine Zc (fun h1=>?_) (fun h1=>?_)
   ·rw [if_pos h1] at eo
    subst eo
    exact ⟨_,rfl,I.yes hD (by rw [z0,yA];exact J0 hl) k3 ho⟩
   ·rw [if_neg h1] at eo
    subst eo
    exact I.no k3 ho
  ·intro H2 k2 h2
   rw [Wm] at h2
   exact hq H2 D k2 hD h2
theorem z3J:zy ["costs","offers","number","saved"] ["costs","offers","number"] (zh z4t):=scp
theorem z9y (T:Txt K mg C)(F:Fun K "is_idle" "is_idle" z4t f fd)(ac:ya P w K mg base k "asking_cost" ["costs","chosen"] (WY L)):yT P w K mg base (k+1) ["costs","offers","number"] (z2n L C) f:=by
 refine F.okN z3J (fun cdv A outer s H vs Q E hr h=>?_)
 ·obtain ⟨a,b,t,qs,l,i,rfl,hC,hO,hq6,hi,hq⟩:=h
  obtain ⟨bs,hSb,hAb⟩:=id hO
  refine ⟨_,z6 (zK (i:=3) z3J.nd rfl loc (jr z18 (yH ac hr rfl zL (z3 (pv 0) (z3 (yy z7) z7))) (yH ac hr rfl zL (z3 (pv 0) (z3 (yy (z3 (pv 2) z7)) z7)))))
   (z9 (zA (ZJ z2N (pv 3) (zm (Zt jl (pv 1) (pv 2) (fun _ _=>rfl)) rfl) (yj _)))),?_⟩
  refine ⟨_,rfl,zk _,fun p1 n1=>?_⟩
  have k1:Kp L H (upd H p1 (.lst [])):=Kp.refl.new n1
  refine ⟨a,p1,t,qs,l,[],rfl,jC hC k1,z5,hq6,(fun i h=>by cases h),fun H2 k2=>?_⟩
  have k12:=k1.trans k2
  refine ⟨_,rfl,_,rfl,(by show 1≤sizeLine;decide),fun p3 n3=>?_⟩
  have k3:=k12.new (o:=.lst [.int (i:Int)]) n3
  refine ⟨a,p3,t,qs,l,[i],rfl,jC hC k3,z5,hq6,(fun j h=>by rw [zi.mp h];exact hi),fun H4 k4=>⟨_,_,rfl,rfl,?_⟩⟩
  have k14:=k3.trans k4
  obtain ⟨e1,he1,d1,i1,r1,_⟩:=(hAb.imp fun _ _ r=>Yo.kp r k14).get' (z8 hi)
  refine ⟨_,rfl,_,rfl,_,rfl,b,_,_,_,rfl,rfl,SqL.of (k14.lst hSb),YA rfl he1,⟨_,_,_,_,_,rfl,r1,T.off.cl,T.off.nn,Wk,⟨_,_,rfl,rfl,?_⟩⟩⟩
  have q:=hq H4 k14
  rw [idle_eq,z4A hi] at q
  exact q
end
abbrev VD (j:Nat):Stmt:=Jy (top 50) j
abbrev Qj:Stmt:=top 51
abbrev Uh:Stmt:=top 52
abbrev Gu:Stmt:=top 53
abbrev Gv:Stmt:=top 54
abbrev VR:Stmt:=top 55
abbrev Ql:Stmt:=top 56
abbrev WC:Stmt:=top 57
abbrev Qn:Stmt:=top 58
def rdrF (tl:Addr)(pl:Nat):List (Str×V):=[("told",.ref tl),("place",.int pl)]
theorem UY {tl:Addr}{pl:Nat}:lk (rdrF tl pl) "told"=some (.ref tl):=by kernel_rfl
theorem Gx {tl:Addr}{pl:Nat}:lk (rdrF tl pl) "place"=some (.int pl):=by kernel_rfl
abbrev rdr (C:Adr)(dx tl:Addr)(pl:Nat):HO:=.ins C.rdr dx (rdrF tl pl)
structure Rs (C:Adr)(H:Hp)(a dx tl:Addr)(told:List Int)(pl:Nat):Prop where
 at_:H a=some (rdr C dx tl pl)
 lst:yt H tl told
 le:pl≤told.length
section
variable {L:List LT}{C:Adr}{H H1 H2:Hp}{a dx tl:Addr}{told:List Int}{pl p1 p2:Nat}
theorem Kp.reput {c1 d1 c2 d2:Addr}{x y:List (Str×V)}(k:Kp L (upd H a (.ins c1 d1 x)) H1):Kp L (upd H a (.ins c2 d2 y)) (upd H1 a (.ins c2 d2 y)):=by
 have ha:H1 a=some (.ins c1 d1 x):=k.ins z5
 refine ⟨fun b o e n=>?_,fun b ps e=>?_,fun t ht h=>?_⟩
 ·by_cases z:b=a
  ·rw [z,z5] at e ⊢;exact e
  ·rw [zl z] at e ⊢;exact k.obj b o (by rw [zl z];exact e) n
 ·have z:b≠a:=fun z=>by rw [z,z5] at e;cases e
  rw [zl z] at e ⊢
  exact k.tab b ps (by rw [zl z];exact e)
 ·obtain ⟨ps,e,alt⟩:=h
  have zP:t.P≠a:=fun z=>by rw [z,z5] at e;cases e
  rw [zl zP] at e
  have h1:Yv (upd H a (.ins c1 d1 x)) t.P t.pos t.qual:=by
   refine ⟨ps,by rw [zl zP];exact e,?_⟩
   rcases alt with q | ⟨c,q1,q2⟩
   ·exact .inl q
   ·have zc:c≠a:=fun z=>by rw [z,z5] at q2;cases q2
    exact .inr ⟨c,q1,by rw [zl zc] at q2 ⊢;exact q2⟩
  obtain ⟨ps',e',alt'⟩:=k.lam t ht h1
  refine ⟨ps',by rw [zl zP];exact e',?_⟩
  rcases alt' with q | ⟨c,q1,q2⟩
  ·exact .inl q
  ·exact .inr ⟨c,q1,by rw [zl (Zg q2 ha (by intro z;cases z))];exact q2⟩
abbrev Mv (L:List LT)(C:Adr)(a dx tl:Addr)(pl:Nat)(H H':Hp):Prop:=Kp L (upd H a (rdr C dx tl pl)) H'
theorem Mv.trans (k1:Mv L C a dx tl p1 H H1)(k2:Mv L C a dx tl p2 H1 H2):Mv L C a dx tl p2 H H2:=(Kp.reput k1).trans k2
theorem Rs.self (r:Rs C H a dx tl told pl):upd H a (rdr C dx tl pl)=H:=by
 funext b
 by_cases z:b=a
 ·rw [z,z5,r.at_]
 ·rw [zl z]
theorem Rs.stay (r:Rs C H a dx tl told pl)(k:Kp L H H1):Mv L C a dx tl pl H H1:=by unfold Mv;rw [r.self];exact k
theorem Rs.step (r:Rs C H a dx tl told pl)(k:Mv L C a dx tl p1 H H1)(h:p1≤told.length):Rs C H1 a dx tl told p1:=
 ⟨k.ins z5,k.lst (by rw [zl (Zg r.lst r.at_ (by intro z;cases z))];exact r.lst),h⟩
theorem Rs.kp (r:Rs C H a dx tl told pl)(k:Kp L H H1):Rs C H1 a dx tl told pl:=⟨k.ins r.at_,k.lst r.lst,r.le⟩
theorem Mv.other (k:Mv L C a dx tl p1 H H1){b:Addr}{o:HO}(h:H b=some o)(nb:b≠a)(n:∀ps,o≠.tbl ps):H1 b=some o:=Kp.obj k b o (by rw [zl nb];exact h) n
end
def Rd {A:Type}(L:List LT)(C:Adr)(a dx tl:Addr)(told:List Int)(H:Hp)(Q:VK)(E:XK)(R:Hp→V→A→Prop):Option (A×List Int)→Prop
 | none=>∀H' pl',Mv L C a dx tl pl' H H'→E (.ref C.err) none H'
 | some (x,Z2)=>∀H' v pl',Z2=told.drop pl'→pl'≤told.length→Mv L C a dx tl pl' H H'→R H' v x→Q v H'
section
variable (L:List LT)(C:Adr)
inductive VG (vs:List V)(H:Hp)(Q:VK)(_E:XK):Prop | mk (p dx tl:Addr) (_:vs=[.ref p,.ref tl]) (_:H p=some (.ins C.rdr dx [])) (_:Q .non (upd H p (rdr C dx tl 0)))
inductive Wz (vs:List V)(H:Hp)(Q:VK)(E:XK):Prop | mk (a dx tl:Addr) (told:List Int) (pl lo hi:Nat) (_:vs=[.ref a,.int lo,.int hi]) (_:Rs C H a dx tl told pl) (_:told.length≤1000) (_:Rd L C a dx tl told H Q E (fun _ v n=>v=.int (n:Nat)) (yi lo hi (told.drop pl)))
inductive WX (vs:List V)(H:Hp)(Q:VK)(E:XK):Prop | mk (a dx tl:Addr) (told:List Int) (pl:Nat) (_:vs=[.ref a]) (_:Rs C H a dx tl told pl) (_:told.length≤1000) (_:(if told.drop pl=[] then Q .non H else E (.ref C.err) none H))
end
section
variable {P:Program}{w:World}{K:z4}{mg:Str→Option Value}{base:Heap}{L:List LT}{C:Adr}{k:Nat}{f:Addr}{fd:FuncData}
theorem z77:zy ["self","told"] ["self","told"] (zh (VD 0)):=scp
theorem z7I (T:Txt K mg C)(F:Fun K "__init__" "Reader.__init__" (VD 0) f fd):yT P w K mg base 1 ["self","told"] (VG C) f:=by
 refine F.okN z77 (fun cdv A outer s H vs Q E hr h=>?_)
 ·obtain ⟨p,dx,tl,rfl,hp,q⟩:=h
  refine ⟨_,z6 (jk (pv 0) (pv 1) rfl) (z9 (jk (pv 0) yb rfl)),?_⟩
  refine ⟨_,rfl,_,rfl,⟨_,_,_,_,rfl,hp,T.rdr.cl,T.rdr.nn,few,⟨_,rfl,⟨_,_,_,_,rfl,z5,T.rdr.cl,T.rdr.nn,few,?_⟩⟩⟩⟩
  rw [Z3]
  exact q
theorem z8y:zy ["self","lowest","highest","number"] ["self","lowest","highest"] (zh (VD 1)):=scp
theorem ok_take (T:Txt K mg C)(F:Fun K "take" "Reader.take" (VD 1) f fd):yT P w K mg base (k+1) ["self","lowest","highest"] (Wz L C) f:=by
 refine F.okX z8y (fun cdv A outer s H vs Q E hr h=>?_)
 ·obtain ⟨a,dx,tl,told,pl,lo,hi,rfl,rs,hlen,hq⟩:=h
  have ha:=rs.at_
  have htl:=rs.lst
  refine ⟨_,z6 (jb (zZ Zz (zm (pv 0) rfl) (yq y6 rfl T.bl jt (z3 (zm (pv 0) rfl) z7)) (yj _)) (z9 (JW qV rfl rfl T.err)) yp)
   (z6 (zK (i:=3) z8y.nd rfl loc (Zt jl (zm (pv 0) rfl) (zm (pv 0) rfl) (fun _ _=>rfl)))
   (z6 (jb (PW.pt (qK (zZ VT (pv 3) (pv 1) (yj _)) (WD (zZ Up (pv 3) (pv 2) (yj _))))) (z9 (JW qV rfl rfl T.err)) yp)
   (z6 (z9n (pv 0) yb in_add)
   (z9 (zA (pv 3)))))),?_⟩
  refine ⟨_,rfl,⟨_,_,_,_,_,rfl,ha,T.rdr.cl,T.rdr.nn,Gx,⟨_,rfl,⟨_,_,_,_,_,rfl,ha,T.rdr.cl,T.rdr.nn,UY,⟨tl,_,rfl,.inl (SqL.of htl),rfl,_,rfl,?_⟩⟩⟩⟩⟩
  have fail:yi lo hi (told.drop pl)=none→E (.ref C.err) none H:=fun e=>by
   rw [e] at hq
   exact hq H pl (rs.stay .refl)
  refine Zc (fun h=>?_) (fun h=>?_)
  ·have h:=of_decide_eq_true h
   have h:(pl:Int)=((told.map V.int).length:Int):=V.int.inj h
   rw [z0] at h
   refine fail ?_
   rw [Yx (by omega)]
   rfl
  ·have h:¬V.int (pl:Int)=V.int ((told.map V.int).length:Int):=fun z=>h (decide_eq_true z)
   have hlt:pl<told.length:=by
    refine Nat.lt_of_le_of_ne rs.le fun z=>h ?_
    rw [z0,z]
   have hz:told[pl]?=some told[pl]:=z8 hlt
   have ed:told.drop pl=told[pl]::told.drop (pl+1):=jj hlt
   generalize told[pl]=z at hz ed
   rw [ed] at hq fail
   refine ⟨_,rfl,⟨_,_,_,_,_,rfl,ha,T.rdr.cl,T.rdr.nn,UY,⟨_,rfl,⟨_,_,_,_,_,rfl,ha,T.rdr.cl,T.rdr.nn,Gx,⟨tl,_,_,_,rfl,rfl,SqL.of htl,YA rfl (by rw [Vc,hz];rfl),?_⟩⟩⟩⟩⟩
   refine ⟨_,rfl,_,rfl,_,_,rfl,rfl,_,rfl,?_⟩
   refine Zc (fun h1=>?_) (fun h1=>?_)
   ·have h1:=of_decide_eq_true h1
    refine z1I (fail ?_)
    exact if_neg (fun y=>by have y1:(lo:Int)≤z:=y.1;omega)
   ·have h1:¬z<(lo:Int):=fun y=>h1 (decide_eq_true y)
    refine ⟨_,rfl,_,rfl,_,_,rfl,rfl,_,rfl,?_⟩
    refine Zc (fun h2=>?_) (fun h2=>?_)
    ·have h2:=of_decide_eq_true h2
     refine fail ?_
     exact if_neg (fun y=>by have y1:z≤(hi:Int):=y.2;omega)
    ·have h2:¬(hi:Int)<z:=fun y=>h2 (decide_eq_true y)
     have e:yi lo hi (z::told.drop (pl+1))=some (z.toNat,told.drop (pl+1)):=if_pos ⟨by show (lo:Int)≤z;omega,by show z≤(hi:Int);omega⟩
     rw [e] at hq
     refine ⟨_,rfl,a,_,dx,_,_,rfl,ha,T.rdr.cl,T.rdr.nn,Gx,?_⟩
     refine ⟨_,_,rfl,rfl,dx,_,ha,za2 (by kernel_rfl),_,rfl,?_⟩
     refine hq _ _ (pl+1) rfl hlt .refl ?_
     have hz0:z=((z.toNat:Nat):Int):=by omega
     exact congrArg V.int hz0
theorem z9i:zy ["self"] ["self"] (zh (VD 2)):=scp
theorem z9z (T:Txt K mg C)(F:Fun K "finish" "Reader.finish" (VD 2) f fd):yT P w K mg base (k+1) ["self"] (WX C) f:=by
 refine F.okX z9i (fun cdv A outer s H vs Q E hr h=>?_)
 ·obtain ⟨a,dx,tl,told,pl,rfl,rs,hlen,hq⟩:=h
  have ha:=rs.at_
  refine ⟨_,z9 (jb (zZ VT (zm (pv 0) rfl) (yq y6 rfl T.bl jt (z3 (zm (pv 0) rfl) z7)) (yj _)) (z9 (JW qV rfl rfl T.err)) yp),?_⟩
  refine ⟨_,rfl,⟨_,_,_,_,_,rfl,ha,T.rdr.cl,T.rdr.nn,Gx,⟨_,rfl,⟨_,_,_,_,_,rfl,ha,T.rdr.cl,T.rdr.nn,UY,⟨tl,_,rfl,.inl (SqL.of rs.lst),_,_,rfl,rfl,_,rfl,?_⟩⟩⟩⟩⟩
  refine Zc (fun h=>?_) (fun h=>?_)
  ·have h:=of_decide_eq_true h
   rw [z0] at h
   rw [if_neg (fun z=>by have:=za5.mp z;omega)] at hq
   exact hq
  ·have h:¬(pl:Int)<((told.map V.int).length:Int):=fun y=>h (decide_eq_true y)
   rw [z0] at h
   rw [if_pos (Yx (by omega))] at hq
   exact hq
end
section
variable {A B:Type}{L:List LT}{C:Adr}{H H':Hp}{a dx tl:Addr}{told:List Int}{p:Nat}{Q Q1:VK}{E:XK}{R:Hp→V→B→Prop}{R1:Hp→V→A→Prop}{o:Option (A×List Int)}
theorem Rd.call {g:A×List Int→Option (B×List Int)}(k:Mv L C a dx tl p H H')(h:Rd L C a dx tl told H Q E R (o.bind g))
  (step:∀x Z2,o=some (x,Z2)→∀H2 v pl',Z2=told.drop pl'→pl'≤told.length→Mv L C a dx tl pl' H' H2→R1 H2 v x→Rd L C a dx tl told H Q E R (g (x,Z2))→Q1 v H2):Rd L C a dx tl told H' Q1 E R1 o:=by
 cases o with
 | none=>exact fun H2 pl' k2=>h H2 pl' (k.trans k2)
 | some u=>exact fun H2 v pl' e l k2 r=>step u.1 u.2 rfl H2 v pl' e l k2 r h
theorem Rd.callm {g:A×List Int→B×List Int}(k:Mv L C a dx tl p H H')(h:Rd L C a dx tl told H Q E R (o.map g))
  (step:∀x Z2,o=some (x,Z2)→∀H2 v pl',Z2=told.drop pl'→pl'≤told.length→Mv L C a dx tl pl' H' H2→R1 H2 v x→Rd L C a dx tl told H Q E R (some (g (x,Z2)))→Q1 v H2):Rd L C a dx tl told H' Q1 E R1 o:=by
 cases o with
 | none=>exact fun H2 pl' k2=>h H2 pl' (k.trans k2)
 | some u=>exact fun H2 v pl' e l k2 r=>step u.1 u.2 rfl H2 v pl' e l k2 r h
end
def NewFil (C:Adr)(H H':Hp)(v:V)(f:Filter):Prop:=∃b,v=.ref b∧Yp C H' b f∧H b=none
def z8h (C:Adr)(H H':Hp)(v:V)(g:Group):Prop:=∃b,v=.ref b∧(∃dx c,H' b=some (.ins C.grp dx (Ux c g.count))∧zj H' c g.row∧H c=none)∧H b=none
def z90 (H H':Hp)(v:V)(l:List Nat):Prop:=∃b,v=.ref b∧zj H' b l∧H b=none
inductive z92 (C:Adr)(H H':Hp)(v:V)(l:List Filter):Prop | mk (b as) (_:v=.ref b) (_:H' b=some (.lst (as.map V.ref))) (_:Ats (Yp C H') as l) (_:(∀y∈as,H y=none)) (_:H b=none)
section
variable (L:List LT)(C:Adr)
inductive VC (vs:List V)(H:Hp)(Q:VK)(E:XK):Prop | mk (a dx tl:Addr) (told:List Int) (pl n:Nat) (_:vs=[.ref a,.int n]) (_:1≤n) (_:Rs C H a dx tl told pl) (_:told.length≤1000) (_:Rd L C a dx tl told H Q E (NewFil C H) (VE n (told.drop pl)))
inductive U9 (vs:List V)(H:Hp)(Q:VK)(E:XK):Prop | mk (a dx tl:Addr) (told:List Int) (pl n:Nat) (_:vs=[.ref a,.int n]) (_:n≤1000) (_:Rs C H a dx tl told pl) (_:told.length≤1000) (_:Rd L C a dx tl told H Q E (z8h C H) (JX n (told.drop pl)))
inductive Gd (vs:List V)(H:Hp)(Q:VK)(E:XK):Prop | mk (a dx tl tk:Addr) (told:List Int) (pl n least:Nat) (taken:List Nat) (_:vs=[.ref a,.int n,.int least,.ref tk]) (_:1≤n) (_:n≤1000) (_:zj H tk taken) (_:Rs C H a dx tl told pl) (_:told.length≤1000) (_:Rd L C a dx tl told H Q E (z90 H) (GS n least taken (told.drop pl)))
end
theorem Mv.free {L:List LT}{C:Adr}{a dx tl:Addr}{p:Nat}{H H':Hp}(k:Mv L C a dx tl p H H'){b:Addr}(h:H' b=none):H b=none:=by
 have h2:=Kp.free k h
 by_cases z:b=a
 ·rw [z,z5] at h2;cases h2
 ·rw [zl z] at h2;exact h2
theorem Mv.putL {L:List LT}{C:Adr}{a dx tl l:Addr}{p:Nat}{H H':Hp}{xs:List V}{o:HO}(k:Mv L C a dx tl p H H')(r:∃x,H a=some x)(n:H l=none)(h:H' l=some (.lst xs)):Mv L C a dx tl p H (upd H' l o):=by
 obtain ⟨x,hx⟩:=r
 refine Kp.putL k ?_ h
 rw [zl (j1 (zT hx n))];exact n
section
variable {P:Program}{w:World}{K:z4}{mg:Str→Option Value}{base:Heap}{L:List LT}{C:Adr}{k:Nat}{f:Addr}{fd:FuncData}
theorem WA:zy ["reader","width","column","low"] ["reader","width"] (zh Uh):=scp
theorem z3p (T:Txt K mg C)(F:Fun K "take_filter" "take_filter" Uh f fd)(tk:zD P w K mg base k C.rdr "take" ["self","lowest","highest"] (Wz L C))(mk:ju P w K mg base k "Filter" C.fil ["self","column","low","high"] (z0N C)) :
  yT P w K mg base (k+1) ["reader","width"] (VC L C) f:=by
 refine F.okX WA (fun cdv A outer s H vs Q E hr h=>?_)
 ·obtain ⟨a,dx,tl,told,pl,n,rfl,hn,rs,hlen,hq⟩:=h
  refine ⟨_,z6 (zK (i:=2) WA.nd rfl loc (jv tk hr (Z1.passes) (pv 0) (z3 yb (z3 (jr z18 (pv 1) yb) z7))))
   (z6 (zK (i:=3) WA.nd rfl loc (jv tk hr (Z1.passes) (pv 0) (z3 yb (z3 (yx rfl (T.n (n:=9))) z7))))
   (z9 (zA (JP mk hr rfl zL (z3 (pv 2) (z3 (pv 3) (z3 (jv tk hr (Z1.passes) (pv 0) (z3 (pv 3) (z3 (yx rfl (T.n (n:=9))) z7))) z7))))))),?_⟩
  refine ⟨_,rfl,a,dx,_,rfl,rs.at_,(by kernel_rfl),_,rfl,_,_,rfl,rfl,a,dx,tl,told,pl,0,n - 1,?_,rs,hlen,?_⟩
  ·show [V.ref a,.int 0,.int ((n:Int) - 1)]=[V.ref a,.int ((0:Nat):Int),.int ((n - 1:Nat):Int)]
   rw [show ((n:Int) - 1)=((n - 1:Nat):Int) by omega];rfl
  refine Rd.call (rs.stay .refl) hq fun c Z2 _ H1 v p1 er l1 k1 rv hq1=>?_
  subst rv er
  have rs1:=rs.step k1 l1
  refine ⟨_,rfl,a,dx,_,rfl,rs1.at_,(by kernel_rfl),a,dx,tl,told,p1,0,9,rfl,rs1,hlen,?_⟩
  refine Rd.call k1 hq1 fun lo Z2 _ H2 v p2 er l2 k2 rv hq2=>?_
  subst rv er
  have rs2:=rs1.step k2 l2
  refine ⟨_,rfl,_,rfl,_,rfl,a,dx,_,rfl,rs2.at_,(by kernel_rfl),_,rfl,a,dx,tl,told,p2,lo,9,rfl,rs2,hlen,?_⟩
  refine Rd.callm (k1.trans k2) hq2 fun hi Z2 _ H3 v p3 er l3 k3 rv hq3=>?_
  subst rv er
  have rs3:=rs2.step k3 l3
  intro x dy nx nd ne
  refine ⟨x,dy,⟨c,lo,hi⟩,rfl,z5,rfl,?_⟩
  have k4:=rs3.stay (L:=L) (Zn (C:=C.fil) (o:=.ins C.fil dy (filF ⟨c,lo,hi⟩)) nx nd ne)
  exact hq3 _ _ p3 rfl l3 (((k1.trans k2).trans k3).trans k4) ⟨x,rfl,⟨dy,z5⟩,((k1.trans k2).trans k3).free nx⟩
theorem Wh:zy ["reader","width","fewest","taken","columns","place","column"] ["reader","width","fewest","taken"] (zh Gv):=scp
theorem z63 (T:Txt K mg C)(F:Fun K "take_columns" "take_columns" Gv f fd)(tk:zD P w K mg base k C.rdr "take" ["self","lowest","highest"] (Wz L C)):yT P w K mg base (k+1) ["reader","width","fewest","taken"] (Gd L C) f:=by
 refine F.okX Wh (fun cdv A outer s H vs Q E hr h=>?_)
 ·obtain ⟨a,dx,tl,t,told,pl,n,least,taken,rfl,hn,hn2,htk,rs,hlen,hq⟩:=h
  refine ⟨_,z6 (zK (i:=4) Wh.nd rfl loc (yy z7))
   (z6 (Vo z4G rfl (VH rfl T.bl (z3 (jv tk hr (Z1.passes) (pv 0) (z3 (pv 2) (z3 (pv 1) z7))) z7)) (yB (i:=5) Wh.nd rfl loc)
    (z6 (zK (i:=6) Wh.nd rfl loc (jv tk hr (Z1.passes) (pv 0) (z3 yb (z3 (jr z18 (pv 1) yb) z7))))
    (z6 (jb (PW.pt (qK (zZ YM (pv 6) (pv 4) (by with_unfolding_all rfl)) (WD (zZ YM (pv 6) (pv 3) (by with_unfolding_all rfl))))) (z9 (JW qV rfl rfl T.err)) yp)
    (z9 (Z4 (Ju zF yL yK ZX (pv 4) (z3 (pv 6) z7)))))))
   (z9 (zA (pv 4)))),?_⟩
  refine ⟨zk _,fun l nl=>?_⟩
  have k0:Kp L H (upd H l (.lst [])):=Kp.refl.new nl
  have rs0:=rs.kp k0
  have m0:=rs.stay k0
  have la:l≠a:=j1 (zT rs.at_ nl)
  have tka:t≠a:=Zg htk rs.at_ (by intro z;cases z)
  have ex:∃x,H a=some x:=⟨_,rs.at_⟩
  refine ⟨_,rfl,a,dx,_,rfl,rs0.at_,(by kernel_rfl),_,rfl,_,rfl,a,dx,tl,told,pl,least,n,rfl,rs0,hlen,?_⟩
  refine Rd.call m0 hq fun m Z2 em H1 v p1 er l1 k1 rv hq1=>?_
  subst rv er
  have hm:=Yc em
  refine ⟨(m:Int),rfl,by omega,by have:m≤n:=hm;omega,?_⟩
  have hm:m≤n:=hm
  rw [ZT]
  refine z1f (lo:=0) (n:=m) (fun i σ H2=>∃(cs:List Nat) (p2:Nat) (v5 v6:Option V),σ=[some (.ref a),some (.int (n:Int)),some (.int (least:Int)),some (.ref t),some (.ref l),v5,v6]∧Mv L C a dx tl p2 H H2∧p2≤told.length∧zj H2 l cs∧cs.length≤i∧
   Rd L C a dx tl told H Q E (z90 H) (Je (yi 0 (n - 1)) (fun l c=>!(l.contains c||taken.contains c)) (m - i) cs (told.drop p2)))
   ⟨[],p1,none,none,rfl,m0.trans k1,l1,Mv.other k1 z5 la (by intro _ z;cases z),zb _,hq1⟩ ?_ ?_
  ·rintro i σ H2 hi ⟨cs,p2,v5,v6,rfl,k2,l2,hcs,hcl,hq2⟩
   have rs2:=rs.step k2 l2
   have em:m - i=(m - (i+1))+1:=by omega
   rw [em,Je] at hq2
   refine ⟨_,rfl,a,dx,_,rfl,rs2.at_,(by kernel_rfl),_,rfl,_,_,rfl,rfl,a,dx,tl,told,p2,0,n - 1,?_,rs2,hlen,?_⟩
   ·show [V.ref a,.int 0,.int ((n:Int) - 1)]=[V.ref a,.int ((0:Nat):Int),.int ((n - 1:Nat):Int)]
    rw [show ((n:Int) - 1)=((n - 1:Nat):Int) by omega];rfl
   refine Rd.call k2 hq2 fun c Z2 ec H3 v p3 er l3 k3 rv hq3=>?_
   subst rv er
   have hcs3:zj H3 l cs:=Mv.other k3 hcs la (by intro _ z;cases z)
   have k23:=k2.trans k3
   have htk3:zj H3 t taken:=Mv.other k23 htk tka (by intro _ z;cases z)
   have raise:(cs.contains c||taken.contains c)=true→E (.ref C.err) none H3:=fun h=>by
    rw [h] at hq3
    exact hq3 H3 p3 k23
   refine ⟨_,rfl,_,rfl,l,_,rfl,.inl hcs3.sq,rfl,Yq _,_,rfl,?_⟩
   rw [Jx]
   refine Zc (fun h=>?_) (fun h=>?_)
   ·have h:cs.contains c=true:=h
    exact z1I (raise (by rw [h];rfl))
   ·have h:¬cs.contains c=true:=h
    refine ⟨_,rfl,_,rfl,t,_,rfl,.inl htk3.sq,rfl,Yq _,_,rfl,?_⟩
    rw [Jx]
    refine Zc (fun h2=>?_) (fun h2=>?_)
    ·have h2:taken.contains c=true:=h2
     exact raise (by rw [h2,Bool.or_true])
    ·have h2:¬taken.contains c=true:=h2
     have e:(!(cs.contains c||taken.contains c))=true:=by rw [V2.mpr h,V2.mpr h2];rfl
     rw [if_pos e] at hq3
     refine ⟨_,rfl,.inl ⟨rfl,_,hcs3.sq⟩,_,rfl,l,_,_,rfl,rfl,hcs3,?_,?_⟩
     ·rw [yM]
      have:(2000:Nat)≤sizeLine:=by decide
      omega
     ·refine ⟨cs++[c],p3,_,_,rfl,k23.putL ex nl hcs3,l3,?_,by rw [za];exact jP hcl,hq3⟩
      unfold zj yJ
      rw [z5,zw];rfl
  ·rintro σ H2 ⟨cs,p2,v5,v6,rfl,k2,l2,hcs,hcl,hq2⟩
   rw [z28] at hq2
   exact ⟨_,rfl,hq2 H2 _ p2 rfl l2 k2 ⟨l,rfl,hcs,nl⟩⟩
end
section
variable (L:List LT)(C:Adr)
inductive Wy (vs:List V)(H:Hp)(Q:VK)(E:XK):Prop | mk (a dx tl:Addr) (told:List Int) (pl n:Nat) (_:vs=[.ref a,.int n]) (_:1≤n) (_:n≤1000) (_:Rs C H a dx tl told pl) (_:told.length≤1000) (_:Rd L C a dx tl told H Q E (z92 C H) (z09 n (told.drop pl)))
inductive Q5 (vs:List V)(H:Hp)(Q:VK)(E:XK):Prop | mk (a dx tl:Addr) (told:List Int) (pl n:Nat) (_:vs=[.ref a,.int n]) (_:1≤n) (_:Rs C H a dx tl told pl) (_:told.length≤1000) (_:Rd L C a dx tl told H Q E (fun H' v o=>WH C H' v o∧∀b,v=.ref b→H b=none) (qM n (told.drop pl)))
end
theorem z35 {C:Adr}{dx d tl:Addr}{pl:Nat}{f:Filter}:HO.ins C.fil d (filF f)≠rdr C dx tl pl:=by
 intro z
 injection z with _ _ z
 have:=congrArg JK z
 cases this
theorem z87 {C:Adr}{dx d tl c:Addr}{pl n:Nat}:HO.ins C.grp d (Ux c n)≠rdr C dx tl pl:=by
 intro z
 injection z with _ _ z
 have:=congrArg (fun l=>lk l "told") z
 rw [UY] at this
 have e:lk (Ux c n) "told"=none:=by kernel_rfl
 have this:lk (Ux c n) "told"=some (.ref tl):=this
 rw [e] at this;cases this
section
variable {P:Program}{w:World}{K:z4}{mg:Str→Option Value}{base:Heap}{L:List LT}{C:Adr}{k:Nat}{f:Addr}{fd:FuncData}
theorem ZU:zy ["reader","width","filters","place","one","each"] ["reader","width"] (zh Gu):=scp
theorem z2O (T:Txt K mg C)(F:Fun K "take_filters" "take_filters" Gu f fd)(tk:zD P w K mg base k C.rdr "take" ["self","lowest","highest"] (Wz L C))(tf:ya P w K mg base k "take_filter" ["reader","width"] (VC L C)) :
  yT P w K mg base (k+1) ["reader","width"] (Wy L C) f:=by
 refine F.okX ZU (fun cdv A outer s H vs Q E hr h=>?_)
 ·obtain ⟨a,dx,tl,told,pl,n,rfl,hn,hn2,rs,hlen,hq⟩:=h
  refine ⟨_,z6 (zK (i:=2) ZU.nd rfl loc (yy z7))
   (z6 (Vo z4G rfl (VH rfl T.bl (z3 (jv tk hr (Z1.passes) (pv 0) (z3 yb (z3 (pv 1) z7))) z7)) (yB (i:=3) ZU.nd rfl loc)
    (z6 (zK (i:=4) ZU.nd rfl loc (yH tf hr rfl (Z1.passes) (z3 (pv 0) (z3 (pv 1) z7))))
    (z6 (jb (zZ YM (zm (pv 4) rfl) (Yy (own:=[("each",5)]) (te:=V5 K (jc 5) "column") rfl ZU.nd (j7 (pv 2)) (yR (by kernel_rfl)) (fun _ _ _ _ _=>yB (i:=5) ZU.nd rfl loc) (fun _ _ _ _ _=>Zm) (fun _ _ _ _ _=>zm (pv 5) rfl)) (by with_unfolding_all rfl)) (z9 (JW qV rfl rfl T.err)) yp)
    (z9 (Z4 (Ju zF yL yK ZX (pv 2) (z3 (pv 4) z7)))))))
   (z9 (zA (pv 2)))),?_⟩
  refine ⟨zk _,fun l nl=>?_⟩
  have k0:Kp L H (upd H l (.lst [])):=Kp.refl.new nl
  have rs0:=rs.kp k0
  have m0:=rs.stay k0
  have la:l≠a:=j1 (zT rs.at_ nl)
  have ex:∃x,H a=some x:=⟨_,rs.at_⟩
  refine ⟨_,rfl,a,dx,_,rfl,rs0.at_,(by kernel_rfl),_,rfl,a,dx,tl,told,pl,0,n,rfl,rs0,hlen,?_⟩
  refine Rd.call m0 hq fun m Z2 em H1 v p1 er l1 k1 rv hq1=>?_
  subst rv er
  have hm:=Yc em
  have hm:m≤n:=hm
  refine ⟨(m:Int),rfl,by omega,by omega,?_⟩
  rw [ZT]
  refine z1f (lo:=0) (n:=m) (fun i σ H2=>∃(cs:List Filter) (as:List Addr) (p2:Nat) (v3 v4:Option V),σ=[some (.ref a),some (.int (n:Int)),some (.ref l),v3,v4,none]∧Mv L C a dx tl p2 H H2∧p2≤told.length∧H2 l=some (.lst (as.map V.ref))∧Ats (Yp C H2) as cs∧(∀y∈as,H y=none)∧cs.length≤i∧
   Rd L C a dx tl told H Q E (z92 C H) (Je (VE n) (fun l f=>!(l.map fun f=>f.col).contains f.col) (m - i) cs (told.drop p2)))
   ⟨[],[],p1,none,none,rfl,m0.trans k1,l1,Mv.other k1 z5 la (by intro _ z;cases z),.nil,(fun y hy=>by cases hy),zb _,hq1⟩ ?_ ?_
  ·rintro i σ H2 hi ⟨cs,as,p2,v3,v4,rfl,k2,l2,hcs,hA,nas,hcl,hq2⟩
   have rs2:=rs.step k2 l2
   have em:m - i=(m - (i+1))+1:=by omega
   rw [em,Je] at hq2
   refine ⟨_,rfl,_,rfl,a,dx,tl,told,p2,n,rfl,hn,rs2,hlen,?_⟩
   refine Rd.call k2 hq2 fun c Z2 ec H3 v p3 er l3 k3 ⟨b,rv,⟨db,hb⟩,nb⟩ hq3=>?_
   subst rv er
   have hcs3:H3 l=_:=Mv.other k3 hcs la (by intro _ z;cases z)
   have hA3:Ats (Yp C H3) as cs:=hA.imp fun y d ⟨dy,hy⟩=>⟨dy,Mv.other k3 hy (Zg hy rs2.at_ z35) (by intro _ z;cases z)⟩
   have k23:=k2.trans k3
   have rs3:=rs2.step k3 l3
   have hcl1:cs.length≤1000:=by omega
   refine ⟨_,rfl,⟨_,_,_,_,_,rfl,hb,T.fil.cl,T.fil.nn,Vf,⟨_,rfl,l,rfl,⟨_,SqL.of hcs3⟩,fun D hD=>jS (L:=L) (cs.map fun f=>some (V.int (f.col:Int))) (SqL.of hcs3) hD (by rw [z0,z0,hA.len]) ?_ ?_⟩⟩⟩
   ·rintro j x o H4 hx ho I
    obtain ⟨y,d,rfl,hy,hd,dy,ry⟩:=hA3.get hx
    have eo:=Z8 ho hd
    subst eo
    refine ⟨rfl,Ya ⟨_,rfl,⟨_,_,_,_,_,rfl,I.kp.ins ry,T.fil.cl,T.fil.nn,Vf,?_⟩⟩⟩
    exact I.yes hD (by rw [z0];exact J0 hcl1) .refl ho
   ·intro H4 k4 h4
    rw [Yf] at h4
    have e4:cs.map (fun f=>V.int (f.col:Int))=yJ (cs.map fun f=>f.col):=by unfold yJ;rw [zI];rfl
    rw [e4] at h4
    refine ⟨D,_,rfl,.inl (SqL.of h4),rfl,Yq _,_,rfl,?_⟩
    rw [Jx]
    have k24:=k23.trans (rs3.stay k4)
    refine Zc (fun h=>?_) (fun h=>?_)
    ·have h:(cs.map fun f=>f.col).contains c.col=true:=h
     rw [h] at hq3
     exact hq3 H4 p3 k24
    ·have h:¬(cs.map fun f=>f.col).contains c.col=true:=h
     have e:(!(cs.map fun f=>f.col).contains c.col)=true:=by rw [V2.mpr h];rfl
     rw [if_pos e] at hq3
     have hcs4:=k4.lst hcs3
     refine ⟨_,rfl,.inl ⟨rfl,_,SqL.of hcs4⟩,_,rfl,l,_,_,rfl,rfl,hcs4,?_,?_⟩
     ·rw [z0,hA.len]
      have:(2000:Nat)≤sizeLine:=by decide
      omega
     ·refine ⟨cs++[c],as++[b],p3,_,_,rfl,k24.putL ex nl hcs4,l3,by rw [z5,zw];rfl,?_,(fun y hy=>(zQ.mp hy).elim (nas y) fun z=>by rw [zi.mp z];exact k2.free nb),by rw [za];exact jP hcl,hq3⟩
      have bl:b≠l:=fun z=>by rw [z,hcs] at nb;cases nb
      refine Ats.snoc (hA3.imp fun y d ⟨dy,hy⟩=>⟨dy,?_⟩) ⟨db,?_⟩
      ·rw [zl (Zg hy hcs3 (by intro z;cases z))];exact k4.ins hy
      ·rw [zl bl];exact k4.ins hb
  ·rintro σ H2 ⟨cs,as,p2,v3,v4,rfl,k2,l2,hcs,hA,nas,hcl,hq2⟩
   rw [z28] at hq2
   exact ⟨_,rfl,hq2 H2 _ p2 rfl l2 k2 ⟨l,as,rfl,hcs,hA,nas,nl⟩⟩
theorem z5D:zy ["reader","width"] ["reader","width"] (zh VR):=scp
theorem z62 (F:Fun K "take_condition" "take_condition" VR f fd)(tk:zD P w K mg base k C.rdr "take" ["self","lowest","highest"] (Wz L C))(tf:ya P w K mg base k "take_filter" ["reader","width"] (VC L C)) :
  yT P w K mg base (k+1) ["reader","width"] (Q5 L C) f:=by
 refine F.okX z5D (fun cdv A outer s H vs Q E hr h=>?_)
 ·obtain ⟨a,dx,tl,told,pl,n,rfl,hn,rs,hlen,hq⟩:=h
  refine ⟨_,z6 (jb (zZ Zz (jv tk hr (Z1.passes) (pv 0) (z3 yb (z3 yb z7))) yb (yj _)) (z9 (zA z2L)) yp)
   (z9 (zA (yH tf hr rfl (Z1.passes) (z3 (pv 0) (z3 (pv 1) z7))))),?_⟩
  refine ⟨_,rfl,a,dx,_,rfl,rs.at_,(by kernel_rfl),a,dx,tl,told,pl,0,1,rfl,rs,hlen,?_⟩
  refine Rd.call (rs.stay .refl) hq fun c Z2 _ H1 v p1 er l1 k1 rv hq1=>?_
  subst rv er
  have rs1:=rs.step k1 l1
  refine ⟨rfl,_,rfl,?_⟩
  refine Zc (fun h=>?_) (fun h=>?_)
  ·have h:=of_decide_eq_true h
   have h:(c:Int)=0:=V.int.inj h
   have h:c=0:=by omega
   rw [if_pos h] at hq1
   exact hq1 H1 .non p1 rfl l1 k1 ⟨rfl,fun b z=>by cases z⟩
  ·have h:¬c=0:=fun z=>h (decide_eq_true (by rw [z];rfl))
   rw [if_neg h] at hq1
   refine ⟨_,rfl,_,rfl,a,dx,tl,told,p1,n,rfl,hn,rs1,hlen,?_⟩
   refine Rd.callm k1 hq1 fun g Z2 _ H2 v p2 er l2 k2 ⟨b,rv,hb,nb⟩ hq2=>?_
   subst rv er
   exact hq2 H2 _ p2 rfl l2 (k1.trans k2) ⟨⟨b,rfl,hb⟩,fun b' z=>by cases z;exact k1.free nb⟩
end
inductive rInN (x y:V)(H:Hp)(Q:VK):Prop | mk (c p:Addr) (r:List Nat) (as:List Addr) (rs:List (List Nat)) (_:x=.ref c) (_:y=.ref p) (_:zj H c r) (_:H p=some (.lst (as.map V.ref))) (_:Ats (zj H) as rs) (_:Q (.bl (rs.contains r)) H)
theorem z6f:∀{l m:List Nat},yJ l=yJ m→l=m
 | [],[],_=>rfl
 | [],_::_,h=>by cases h
 | _::_,[],h=>by cases h
 | a::l,b::m,h=>by
  unfold yJ at h
  rw [zJ,zJ] at h
  injection h with h1 h2
  have h1:(a:Int)=b:=V.int.inj h1
  rw [z6f (l:=l) (m:=m) h2,show a=b by omega]
def eqN (H:Hp)(r:List Nat)(u:Value):Bool:=match u with
 | .ref p=>(match H p with | some (.lst vs)=>decide (vs=yJ r) | _=>false)
 | _=>false
theorem zaY {H:Hp}{r l:List Nat}{p:Addr}(h:zj H p l):eqN H r (.ref p)=(l==r):=by
 show (match H p with | some (.lst vs)=>decide (vs=yJ r) | _=>false)=_
 rw [show H p=some (.lst (yJ l)) from h]
 show decide (yJ l=yJ r)=_
 rw [y8]
 simp
 exact ⟨z6f,fun e=>by rw [e]⟩
theorem z8Y {H:Hp}{r:List Nat}:∀{as:List Addr}{rs:List (List Nat)}{us:List Value},yO (as.map V.ref) us→Ats (zj H) as rs→us.any (eqN H r)=rs.contains r
 | [],[],_,.nil,_=>rfl
 | [],_::_,_,_,h=>by cases h.len
 | _::_,[],_,_,h=>by cases h.len
 | a::as,l::rs,u::us,.cons q t,h=>by
  have hd:zj H a l:=h.at_ 0 a l rfl rfl
  have tl:Ats (zj H) as rs:=⟨z0x h.len,fun i b e x y=>h.at_ (i+1) b e (by simpa using x) (by simpa using y)⟩
  have q:u=.ref a:=q
  subst q
  rw [Vy,zaY hd,z8Y t tl,WL]
  congr 1
  rw [y8];simp
  exact eq_comm
theorem z7y {X:Cx}(hu:X.A.units+66<cLine):OpR X (compareOp .In) rInN:=by
 intro pins s σ H x y v u Q I rx ry h
 obtain ⟨c,p,r,as,rs,rfl,rfl,hc,hp,hA,q⟩:=h
 have rx:v=.ref c:=rx
 have ry:u=.ref p:=ry
 subst rx ry
 obtain ⟨its,rv,pl,hz⟩:=I.list (SqL.of hp)
 obtain ⟨bs,r2⟩:=Dp.reads I (qP r) (.ref c) (.ref c) (Wn hc) rfl
 refine SeqAt.in_listAt (eqN H r) pl.isList (fun w hw=>?_) ⟨.bl _,H,I,rfl,?_⟩
 ·have hw:w∈its:=by simpa using hw
  obtain ⟨i,hi⟩:=List.getElem?_of_mem hw
  obtain ⟨z,hz1,hz2⟩:=yO.back rv hi
  obtain ⟨b,l,ez,hb,hl,rb⟩:=hA.get hz1
  subst ez
  have hz2:w=.ref b:=hz2
  subst hz2
  obtain ⟨as1,r1⟩:=Dp.reads I (qP l) (.ref b) (.ref b) (Wn rb) rfl
  rw [zaY rb,←z0j]
  refine SeqAt.eqAt_reads (qP l) (qP r) X.A.in1 s (.ref b) (.ref c) as1 bs r1 r2 (z6L (ZG l)) (z6L (ZG r)) (SeqAt.room_of_shaped (ZG l) ?_)
  show X.A.units+1+64<cLine
  omega
 ·rw [show its.toArray.any (eqN H r)=its.any (eqN H r) by simp,z8Y rv hA]
  exact q
theorem z5t {A:Type}(it:yo A)(n:Nat)(x:List Int):z6B it n x=Je it (fun _ _=>true) n [] x:=by
 rw [UA (ok:=fun _=>true) (new:=fun _ _=>true) ⟨rfl,fun _ _=>rfl⟩ n [] x rfl]
 cases z6B it n x with
 | none=>rfl
 | some u=>rfl
section
variable {P:Program}{w:World}{K:z4}{mg:Str→Option Value}{base:Heap}{L:List LT}{C:Adr}{k:Nat}{f:Addr}{fd:FuncData}
theorem Gm:zy ["reader","width","cells","column"] ["reader","width"] (zh Qj):=scp
theorem z4O (T:Txt K mg C)(F:Fun K "take_group" "take_group" Qj f fd)(tk:zD P w K mg base k C.rdr "take" ["self","lowest","highest"] (Wz L C))(mk:ju P w K mg base k "Group" C.grp ["self","cells","rows"] (US C)) :
  yT P w K mg base (k+1) ["reader","width"] (U9 L C) f:=by
 refine F.okX Gm (fun cdv A outer s H vs Q E hr h=>?_)
 ·obtain ⟨a,dx,tl,told,pl,n,rfl,hn,rs,hlen,hq⟩:=h
  refine ⟨_,z6 (z9m (E:=E) (i:=2) (own:=[("column",3)]) Z1 rfl rfl rfl Gm.nd rfl rfl (Wa rfl rfl rfl rfl) (VH rfl T.bl (z3 (pv 1) z7)) (yR (by kernel_rfl))
    (fun _ _ _ _ _ _ _=>yB (i:=3) Gm.nd rfl loc) (fun _ _ _ _ _ _ _=>Zm) (fun _ _ _ _ _ _ hX=>jv tk hr hX.passes (pv 0) (z3 yb (z3 (yx rfl (T.n (n:=9))) z7))))
   (z9 (zA (JP mk hr rfl zL (z3 (pv 2) (z3 (jv tk hr (Z1.passes) (pv 0) (z3 yb (z3 (yx rfl (T.n (n:=1000000))) z7))) z7))))),?_⟩
  have ex:∃x,H a=some x:=⟨_,rs.at_⟩
  refine ⟨_,rfl,(n:Int),rfl,by omega,by omega,fun D hD=>?_⟩
  rw [ZT]
  have Da:D≠a:=j1 (zT rs.at_ hD)
  unfold JX at hq
  rw [z5t] at hq
  refine z2W (lo:=0) (n:=n) (fun i H2=>∃(cs:List Nat) (p2:Nat),Mv L C a dx tl p2 H H2∧p2≤told.length∧zj H2 D cs∧cs.length≤i∧
   Rd L C a dx tl told H Q E (z8h C H) ((Je (yi 0 9) (fun _ _=>true) (n - i) cs (told.drop p2)).bind fun u=>(yi 1 1000000 u.2).map fun v=>((⟨u.1,v.1⟩:Group),v.2)))
   ⟨[],pl,rs.stay (Kp.refl.new hD),rs.le,z5,zb _,hq⟩ ?_ ?_
  ·rintro i H2 hi ⟨cs,p2,k2,l2,hcs,hcl,hq2⟩
   have rs2:=rs.step k2 l2
   have em:n - i=(n - (i+1))+1:=by omega
   rw [em,Je,jo] at hq2
   refine ⟨rfl,Ya ⟨_,rfl,a,dx,_,rfl,rs2.at_,(by kernel_rfl),a,dx,tl,told,p2,0,9,rfl,rs2,hlen,?_⟩⟩
   refine Rd.call k2 hq2 fun c Z2 ec H3 v p3 er l3 k3 rv hq3=>?_
   subst rv er
   have hcs3:zj H3 D cs:=Mv.other k3 hcs Da (by intro _ z;cases z)
   refine ⟨_,hcs3,?_,cs++[c],p3,(k2.trans k3).putL ex hD hcs3,l3,?_,by rw [za];exact jP hcl,hq3⟩
   ·rw [yM]
    have:(2000:Nat)≤sizeLine:=by decide
    omega
   ·unfold zj yJ
    rw [z5,zw];rfl
  ·rintro H2 ⟨cs,p2,k2,l2,hcs,hcl,hq2⟩
   rw [z28,Je] at hq2
   have rs2:=rs.step k2 l2
   refine ⟨_,rfl,_,rfl,a,dx,_,rfl,rs2.at_,(by kernel_rfl),a,dx,tl,told,p2,1,1000000,rfl,rs2,hlen,?_⟩
   refine Rd.callm k2 (show Rd L C a dx tl told H Q E (z8h C H) ((yi 1 1000000 (told.drop p2)).map fun v=>((⟨cs,v.1⟩:Group),v.2)) from hq2) fun c Z2 ec H3 v p3 er l3 k3 rv hq3=>?_
   subst rv er
   have hcs3:zj H3 D cs:=Mv.other k3 hcs Da (by intro _ z;cases z)
   have rs3:=rs2.step k3 l3
   intro x dy nx nd ne
   refine ⟨x,dy,D,c,rfl,z5,rfl,?_⟩
   have k4:Kp L H3 _:=Zn (C:=C.grp) (o:=.ins C.grp dy (Ux D c)) nx nd ne
   exact hq3 _ _ p3 rfl l3 ((k2.trans k3).trans (rs3.stay k4)) ⟨x,rfl,⟨dy,D,z5,hcs3.kp k4,hD⟩,(k2.trans k3).free nx⟩
end
def fin {A:Type}(u:A×List Int):Option (A×List Int):=if u.2=[] then some u else none
theorem z6T {A:Type}{rd:yo A}{x:List Int}{t:A}(h:zV rd x=some t):(rd x).bind fin=some (t,[]):=by
 unfold zV at h
 split at h
 ·rename_i u e
  rw [e]
  cases h
  rfl
 ·cases h
theorem z6U {A:Type}{rd:yo A}{x:List Int}(h:zV rd x=none):(rd x).bind fin=none:=by
 unfold zV at h
 split at h
 ·cases h
 ·rename_i e
  cases q:rd x with
  | none=>rfl
  | some u=>
   obtain ⟨a,b⟩:=u
   cases b with
   | nil=>exact absurd q (e a)
   | cons z r=>rfl
section
variable {L:List LT}{C:Adr}{H H1 H2:Hp}{a dx tl:Addr}{told:List Int}{pl p1:Nat}
theorem Mv.nats (k:Mv L C a dx tl p1 H H1)(r:Rs C H a dx tl told pl){b:Addr}{l:List Nat}(h:zj H b l):zj H1 b l:=Mv.other k h (Zg h r.at_ (by intro z;cases z)) (by intro _ z;cases z)
theorem Mv.fil (k:Mv L C a dx tl p1 H H1)(r:Rs C H a dx tl told pl){b:Addr}{f:Filter}(h:Yp C H b f):Yp C H1 b f:=let ⟨d,h⟩:=h;⟨d,Mv.other k h (Zg h r.at_ z35) (by intro _ z;cases z)⟩
theorem Mv.out (k:Mv L C a dx tl p1 H1 H2)(k0:Kp L H H1)(n:H a=none)(r:Rs C H1 a dx tl told pl):Kp L H H2:=(k0.putI n r.at_).trans k
end
theorem zb6 {C:Adr}{H H':Hp}{v:V}{o:Option Filter}(h:WH C H' v o)(n:∀b,v=.ref b→H b=none):WH C (VU H H') v o:=match o,h with
 | none,h=>h
 | some _,⟨a,e,d,r⟩=>⟨a,e,d,jR (n a e) r⟩
def z46 {A:Type}(L:List LT)(C:Adr)(H:Hp)(Q:VK)(E:XK)(R:Hp→Addr→A→Prop):Option A→Prop
 | none=>∀H',Kp L H H'→E (.ref C.err) none H'
 | some t=>∀H' p,Kp L H H'→H p=none→R (VU H H') p t→Q (.ref p) H'
theorem z46.rd {A:Type}{L:List LT}{C:Adr}{H H1:Hp}{Q:VK}{E:XK}{R:Hp→Addr→A→Prop}{rd:yo A}{a dx tl:Addr}{told:List Int}(h:z46 L C H Q E R (zV rd told))(k0:Kp L H H1)(n:H a=none)(r:Rs C H1 a dx tl told 0) :
  Rd L C a dx tl told H1 Q E (fun H' v t=>∃p,v=.ref p∧R (VU H H') p t∧H p=none) ((rd (told.drop 0)).bind fin):=by
 rw [WK]
 cases q:zV rd told with
 | none=>
  rw [q] at h
  rw [z6U q]
  exact fun H' pl' m=>h H' (Mv.out m k0 n r)
 | some t=>
  rw [q] at h
  rw [z6T q]
  rintro H' v pl' _ _ m ⟨p,rfl,hr,np⟩
  exact h H' p (Mv.out m k0 n r) np hr
section
variable (L:List LT)(C:Adr)
inductive Wd (vs:List V)(H:Hp)(Q:VK)(E:XK):Prop | mk (tl:Addr) (told:List Int) (_:vs=[.ref tl]) (_:yt H tl told) (_:told.length≤1000) (_:z46 L C H Q E (Vg C) (zV Uo told))
inductive Jo (vs:List V)(H:Hp)(Q:VK)(E:XK):Prop | mk (tl:Addr) (told:List Int) (n:Nat) (_:vs=[.ref tl,.int n]) (_:1≤n) (_:n≤4) (_:yt H tl told) (_:told.length≤1000) (_:z46 L C H Q E (Y0 C) (zV (YL n) told))
inductive Wf (vs:List V)(H:Hp)(Q:VK)(E:XK):Prop | mk (tl:Addr) (told:List Int) (n:Nat) (_:vs=[.ref tl,.int n]) (_:1≤n) (_:n≤4) (_:yt H tl told) (_:told.length≤1000) (_:z46 L C H Q E (JE C) (zV (Gz n) told))
end
section
variable {P:Program}{w:World}{K:z4}{mg:Str→Option Value}{base:Heap}{L:List LT}{C:Adr}{k:Nat}{f:Addr}{fd:FuncData}
theorem Jq:zy ["told","width","reader","key_columns","included","condition"] ["told","width"] (zh Qn):=scp
theorem z4S (T:Txt K mg C)(F:Fun K "read_index" "read_index" Qn f fd)(mr:ju P w K mg base k "Reader" C.rdr ["self","told"] (VG C))(tc:ya P w K mg base k "take_columns" ["reader","width","fewest","taken"] (Gd L C))
  (td:ya P w K mg base k "take_condition" ["reader","width"] (Q5 L C)) (fi:zD P w K mg base k C.rdr "finish" ["self"] (WX C)) (mi:ju P w K mg base k "Index" C.idx ["self","key_columns","included","condition"] (z0M C)) :
  yT P w K mg base (k+1) ["told","width"] (Wf L C) f:=by
 refine F.okX Jq (fun cdv A outer s H vs Q E hr h=>?_)
 ·obtain ⟨tl,told,n,rfl,hn,hn4,htl,hlen,hq⟩:=h
  refine ⟨_,z6 (zK (i:=2) Jq.nd rfl loc (JP mr hr rfl zL (z3 (pv 0) z7)))
   (z6 (zK (i:=3) Jq.nd rfl loc (yH tc hr rfl (Z1.passes) (z3 (pv 2) (z3 (pv 1) (z3 yb (z3 (yy z7) z7))))))
   (z6 (zK (i:=4) Jq.nd rfl loc (yH tc hr rfl (Z1.passes) (z3 (pv 2) (z3 (pv 1) (z3 yb (z3 (pv 3) z7))))))
   (z6 (zK (i:=5) Jq.nd rfl loc (yH td hr rfl (Z1.passes) (z3 (pv 2) (z3 (pv 1) z7))))
   (z6 (Z4 (jQ fi hr (Z1.passes) (pv 2)))
   (z9 (zA (JP mi hr rfl zL (z3 (pv 3) (z3 (pv 4) (z3 (pv 5) z7)))))))))),?_⟩
  refine ⟨_,rfl,fun a dx na nd ne=>?_⟩
  have ka:Kp L H _:=Zn (C:=C.rdr) (o:=rdr C dx tl 0) na nd ne
  refine ⟨a,dx,tl,rfl,z5,rfl,?_⟩
  have rs:Rs C _ a dx tl told 0:=⟨z5,htl.kp ka,zk _⟩
  have hq0:=hq.rd ka na rs
  generalize (upd (upd (upd H dx (.own a)) a (.ins C.rdr dx [])) a (rdr C dx tl 0))=H1 at ka rs hq0
  unfold Gz at hq0
  rw [jo] at hq0
  refine ⟨_,rfl,_,rfl,zk _,fun e ne2=>?_⟩
  have ke:Kp L H1 (upd H1 e (.lst [])):=Kp.refl.new ne2
  refine ⟨a,dx,tl,e,told,0,n,1,[],rfl,hn,by omega,z5,rs.kp ke,hlen,?_⟩
  refine Rd.call (rs.stay ke) hq0 fun ks Z2 _ H2 v p2 er l2 k2 ⟨kl,rv,hk,nk⟩ hq1=>?_
  subst rv er
  have m2:=(rs.stay ke).trans k2
  have rs2:=rs.step m2 l2
  have hq1:=show Rd L C a dx tl told H1 Q E _ (((GS n 0 ks (told.drop p2)).bind fun i=>(qM n i.2).map fun c=>((⟨ks,i.1,c.1⟩:Index),c.2)).bind fin) from hq1
  rw [jo] at hq1
  refine ⟨_,rfl,_,rfl,_,rfl,a,dx,tl,kl,told,p2,n,0,ks,rfl,hn,by omega,hk,rs2,hlen,?_⟩
  refine Rd.call m2 hq1 fun is Z2 _ H3 v p3 er l3 k3 ⟨il,rv,hi,ni⟩ hq2=>?_
  subst rv er
  have m3:=m2.trans k3
  have rs3:=rs2.step k3 l3
  have hk3:=Mv.nats k3 rs2 hk
  have hq2:=show Rd L C a dx tl told H1 Q E _ (((qM n (told.drop p3)).map fun c=>((⟨ks,is,c.1⟩:Index),c.2)).bind fin) from hq2
  rw [z3f] at hq2
  refine ⟨_,rfl,_,rfl,a,dx,tl,told,p3,n,rfl,hn,rs3,hlen,?_⟩
  refine Rd.call m3 hq2 fun c Z2 _ H4 v p4 er l4 k4 ⟨hc,nc⟩ hq3=>?_
  subst er
  have m4:=m3.trans k4
  have rs4:=rs3.step k4 l4
  have hk4:=Mv.nats k4 rs3 hk3
  have hi4:=Mv.nats k4 rs3 hi
  have hq3:=show Rd L C a dx tl told H1 Q E _ (if told.drop p4=[] then some ((⟨ks,is,c⟩:Index),told.drop p4) else none) from hq3
  refine ⟨_,rfl,a,dx,_,rfl,rs4.at_,(by kernel_rfl),a,dx,tl,told,p4,rfl,rs4,hlen,?_⟩
  by_cases hz:told.drop p4=[]
  ·rw [if_pos hz] at hq3 ⊢
   refine ⟨_,rfl,_,rfl,_,rfl,fun x dy nx nd2 ne3=>⟨x,dy,kl,il,_,rfl,z5,rfl,?_⟩⟩
   have k5:Kp L H4 _:=Zn (C:=C.idx) (o:=.ins C.idx dy (idxF kl il v)) nx nd2 ne3
   exact hq3 _ _ p4 rfl l4 (m4.trans (rs4.stay k5)) ⟨x,rfl,⟨dy,kl,il,v,jR (ka.free (m4.free nx)) z5,jR (ka.free (ke.free nk)) (hk4.kp k5),jR (ka.free (m2.free ni)) (hi4.kp k5),zb6 (hc.kp k5) fun b z=>ka.free (m3.free (nc b z))⟩,ka.free (m4.free nx)⟩
  ·rw [if_neg hz] at hq3 ⊢
   exact hq3 H4 p4 m4
theorem jY:zy ["told","width","reader","filters","order","backwards","wanted","limit","asked"] ["told","width"] (zh WC):=scp
theorem z1H (T:Txt K mg C)(F:Fun K "read_question" "read_question" WC f fd)(mr:ju P w K mg base k "Reader" C.rdr ["self","told"] (VG C))(tk:zD P w K mg base k C.rdr "take" ["self","lowest","highest"] (Wz L C))(tf:ya P w K mg base k "take_filters" ["reader","width"] (Wy L C))
  (tc:ya P w K mg base k "take_columns" ["reader","width","fewest","taken"] (Gd L C)) (fi:zD P w K mg base k C.rdr "finish" ["self"] (WX C)) (mq:ju P w K mg base k "Question" C.qst ["self","filters","order","backwards","wanted","limit","asked"] (z0J C)) :
  yT P w K mg base (k+1) ["told","width"] (Jo L C) f:=by
 refine F.okX jY (fun cdv A outer s H vs Q E hr h=>?_)
 ·obtain ⟨tl,told,n,rfl,hn,hn4,htl,hlen,hq⟩:=h
  refine ⟨_,z6 (zK (i:=2) jY.nd rfl loc (JP mr hr rfl zL (z3 (pv 0) z7)))
   (z6 (zK (i:=3) jY.nd rfl loc (yH tf hr rfl (Z1.passes) (z3 (pv 2) (z3 (pv 1) z7))))
   (z6 (zK (i:=4) jY.nd rfl loc (yH tc hr rfl (Z1.passes) (z3 (pv 2) (z3 (pv 1) (z3 yb (z3 (yy z7) z7))))))
   (z6 (zK (i:=5) jY.nd rfl loc (ZJ Zz (jv tk hr (Z1.passes) (pv 2) (z3 yb (z3 yb z7))) yb (yj _)))
   (z6 (zK (i:=6) jY.nd rfl loc (yH tc hr rfl (Z1.passes) (z3 (pv 2) (z3 (pv 1) (z3 yb (z3 (yy z7) z7))))))
   (z6 (zK (i:=7) jY.nd rfl loc (jv tk hr (Z1.passes) (pv 2) (z3 yb (z3 (yx rfl (T.n (n:=1000000))) z7))))
   (z6 (zK (i:=8) jY.nd rfl loc (jv tk hr (Z1.passes) (pv 2) (z3 yb (z3 (yx rfl (T.n (n:=1000))) z7))))
   (z6 (Z4 (jQ fi hr (Z1.passes) (pv 2)))
   (z9 (zA (JP mq hr rfl zL (z3 (pv 3) (z3 (pv 4) (z3 (pv 5) (z3 (pv 6) (z3 (pv 7) (z3 (pv 8) z7)))))))))))))))),?_⟩
  refine ⟨_,rfl,fun a dx na nd ne=>?_⟩
  have ka:Kp L H _:=Zn (C:=C.rdr) (o:=rdr C dx tl 0) na nd ne
  refine ⟨a,dx,tl,rfl,z5,rfl,?_⟩
  have rs:Rs C _ a dx tl told 0:=⟨z5,htl.kp ka,zk _⟩
  have hq0:=hq.rd ka na rs
  generalize (upd (upd (upd H dx (.own a)) a (.ins C.rdr dx [])) a (rdr C dx tl 0))=H1 at ka rs hq0
  unfold YL at hq0
  rw [jo] at hq0
  refine ⟨_,rfl,_,rfl,a,dx,tl,told,0,n,rfl,hn,by omega,rs,hlen,?_⟩
  refine Rd.call (rs.stay .refl) hq0 fun fs Z2 _ H2 v p2 er l2 m2 ⟨fl,fas,rv,hfl,hfA,nfas,nf⟩ hq1=>?_
  subst rv er
  have rs2:=rs.step m2 l2
  have hq1:=show Rd L C a dx tl told H1 Q E _ (((GS n 0 [] (told.drop p2)).bind fun o=>(yi 0 1 o.2).bind fun b=>(GS n 0 [] b.2).bind fun w=>(yi 0 1000000 w.2).bind fun l=>(yi 0 1000 l.2).map fun t=>((⟨fs,o.1,b.1==1,w.1,l.1,t.1⟩:Qst),t.2)).bind fin) from hq1
  rw [jo] at hq1
  refine ⟨_,rfl,_,rfl,zk _,fun e ne2=>?_⟩
  have ke:Kp L H2 (upd H2 e (.lst [])):=Kp.refl.new ne2
  have me:=m2.trans (rs2.stay ke)
  refine ⟨a,dx,tl,e,told,p2,n,0,[],rfl,hn,by omega,z5,rs2.kp ke,hlen,?_⟩
  refine Rd.call me hq1 fun os Z2 _ H3 v p3 er l3 k3 ⟨ol,rv,ho,no⟩ hq2=>?_
  subst rv er
  have m3:=me.trans k3
  have rs3:=(rs2.kp ke).step k3 l3
  have hfl3:H3 fl=_:=Mv.other k3 (ke.lst hfl) (Zg (ke.lst hfl) (rs2.kp ke).at_ (by intro z;cases z)) (by intro _ z;cases z)
  have hfA3:=hfA.imp fun _ _ r=>Mv.fil k3 (rs2.kp ke) (Yp.kp r ke)
  have hq2:=show Rd L C a dx tl told H1 Q E _ (((yi 0 1 (told.drop p3)).bind fun b=>(GS n 0 [] b.2).bind fun w=>(yi 0 1000000 w.2).bind fun l=>(yi 0 1000 l.2).map fun t=>((⟨fs,os,b.1==1,w.1,l.1,t.1⟩:Qst),t.2)).bind fin) from hq2
  rw [jo] at hq2
  refine ⟨_,rfl,a,dx,_,rfl,rs3.at_,(by kernel_rfl),a,dx,tl,told,p3,0,1,rfl,rs3,hlen,?_⟩
  refine Rd.call m3 hq2 fun b Z2 _ H4 v p4 er l4 k4 rv hq3=>?_
  subst rv er
  have m4:=m3.trans k4
  have rs4:=rs3.step k4 l4
  have hfl4:H4 fl=_:=Mv.other k4 hfl3 (Zg hfl3 rs3.at_ (by intro z;cases z)) (by intro _ z;cases z)
  have hfA4:=hfA3.imp fun _ _ r=>Mv.fil k4 rs3 r
  have ho4:=Mv.nats k4 rs3 ho
  have eb:decide (V.int (b:Int)=V.int 1)=(b==1):=by
   rw [y8];simp;omega
  refine ⟨rfl,?_⟩
  have hq3:=show Rd L C a dx tl told H1 Q E _ (((GS n 0 [] (told.drop p4)).bind fun w=>(yi 0 1000000 w.2).bind fun l=>(yi 0 1000 l.2).map fun t=>((⟨fs,os,b==1,w.1,l.1,t.1⟩:Qst),t.2)).bind fin) from hq3
  rw [jo,←eb] at hq3
  refine ⟨_,rfl,_,rfl,zk _,fun e2 ne3=>?_⟩
  have ke2:Kp L H4 (upd H4 e2 (.lst [])):=Kp.refl.new ne3
  have me2:=m4.trans (rs4.stay ke2)
  refine ⟨a,dx,tl,e2,told,p4,n,0,[],rfl,hn,by omega,z5,rs4.kp ke2,hlen,?_⟩
  refine Rd.call me2 hq3 fun ws Z2 _ H5 v p5 er l5 k5 ⟨wl,rv,hw,nw⟩ hq4=>?_
  subst rv er
  have m5:=me2.trans k5
  have rs5:=(rs4.kp ke2).step k5 l5
  have hfl5:H5 fl=_:=Mv.other k5 (ke2.lst hfl4) (Zg (ke2.lst hfl4) (rs4.kp ke2).at_ (by intro z;cases z)) (by intro _ z;cases z)
  have hfA5:=hfA4.imp fun _ _ r=>Mv.fil k5 (rs4.kp ke2) (Yp.kp r ke2)
  have ho5:=Mv.nats k5 (rs4.kp ke2) (ho4.kp ke2)
  have hq4:=show Rd L C a dx tl told H1 Q E _ (((yi 0 1000000 (told.drop p5)).bind fun l=>(yi 0 1000 l.2).map fun t=>((⟨fs,os,decide (V.int (b:Int)=V.int 1),ws,l.1,t.1⟩:Qst),t.2)).bind fin) from hq4
  rw [jo] at hq4
  refine ⟨_,rfl,a,dx,_,rfl,rs5.at_,(by kernel_rfl),a,dx,tl,told,p5,0,1000000,rfl,rs5,hlen,?_⟩
  refine Rd.call m5 hq4 fun li Z2 _ H6 v p6 er l6 k6 rv hq5=>?_
  subst rv er
  have m6:=m5.trans k6
  have rs6:=rs5.step k6 l6
  have hfl6:H6 fl=_:=Mv.other k6 hfl5 (Zg hfl5 rs5.at_ (by intro z;cases z)) (by intro _ z;cases z)
  have hfA6:=hfA5.imp fun _ _ r=>Mv.fil k6 rs5 r
  have ho6:=Mv.nats k6 rs5 ho5
  have hw6:=Mv.nats k6 rs5 hw
  have hq5:=show Rd L C a dx tl told H1 Q E _ (((yi 0 1000 (told.drop p6)).map fun t=>((⟨fs,os,decide (V.int (b:Int)=V.int 1),ws,li,t.1⟩:Qst),t.2)).bind fin) from hq5
  rw [z3f] at hq5
  refine ⟨_,rfl,a,dx,_,rfl,rs6.at_,(by kernel_rfl),a,dx,tl,told,p6,0,1000,rfl,rs6,hlen,?_⟩
  refine Rd.call m6 hq5 fun ti Z2 _ H7 v p7 er l7 k7 rv hq6=>?_
  subst rv er
  have m7:=m6.trans k7
  have rs7:=rs6.step k7 l7
  have hfl7:H7 fl=_:=Mv.other k7 hfl6 (Zg hfl6 rs6.at_ (by intro z;cases z)) (by intro _ z;cases z)
  have hfA7:=hfA6.imp fun _ _ r=>Mv.fil k7 rs6 r
  have ho7:=Mv.nats k7 rs6 ho6
  have hw7:=Mv.nats k7 rs6 hw6
  have hq6:=show Rd L C a dx tl told H1 Q E _ (if told.drop p7=[] then some ((⟨fs,os,decide (V.int (b:Int)=V.int 1),ws,li,ti⟩:Qst),told.drop p7) else none) from hq6
  refine ⟨_,rfl,a,dx,_,rfl,rs7.at_,(by kernel_rfl),a,dx,tl,told,p7,rfl,rs7,hlen,?_⟩
  by_cases hz:told.drop p7=[]
  ·rw [if_pos hz] at hq6 ⊢
   refine ⟨_,rfl,_,rfl,_,rfl,_,rfl,_,rfl,_,rfl,fun x dy nx nd2 ne4=>⟨x,dy,fl,ol,wl,⟨fs,os,decide (V.int (b:Int)=V.int 1),ws,li,ti⟩,rfl,z5,rfl,?_⟩⟩
   have k8:Kp L H7 _:=Zn (C:=C.qst) (o:=.ins C.qst dy (z4v fl ol wl ⟨fs,os,decide (V.int (b:Int)=V.int 1),ws,li,ti⟩)) nx nd2 ne4
   exact hq6 _ _ p7 rfl l7 (m7.trans (rs7.stay k8)) ⟨x,rfl,⟨dy,fl,ol,wl,jR (ka.free (m7.free nx)) z5,⟨fas,jR (ka.free nf) (k8.lst hfl7),Ats.mem hfA7 fun y d hy ⟨dz,r⟩=>⟨dz,jR (ka.free (nfas y hy)) (k8.ins r)⟩⟩,jR (ka.free (m2.free (ke.free no))) (ho7.kp k8),jR (ka.free (m4.free (ke2.free nw))) (hw7.kp k8)⟩,ka.free (m7.free nx)⟩
  ·rw [if_neg hz] at hq6 ⊢
   exact hq6 H7 p7 m7
end
theorem hu66 {A:Around}{k:Nat}(hr:Yu k A):A.units+66<cLine:=by have:=hr.un;omega
section
variable {P:Program}{w:World}{K:z4}{mg:Str→Option Value}{base:Heap}{L:List LT}{C:Adr}{k:Nat}{f:Addr}{fd:FuncData}
theorem ZH:zy ["told","reader","width","groups","place","group","each"] ["told"] (zh Ql):=scp
theorem z4Q (T:Txt K mg C)(F:Fun K "read_table" "read_table" Ql f fd)(mr:ju P w K mg base k "Reader" C.rdr ["self","told"] (VG C))(tk:zD P w K mg base k C.rdr "take" ["self","lowest","highest"] (Wz L C))
  (tg:ya P w K mg base k "take_group" ["reader","width"] (U9 L C)) (fi:zD P w K mg base k C.rdr "finish" ["self"] (WX C)) (mt:ju P w K mg base k "Table" C.tbl ["self","width","groups"] (z0H C)) :
  yT P w K mg base (k+1) ["told"] (Wd L C) f:=by
 refine F.okX ZH (fun cdv A outer s H vs Q E hr h=>?_)
 ·obtain ⟨tl,told,rfl,htl,hlen,hq⟩:=h
  refine ⟨_,z6 (zK (i:=1) ZH.nd rfl loc (JP mr hr rfl zL (z3 (pv 0) z7)))
   (z6 (zK (i:=2) ZH.nd rfl loc (jv tk hr (Z1.passes) (pv 1) (z3 yb (z3 (yx rfl (T.n (n:=4))) z7))))
   (z6 (zK (i:=3) ZH.nd rfl loc (yy z7))
   (z6 (Vo z4G rfl (VH rfl T.bl (z3 (jv tk hr (Z1.passes) (pv 1) (z3 yb (z3 (yx rfl (T.n (n:=12))) z7))) z7)) (yB (i:=4) ZH.nd rfl loc)
    (z6 (zK (i:=5) ZH.nd rfl loc (yH tg hr rfl (Z1.passes) (z3 (pv 1) (z3 (pv 2) z7))))
    (z6 (jb (zZ (z7y (hu66 hr)) (zm (pv 5) rfl) (Yy (own:=[("each",6)]) (te:=V5 K (jc 6) "cells") rfl ZH.nd (j7 (pv 3)) (yR (by kernel_rfl)) (fun _ _ _ _ _=>yB (i:=6) ZH.nd rfl loc) (fun _ _ _ _ _=>Zm) (fun _ _ _ _ _=>zm (pv 6) rfl)) (by with_unfolding_all rfl)) (z9 (JW qV rfl rfl T.err)) yp)
    (z9 (Z4 (Ju zF yL yK ZX (pv 3) (z3 (pv 5) z7)))))))
   (z6 (Z4 (jQ fi hr (Z1.passes) (pv 1)))
   (z9 (zA (JP mt hr rfl zL (z3 (pv 2) (z3 (pv 3) z7))))))))),?_⟩
  refine ⟨_,rfl,fun a dx na nd ne=>?_⟩
  have ka:Kp L H _:=Zn (C:=C.rdr) (o:=rdr C dx tl 0) na nd ne
  refine ⟨a,dx,tl,rfl,z5,rfl,?_⟩
  have rs:Rs C _ a dx tl told 0:=⟨z5,htl.kp ka,zk _⟩
  have hq0:=hq.rd ka na rs
  generalize (upd (upd (upd H dx (.own a)) a (.ins C.rdr dx [])) a (rdr C dx tl 0))=H1 at ka rs hq0
  unfold Uo at hq0
  rw [jo] at hq0
  refine ⟨_,rfl,a,dx,_,rfl,rs.at_,(by kernel_rfl),a,dx,tl,told,0,1,4,rfl,rs,hlen,?_⟩
  refine Rd.call (rs.stay .refl) hq0 fun n Z2 en H2 v p2 er l2 m2 rv hq1=>?_
  subst rv er
  have hn4:=Yc en
  have hn4:n≤4:=hn4
  have rs2:=rs.step m2 l2
  have hq1:=show Rd L C a dx tl told H1 Q E _ (((yi 0 12 (told.drop p2)).bind fun m=>(Je (JX n) (fun l g=>!(l.map fun g=>g.row).contains g.row) m.1 [] m.2).map fun g=>((⟨n,g.1⟩:Table),g.2)).bind fin) from hq1
  rw [jo] at hq1
  refine ⟨zk _,fun l nl=>?_⟩
  have nl1:H1 l=none:=m2.free nl
  have k0:Kp L H2 (upd H2 l (.lst [])):=Kp.refl.new nl
  have rs0:=rs2.kp k0
  have m0:=m2.trans (rs2.stay k0)
  have la:l≠a:=j1 (zT rs.at_ nl1)
  have ex:∃x,H1 a=some x:=⟨_,rs.at_⟩
  refine ⟨_,rfl,a,dx,_,rfl,rs0.at_,(by kernel_rfl),a,dx,tl,told,p2,0,12,rfl,rs0,hlen,?_⟩
  refine Rd.call m0 hq1 fun m Z2 em H3 v p3 er l3 k3 rv hq2=>?_
  subst rv er
  have hm:=Yc em
  have hm:m≤12:=hm
  have hq2:=show Rd L C a dx tl told H1 Q E _ (((Je (JX n) (fun l g=>!(l.map fun g=>g.row).contains g.row) m [] (told.drop p3)).map fun g=>((⟨n,g.1⟩:Table),g.2)).bind fin) from hq2
  rw [z3f] at hq2
  refine ⟨(m:Int),rfl,by omega,by omega,?_⟩
  rw [ZT]
  refine z1f (lo:=0) (n:=m) (fun i σ H4=>∃(cs:List Group) (as:List Addr) (p4:Nat) (v4 v5:Option V),σ=[some (.ref tl),some (.ref a),some (.int (n:Int)),some (.ref l),v4,v5,none]∧Mv L C a dx tl p4 H1 H4∧p4≤told.length∧H4 l=some (.lst (as.map V.ref))∧
   Ats (fun (y:Addr) (g:Group)=>∃dy cy,H4 y=some (.ins C.grp dy (Ux cy g.count))∧zj H4 cy g.row∧cy≠l∧H1 y=none∧H1 cy=none) as cs∧cs.length≤i∧
   Rd L C a dx tl told H1 Q E (fun H' v t=>∃p,v=.ref p∧Vg C (VU H H') p t∧H p=none) ((Je (JX n) (fun l g=>!(l.map fun g=>g.row).contains g.row) (m - i) cs (told.drop p4)).bind (fin∘fun g=>((⟨n,g.1⟩:Table),g.2))))
   ⟨[],[],p3,none,none,rfl,m0.trans k3,l3,Mv.other k3 z5 la (by intro _ z;cases z),.nil,zb _,hq2⟩ ?_ ?_
  ·rintro i σ H4 hi ⟨cs,as,p4,v4,v5,rfl,k4,l4,hcs,hA,hcl,hq4⟩
   have rs4:=rs.step k4 l4
   have em:m - i=(m - (i+1))+1:=by omega
   rw [em,Je,jo] at hq4
   refine ⟨_,rfl,_,rfl,a,dx,tl,told,p4,n,rfl,by omega,rs4,hlen,?_⟩
   refine Rd.call k4 hq4 fun g Z2 eg H5 v p5 er l5 k5 ⟨b,rv,⟨db,cb,hb,hcb,ncb⟩,nb⟩ hq5=>?_
   subst rv er
   have hcs5:H5 l=_:=Mv.other k5 hcs la (by intro _ z;cases z)
   have hA5:Ats (fun (y:Addr) (g:Group)=>∃dy cy,H5 y=some (.ins C.grp dy (Ux cy g.count))∧zj H5 cy g.row∧cy≠l∧H1 y=none∧H1 cy=none) as cs:=hA.imp fun y d ⟨dy,cy,hy,hc,nc⟩=>⟨dy,cy,Mv.other k5 hy (Zg hy rs4.at_ z87) (by intro _ z;cases z),Mv.nats k5 rs4 hc,nc⟩
   have k45:=k4.trans k5
   have rs5:=rs4.step k5 l5
   have hcl1:cs.length≤1000:=by omega
   have cells:∃ys:List Addr,ys.length=cs.length∧Ats (zj H5) ys (cs.map fun g=>g.row)∧∀(j:Nat) (y cy:Addr) (d:Group),as[j]?=some y→cs[j]?=some d→ys[j]?=some cy→∃dy,H5 y=some (.ins C.grp dy (Ux cy d.count)):=by
    clear hcs hcs5 hq4 hq5 hcl hcl1 hA
    induction cs generalizing as with
    | nil=>exact ⟨[],rfl,.nil,fun j y cy d _ h=>by simp at h⟩
    | cons d cs ih=>
     cases as with
     | nil=>cases hA5.len
     | cons y as=>
      obtain ⟨dy,cy,h1,h2,h3⟩:=hA5.at_ 0 y d rfl rfl
      obtain ⟨ys,e1,e2,e3⟩:=ih as ⟨z0x hA5.len,fun i b e x y=>hA5.at_ (i+1) b e (by simpa using x) (by simpa using y)⟩
      refine ⟨cy::ys,by rw [zu,zu,e1],⟨by rw [zu,zJ,zu,e2.len],fun j b e x y=>?_⟩,fun j b c e x y z=>?_⟩
      ·cases j with
       | zero=>simp at x y;rw [←x,←y];exact h2
       | succ j=>exact e2.at_ j b e (by simpa using x) (by simpa using y)
      ·cases j with
       | zero=>simp at x y z;rw [←x,←y,←z];exact ⟨dy,h1⟩
       | succ j=>exact e3 j b c e (by simpa using x) (by simpa using y) (by simpa using z)
   obtain ⟨ys,ey1,ey2,ey3⟩:=cells
   refine ⟨_,rfl,⟨_,_,_,_,_,rfl,hb,T.grp.cl,T.grp.nn,ZP,⟨_,rfl,l,rfl,⟨_,SqL.of hcs5⟩,fun D hD=>jS (L:=L) (ys.map fun y=>some (V.ref y)) (SqL.of hcs5) hD (by rw [z0,z0,ey1,hA.len]) ?_ ?_⟩⟩⟩
   ·rintro j x o H6 hx ho I
    obtain ⟨y,d,rfl,hy,hd,dy,cy,ry,_⟩:=hA5.get hx
    have ltj:j<ys.length:=by rw [ey1];exact (zo.mp hd).1
    have hyj:ys[j]?=some ys[j]:=z8 ltj
    have eo:=Z8 ho hyj
    subst eo
    obtain ⟨dy',ry'⟩:=ey3 j y ys[j] d hy hd hyj
    refine ⟨rfl,Ya ⟨_,rfl,⟨_,_,_,_,_,rfl,I.kp.ins ry',T.grp.cl,T.grp.nn,ZP,?_⟩⟩⟩
    exact I.yes hD (by rw [z0,ey1];exact J0 hcl1) .refl ho
   ·intro H6 k6 h6
    rw [Yf] at h6
    refine ⟨cb,D,g.row,ys,cs.map fun g=>g.row,rfl,rfl,hcb.kp k6,h6,ey2.imp fun _ _ r=>zj.kp r k6,_,rfl,?_⟩
    have k46:=k45.trans (rs5.stay k6)
    refine Zc (fun h=>?_) (fun h=>?_)
    ·have h:(cs.map fun g=>g.row).contains g.row=true:=h
     rw [h] at hq5
     exact hq5 H6 p5 k46
    ·have h:¬(cs.map fun g=>g.row).contains g.row=true:=h
     have e:(!(cs.map fun g=>g.row).contains g.row)=true:=by rw [V2.mpr h];rfl
     rw [if_pos e] at hq5
     have hcs6:=k6.lst hcs5
     refine ⟨_,rfl,.inl ⟨rfl,_,SqL.of hcs6⟩,_,rfl,l,_,_,rfl,rfl,hcs6,?_,?_⟩
     ·rw [z0,hA.len]
      have:(2000:Nat)≤sizeLine:=by decide
      omega
     ·refine ⟨cs++[g],as++[b],p5,_,_,rfl,k46.putL ex nl1 hcs6,l5,by rw [z5,zw];rfl,?_,by rw [za];exact jP hcl,hq5⟩
      have bl:b≠l:=fun z=>by rw [z,hcs] at nb;cases nb
      have cl:cb≠l:=fun z=>by rw [z,hcs] at ncb;cases ncb
      refine Ats.snoc (hA5.imp fun y d ⟨dy,cy,hy,hc,nc⟩=>⟨dy,cy,?_,?_,nc⟩) ⟨db,cb,?_,?_,cl,k4.free nb,k4.free ncb⟩
      ·rw [zl (Zg hy hcs5 (by intro z;cases z))];exact k6.ins hy
      ·unfold zj;rw [zl nc.1];exact k6.lst hc
      ·rw [zl bl];exact k6.ins hb
      ·unfold zj;rw [zl cl];exact k6.lst hcb
  ·rintro σ H4 ⟨cs,as,p4,v4,v5,rfl,k4,l4,hcs,hA,hcl,hq4⟩
   rw [z28,Je] at hq4
   have rs4:=rs.step k4 l4
   have hq4:=show Rd L C a dx tl told H1 Q E _ (if told.drop p4=[] then some ((⟨n,cs⟩:Table),told.drop p4) else none) from hq4
   refine ⟨_,rfl,a,dx,_,rfl,rs4.at_,(by kernel_rfl),a,dx,tl,told,p4,rfl,rs4,hlen,?_⟩
   by_cases hz:told.drop p4=[]
   ·rw [if_pos hz] at hq4 ⊢
    refine ⟨_,rfl,_,rfl,fun x dy nx nd2 ne3=>⟨x,dy,l,n,rfl,z5,rfl,?_⟩⟩
    have k5:Kp L H4 _:=Zn (C:=C.tbl) (o:=.ins C.tbl dy (tblF n l)) nx nd2 ne3
    exact hq4 _ _ p4 rfl l4 (k4.trans (rs4.stay k5)) ⟨x,rfl,⟨dy,l,jR (ka.free (k4.free nx)) z5,as,jR (ka.free nl1) (k5.lst hcs),hA.imp fun y g ⟨dy,cy,hy,hc,_,n1,n2⟩=>⟨dy,cy,jR (ka.free n1) (k5.ins hy),jR (ka.free n2) (hc.kp k5)⟩⟩,ka.free (k4.free nx)⟩
   ·rw [if_neg hz] at hq4 ⊢
    exact hq4 H4 p4 k4
end
abbrev Qm:Stmt:=top 64
theorem z1X {α:Type}{l:List α}(h:l≠[]):∃r x,l=r++[x]:=⟨l.dropLast,l.getLast h,(Zo h).symm⟩
theorem z31 {α:Type}{r:List α}{x:α}:(r++[x])[(r++[x]).length - 1]?=some x:=by simp
theorem qe {l:List Nat}{n:Nat}:yJ (l++[n])=yJ l++[V.int (n:Int)]:=by unfold yJ;rw [zw];rfl
section
variable (L:List LT)(C:Adr)
inductive We (vs:List V)(H:Hp)(Q:VK)(E:XK):Prop | mk (tl:Addr) (told:List Int) (_:vs=[.ref tl]) (_:yt H tl told) (_:told.length≤1000) (_:z46 L C H Q E yt ((Y4 told).map fun _=>told))
end
section
variable {P:Program}{w:World}{K:z4}{mg:Str→Option Value}{base:Heap}{L:List LT}{C:Adr}{k:Nat}{f:Addr}{fd:FuncData}
theorem YH:zy ["told","reader","steps","waiting","depth","step"] ["told"] (zh Qm):=scp
theorem z4R (T:Txt K mg C)(F:Fun K "read_proof" "read_proof" Qm f fd)(mr:ju P w K mg base k "Reader" C.rdr ["self","told"] (VG C))(tk:zD P w K mg base k C.rdr "take" ["self","lowest","highest"] (Wz L C))
  (fi:zD P w K mg base k C.rdr "finish" ["self"] (WX C)):yT P w K mg base (k+1) ["told"] (We L C) f:=by
 refine F.okX YH (fun cdv A outer s H vs Q E hr h=>?_)
 ·obtain ⟨tl,told,rfl,htl,hlen,hq⟩:=h
  refine ⟨_,z6 (zK (i:=1) YH.nd rfl loc (JP mr hr rfl zL (z3 (pv 0) z7)))
   (z6 (zK (i:=2) YH.nd rfl loc (yy z7))
   (z6 (zK (i:=3) YH.nd rfl loc (yy (z3 yb z7)))
   (z6 (Uk z4G (zZ Up (yq y6 rfl T.bl jt (z3 (pv 3) z7)) yb (yj _))
    (z6 (zK (i:=4) YH.nd rfl loc (z7w zF U0 GZ z82 (pv 3)))
    (z6 (zK (i:=5) YH.nd rfl loc (jv tk hr (Z1.passes) (pv 1) (z3 (yx rfl (T.n (n:=0))) (z3 (yx rfl (T.n (n:=2))) z7))))
    (z6 (Z4 (Ju zF yL yK ZX (pv 2) (z3 (pv 5) z7)))
    (z9 (jb (zZ Zz (pv 5) (yx rfl (T.n (n:=0))) (yj _))
     (z6 (jb (zZ Zz (pv 4) (yx rfl (T.n (n:=9))) (yj _)) (z9 (JW qV rfl rfl T.err)) yp)
     (z9 (Z4 (Ju zF jE jD JY (pv 3) (z3 (yy (z3 (jr Yd (pv 4) yb) (z3 (jr Yd (pv 4) yb) z7))) z7))))) yp))))))
   (z6 (Z4 (jQ fi hr (Z1.passes) (pv 1)))
   (z9 (zA (pv 2))))))),?_⟩
  refine ⟨_,rfl,fun a dx na nd ne=>?_⟩
  have ka:Kp L H _:=Zn (C:=C.rdr) (o:=rdr C dx tl 0) na nd ne
  refine ⟨a,dx,tl,rfl,z5,rfl,?_⟩
  have rs:Rs C _ a dx tl told 0:=⟨z5,htl.kp ka,zk _⟩
  generalize (upd (upd (upd H dx (.own a)) a (.ins C.rdr dx [])) a (rdr C dx tl 0))=H1 at ka rs
  obtain ⟨fm1,fm2⟩:=z3T (x:=told)
  have bad:∀H' pl',Mv L C a dx tl pl' H1 H'→jA [10] told≠some []→E (.ref C.err) none H':=fun H' pl' m h=>by
   cases q:Y4 told with
   | none=>rw [q] at hq;exact hq H' (Mv.out m ka na rs)
   | some p=>exact absurd (fm2.mp (by rw [q];rfl)) h
  refine ⟨zk _,fun sp nsp=>?_⟩
  have k1:Kp L H1 (upd H1 sp (.lst [])):=Kp.refl.new nsp
  refine ⟨(by show 1≤sizeLine;decide),fun wt nwt=>?_⟩
  have k2:=k1.new (o:=.lst [.int 0]) nwt
  have ws:sp≠wt:=fun z=>by rw [←z,z5] at nwt;cases nwt
  have nw1:H1 wt=none:=k1.free nwt
  have ex:∃x,H1 a=some x:=⟨_,rs.at_⟩
  have sa:sp≠a:=j1 (zT rs.at_ nsp)
  have wa:wt≠a:=j1 (zT rs.at_ nw1)
  refine ⟨fun d σ H'=>∃(pl:Nat) (ds:List Nat) (v4 v5:Option V),d=told.length - pl∧σ=[some (.ref tl),some (.ref a),some (.ref sp),some (.ref wt),v4,v5]∧Mv L C a dx tl pl H1 H'∧pl≤told.length∧zj H' wt ds∧(∀x∈ds,x≤9)∧yt H' sp (told.take pl)∧
   ds.length≤pl+1∧jA [10] told=jA (ds.reverse.map fun x=>10 - x) (told.drop pl),⟨_,0,[0],none,none,rfl,rfl,rs.stay k2,zk _,z5,(fun x h=>by rw [zi.mp h];decide),?_,by decide,by rw [WK];rfl⟩,?_⟩
  ·unfold yt;rw [zl ws,z5];rfl
  ·rintro d σ H' ⟨pl,ds,v4,v5,rfl,rfl,m,hpl,hds,h9,hsp,hdl,hrm⟩
   have rs1:=rs.step m hpl
   have big:(3000:Nat)≤sizeLine:=by decide
   refine ⟨_,rfl,wt,_,rfl,.inl hds.sq,_,_,rfl,rfl,_,rfl,?_⟩
   refine Zc (fun h=>?_) (fun h=>?_)
   ·have hne:ds≠[]:=fun z=>by
     subst z
     have h:=of_decide_eq_true h
     have h:(0:Int)<(0:Int):=h
     omega
    obtain ⟨es,e,rfl⟩:=z1X hne
    have he9:e≤9:=h9 e (by simp)
    rw [Y7,zw] at hrm
    have hrm:jA [10] told=jA ((10 - e)::es.reverse.map fun x=>10 - x) (told.drop pl):=hrm
    rw [za] at hdl
    have hdl:es.length+1≤pl+1:=hdl
    refine ⟨fun σ' H''=>∃(ds:List Nat) (v4 v5:Option V),pl<told.length∧σ'=[some (.ref tl),some (.ref a),some (.ref sp),some (.ref wt),v4,v5]∧Mv L C a dx tl (pl+1) H1 H''∧zj H'' wt ds∧(∀x∈ds,x≤9)∧yt H'' sp (told.take (pl+1))∧
     ds.length≤pl+1+1∧jA [10] told=jA (ds.reverse.map fun x=>10 - x) (told.drop (pl+1)),fun σ' H'' ⟨ds,v4,v5,x0,x1,x2,x3,x4,x5,x6,x7⟩=>⟨told.length - (pl+1),by omega,pl+1,ds,v4,v5,rfl,x1,x2,x0,x3,x4,x5,x6,x7⟩,?_⟩
    refine ⟨_,rfl,.inl ⟨rfl,_,hds.sq⟩,wt,_,.int (e:Int),rfl,rfl,hds,?_,?_⟩
    ·rw [qe];exact z31
    have hdrop:(yJ (es++[e])).dropLast=yJ es:=by rw [qe];exact QI
    rw [hdrop]
    have m2:Mv L C a dx tl pl H1 (upd H' wt (.lst (yJ es))):=m.putL ex nw1 hds
    have hsp2:yt (upd H' wt (.lst (yJ es))) sp (told.take pl):=by unfold yt;rw [zl ws];exact hsp
    have hw2:zj (upd H' wt (.lst (yJ es))) wt es:=z5
    generalize upd H' wt (.lst (yJ es))=H2 at m2 hsp2 hw2
    have rs2:=rs.step m2 hpl
    refine ⟨_,rfl,a,dx,_,rfl,rs2.at_,(by kernel_rfl),a,dx,tl,told,pl,0,2,rfl,rs2,hlen,?_⟩
    obtain ⟨f0,hf0⟩:∃f0,10 - e=f0+1:=⟨9 - e,by omega⟩
    cases hdr:told.drop pl with
    | nil=>
     intro H3 pl' m3
     refine bad H3 pl' (m2.trans m3) ?_
     rw [hrm,hdr,zaI];intro z;cases z
    | cons z r=>
     have hlt:pl<told.length:=YR fun y=>by rw [Yx (by omega)] at hdr;cases hdr
     have hz:told[pl]?=some z:=by
      have e1:=jj hlt
      rw [hdr] at e1
      rw [z8 hlt,(YZ e1).1]
     have hr1:told.drop (pl+1)=r:=by
      have e1:=jj hlt
      rw [hdr] at e1
      exact (YZ e1).2.symm
     rw [hdr] at hrm
     by_cases hz2:0≤z∧z≤2
     ·have ern:yi 0 2 (z::r)=some (z.toNat,r):=if_pos ⟨by show (0:Int)≤z;omega,by show z≤(2:Int);omega⟩
      rw [ern]
      intro H3 v pl3 er l3 m3 rv
      subst rv
      have e3:pl3=pl+1:=by
       have:=congrArg JK er
       rw [←hr1,Vs,Vs] at this
       omega
      subst e3
      have hz0:z=((z.toNat:Nat):Int):=by omega
      have m13:=m2.trans m3
      have rs3:=rs.step m13 l3
      have hsp3:yt H3 sp (told.take pl):=m3.other hsp2 sa (by intro _ y;cases y)
      have hw3:zj H3 wt es:=m3.other hw2 wa (by intro _ y;cases y)
      refine ⟨_,rfl,.inl ⟨rfl,_,SqL.of hsp3⟩,_,rfl,sp,_,_,rfl,rfl,hsp3,?_,?_⟩
      ·rw [z0,Zx];omega
      have m4:Mv L C a dx tl (pl+1) H1 (upd H3 sp (.lst ((told.take pl).map V.int++[.int ((z.toNat:Nat):Int)]))):=m13.putL ex nsp hsp3
      have hsp4:yt (upd H3 sp (.lst ((told.take pl).map V.int++[.int ((z.toNat:Nat):Int)]))) sp (told.take (pl+1)):=by
       unfold yt
       rw [z5,Zr hz,zw,←hz0];rfl
      have hw4:zj (upd H3 sp (.lst ((told.take pl).map V.int++[.int ((z.toNat:Nat):Int)]))) wt es:=by unfold zj;rw [zl (j1 ws)];exact hw3
      generalize upd H3 sp (.lst ((told.take pl).map V.int++[.int ((z.toNat:Nat):Int)]))=H4 at m4 hsp4 hw4
      refine ⟨_,rfl,rfl,_,rfl,?_⟩
      by_cases h0:z=0
      ·subst h0
       refine Uw rfl ⟨_,rfl,rfl,_,rfl,?_⟩
       by_cases h99:e=9
       ·subst h99
        refine Uw rfl (bad H4 (pl+1) m4 ?_)
        rw [hrm,z6i];intro y;cases y
       ·have hne9:¬(decide (V.int (e:Int)=V.int 9)=true):=fun y=>by
         have y:(e:Int)=9:=V.int.inj (of_decide_eq_true y)
         omega
        refine GV hne9 ⟨_,rfl,.inl ⟨rfl,_,hw4.sq⟩,_,rfl,_,_,rfl,rfl,_,rfl,_,_,rfl,rfl,(by show 2≤sizeLine;decide),fun q nq=>?_⟩
        have hqw:wt≠q:=zT hw4 nq
        have hqs:sp≠q:=zT hsp4 nq
        have m5:Mv L C a dx tl (pl+1) H1 (upd H4 q (.lst [V.int ((e:Int)+1),V.int ((e:Int)+1)])):=m4.trans ((rs.step m4 hlt).stay (Kp.refl.new nq))
        refine ⟨wt,q,_,_,rfl,rfl,(by rw [zl hqw];exact hw4),z5,?_,?_⟩
        ·rw [yM];show es.length+2≤_;omega
        ·refine ⟨es++[e+1,e+1],_,_,hlt,rfl,m5.putL ex nw1 (by rw [zl hqw];exact hw4),?_,fun x hx=>?_,?_,?_,?_⟩
         ·unfold zj yJ
          rw [z5,zw];rfl
         ·rcases zQ.mp hx with hx | hx
          ·exact h9 x (zY _ hx)
          ·have:x=e+1:=by simpa using hx
           omega
         ·unfold yt
          rw [zl ws,zl hqs];exact hsp4
         ·rw [za];show es.length+2≤_;omega
         ·rw [hr1,hrm,hf0,z2R]
          have er1:(es++[e+1,e+1]).reverse=(e+1)::(e+1)::es.reverse:=by simp
          rw [er1]
          show _=jA ((10 - (e+1))::(10 - (e+1))::_) r
          rw [show 10 - (e+1)=f0 by omega]
      ·have hn0:¬(decide (V.int ((z.toNat:Nat):Int)=V.int 0)=true):=fun y=>by
        have y:((z.toNat:Nat):Int)=0:=V.int.inj (of_decide_eq_true y)
        omega
       refine GV hn0 ⟨es,_,_,hlt,rfl,m4,hw4,fun x hx=>h9 x (zY _ hx),hsp4,by omega,?_⟩
       rw [hr1,hrm,hf0,z9E (by omega)]
     ·have ern:yi 0 2 (z::r)=none:=if_neg (fun y=>hz2 ⟨by have y1:((0:Nat):Int)≤z:=y.1;omega,by have y2:z≤((2:Nat):Int):=y.2;omega⟩)
      rw [ern]
      intro H3 pl' m3
      refine bad H3 pl' (m2.trans m3) ?_
      rw [hrm,zaJ hz2];intro y;cases y
   ·have hnil:ds=[]:=by
     cases ds with
     | nil=>rfl
     | cons x l=>exact absurd (decide_eq_true (show (0:Int)<((yJ (x::l)).length:Int) by rw [yM,zu];omega)) h
    subst hnil
    have hrm:jA [10] told=some (told.drop pl):=hrm
    refine ⟨_,rfl,a,dx,_,rfl,rs1.at_,(by kernel_rfl),a,dx,tl,told,pl,rfl,rs1,hlen,?_⟩
    by_cases hz:told.drop pl=[]
    ·rw [if_pos hz]
     rw [hz] at hrm
     have hso:=fm2.mpr hrm
     refine ⟨_,rfl,?_⟩
     cases q:Y4 told with
     | none=>rw [q] at hso;cases hso
     | some p=>
      rw [q] at hq
      have hpe:told.length≤pl:=za5.mp hz
      rw [Zu hpe] at hsp
      exact hq H' sp (Mv.out m ka na rs) (ka.free nsp) (jR (ka.free nsp) hsp)
    ·rw [if_neg hz]
     refine bad H' pl m ?_
     rw [hrm]
     intro y
     exact hz (zG y)
end
abbrev z0Z (j:Nat):Stmt:=Jy (top 65) j
abbrev Zv (j:Nat):Stmt:=Jy (top 66) j
def Gy (k:Nat)(c:Addr):List (Str×V):=[("looked_at",.int k),("chosen",.ref c)]
theorem z1V {k:Nat}{c:Addr}:lk (Gy k c) "looked_at"=some (.int k):=by kernel_rfl
theorem Va {k:Nat}{c:Addr}:lk (Gy k c) "chosen"=some (.ref c):=by kernel_rfl
inductive Ze (C:Adr)(W:List Addr)(H:Hp)(a:Addr)(x:Plc):Prop | mk (dx c) (_:H a=some (.ins C.plc dx (Gy x.at_ c))) (_:zj H c x.set_) (_:∀y∈W,c≠y)
def z2K (ca oa:Addr)(r:Nat):List (Str×V):=[("costs",.ref ca),("offers",.ref oa),("room",.int r)]
theorem z7r {ca oa:Addr}{r:Nat}:lk (z2K ca oa r) "costs"=some (.ref ca):=by kernel_rfl
theorem Wi {ca oa:Addr}{r:Nat}:lk (z2K ca oa r) "offers"=some (.ref oa):=by kernel_rfl
theorem z9o {ca oa:Addr}{r:Nat}:lk (z2K ca oa r) "room"=some (.int r):=by kernel_rfl
structure Pb where
 t:Table
 qs:List Qst
 l:List Offer
 r:Nat
abbrev Pb.p (b:Pb):Problem:=problemOf b.t b.qs b.l
structure PbOk (b:Pb):Prop where
 q:b.qs.length≤1000
 l:b.l.length≤8
inductive z1z (C:Adr)(H:Hp)(a:Addr)(b:Pb):Prop | mk (dx ca oa) (_:H a=some (.ins C.prv dx (z2K ca oa b.r))) (_:yZ jG H ca b.p.costs) (_:yZ (Yo C b.t) H oa b.l)
section
variable {L:List LT}{C:Adr}{W:List Addr}{H H':Hp}{a y:Addr}{x:Plc}{b:Pb}{xs:List V}{o:HO}
theorem Ze.kp (h:Ze C W H a x)(k:Kp L H H'):Ze C W H' a x:=let ⟨dx,c,h1,h2,h3⟩:=h;⟨dx,c,k.ins h1,zj.kp h2 k,h3⟩
theorem Ze.put (h:Ze C W H a x)(hy:H y=some (.lst xs))(m:y∈W):Ze C W (upd H y o) a x:=by
 obtain ⟨dx,c,h1,h2,h3⟩:=h
 refine ⟨dx,c,by rw [zl (Zg h1 hy (by intro z;cases z))];exact h1,?_,h3⟩
 unfold zj
 rw [zl (h3 y m)];exact h2
theorem z1z.kp (h:z1z C H a b)(k:Kp L H H'):z1z C H' a b:=let ⟨dx,ca,oa,h1,h2,h3⟩:=h;⟨dx,ca,oa,k.ins h1,jC h2 k,jN h3 k⟩
end
section
variable (L:List LT)(C:Adr)
inductive WV (vs:List V)(H:Hp)(Q:VK)(_E:XK):Prop | mk (p dx c:Addr) (k:Nat) (_:vs=[.ref p,.int k,.ref c]) (_:H p=some (.ins C.plc dx [])) (_:Q .non (upd H p (.ins C.plc dx (Gy k c))))
inductive UQ (vs:List V)(H:Hp)(Q:VK)(_E:XK):Prop | mk (p dx ca oa:Addr) (r:Nat) (_:vs=[.ref p,.ref ca,.ref oa,.int r]) (_:H p=some (.ins C.prv dx [])) (_:Q .non (upd H p (.ins C.prv dx (z2K ca oa r))))
inductive z1R (vs:List V)(H:Hp)(Q:VK)(_E:XK):Prop | mk (a dx c:Addr) (x:Plc) (_:vs=[.ref a]) (_:H a=some (.ins C.plc dx (Gy x.at_ c))) (_:zj H c x.set_) (_:x.set_.length≤1000) (_:∀H' p b1 b2 d1 d2 c2,Kp L H H'→H p=none→H' p=some (.lst [.ref b1,.ref b2])→H' b1=some (.ins C.plc d1 (Gy (x.at_+1) c))→H' b2=some (.ins C.plc d2 (Gy (x.at_+1) c2))→zj H' c2 (x.set_++[x.at_])→H c2=none→Q (.ref p) H')
inductive z2l (vs:List V)(H:Hp)(Q:VK)(_E:XK):Prop | mk (a c:Addr) (W:List Addr) (b:Pb) (x:Plc) (_:vs=[.ref a,.ref c]) (_:z1z C H a b) (_:Ze C W H c x) (_:PbOk b) (_:Vh b.l.length x) (_:∀H',Kp L H H'→Q (.int (jX b.p x.set_ x.at_:Nat)) H')
inductive z1S (vs:List V)(H:Hp)(Q:VK)(_E:XK):Prop | mk (a c:Addr) (W:List Addr) (b:Pb) (x:Plc) (z m:Nat) (_:vs=[.ref a,.int z,.ref c,.int m]) (_:z1z C H a b) (_:Ze C W H c x) (_:PbOk b) (_:Vh b.l.length x) (_:∀H',Kp L H H'→Q (.bl (WF b.p b.r m z x)) H')
inductive Q6 (vs:List V)(H:Hp)(Q:VK)(_E:XK):Prop | mk (a c:Addr) (W:List Addr) (b:Pb) (x:Plc) (m:Nat) (_:vs=[.ref a,.ref c,.int m]) (_:z1z C H a b) (_:Ze C W H c x) (_:PbOk b) (_:Vh b.l.length x) (_:∀H',Kp L H H'→Q (.int (QU b.p b.r m x:Nat)) H')
end
section
variable {P:Program}{w:World}{K:z4}{mg:Str→Option Value}{base:Heap}{L:List LT}{C:Adr}{k:Nat}{f:Addr}{fd:FuncData}
theorem z7a:zy ["self","looked_at","chosen"] ["self","looked_at","chosen"] (zh (z0Z 0)):=scp
theorem z7L (T:Txt K mg C)(F:Fun K "__init__" "Place.__init__" (z0Z 0) f fd):yT P w K mg base 1 ["self","looked_at","chosen"] (WV C) f:=by
 refine F.okN z7a (fun cdv A outer s H vs Q E hr h=>?_)
 ·obtain ⟨p,dx,c,k,rfl,hp,q⟩:=h
  refine ⟨_,z6 (jk (pv 0) (pv 1) rfl) (z9 (jk (pv 0) (pv 2) rfl)),?_⟩
  refine ⟨_,rfl,_,rfl,⟨_,_,_,_,rfl,hp,T.plc.cl,T.plc.nn,few,⟨_,rfl,_,rfl,⟨_,_,_,_,rfl,z5,T.plc.cl,T.plc.nn,few,?_⟩⟩⟩⟩
  rw [Z3]
  exact q
theorem z79:zy ["self","costs","offers","room"] ["self","costs","offers","room"] (zh (Zv 0)):=scp
theorem z7K (T:Txt K mg C)(F:Fun K "__init__" "Prover.__init__" (Zv 0) f fd):yT P w K mg base 1 ["self","costs","offers","room"] (UQ C) f:=by
 refine F.okN z79 (fun cdv A outer s H vs Q E hr h=>?_)
 ·obtain ⟨p,dx,ca,oa,r,rfl,hp,q⟩:=h
  refine ⟨_,z6 (jk (pv 0) (pv 1) rfl) (z6 (jk (pv 0) (pv 2) rfl) (z9 (jk (pv 0) (pv 3) rfl))),?_⟩
  refine ⟨_,rfl,_,rfl,⟨_,_,_,_,rfl,hp,T.prv.cl,T.prv.nn,few,⟨_,rfl,_,rfl,⟨_,_,_,_,rfl,z5,T.prv.cl,T.prv.nn,few,⟨_,rfl,_,rfl,⟨_,_,_,_,rfl,z5,T.prv.cl,T.prv.nn,few,?_⟩⟩⟩⟩⟩⟩
  rw [Z3,Z3]
  exact q
theorem z5E:zy ["self","behind"] ["self"] (zh (z0Z 1)):=scp
theorem zaz (T:Txt K mg C)(F:Fun K "parts" "Place.parts" (z0Z 1) f fd)(mp:ju P w K mg base k "Place" C.plc ["self","looked_at","chosen"] (WV C)):yT P w K mg base (k+1) ["self"] (z1R L C) f:=by
 refine F.okN z5E (fun cdv A outer s H vs Q E hr h=>?_)
 ·obtain ⟨a,dx,c,x,rfl,ha,hc,hl,hq⟩:=h
  refine ⟨_,z6 (zK (i:=1) z5E.nd rfl loc (jr Yd (zm (pv 0) rfl) yb))
   (z9 (zA (yy (z3 (JP mp hr rfl zL (z3 (pv 1) (z3 (zm (pv 0) rfl) z7))) (z3 (JP mp hr rfl zL (z3 (pv 1) (z3 (jr Jv (zm (pv 0) rfl) (yy (z3 (zm (pv 0) rfl) z7))) z7))) z7))))),?_⟩
  refine ⟨_,rfl,⟨_,_,_,_,_,rfl,ha,T.plc.cl,T.plc.nn,z1V,⟨_,_,rfl,rfl,_,rfl,_,rfl,⟨_,_,_,_,_,rfl,ha,T.plc.cl,T.plc.nn,Va,(fun b1 d1 nb1 nd1 ne1=>⟨b1,d1,c,x.at_+1,rfl,z5,rfl,?_⟩)⟩⟩⟩⟩
  have k1:Kp L H _:=Zn (C:=C.plc) (o:=.ins C.plc d1 (Gy (x.at_+1) c)) nb1 nd1 ne1
  have h1:(upd (upd (upd H d1 (.own b1)) b1 (.ins C.plc d1 [])) b1 (.ins C.plc d1 (Gy (x.at_+1) c))) b1=_:=z5
  generalize (upd (upd (upd H d1 (.own b1)) b1 (.ins C.plc d1 [])) b1 (.ins C.plc d1 (Gy (x.at_+1) c)))=H1 at k1 h1
  refine ⟨_,rfl,_,rfl,⟨_,_,_,_,_,rfl,k1.ins ha,T.plc.cl,T.plc.nn,Va,⟨_,rfl,⟨_,_,_,_,_,rfl,k1.ins ha,T.plc.cl,T.plc.nn,z1V,⟨(by show 1≤sizeLine;decide),fun e2 ne2=>?_⟩⟩⟩⟩⟩
  have k2:=k1.new (o:=.lst [.int (x.at_:Int)]) ne2
  have hc2:=zj.kp hc k2
  have big:(3000:Nat)≤sizeLine:=by decide
  refine ⟨c,e2,_,_,rfl,rfl,hc2,z5,?_,fun c2 nc2=>?_⟩
  ·rw [yM];show x.set_.length+1≤_;omega
  have k3:=k2.new (o:=.lst (yJ x.set_++[.int (x.at_:Int)])) nc2
  have h13:Kp L H1 _:=(Kp.refl.new (o:=.lst [.int (x.at_:Int)]) ne2).new (o:=.lst (yJ x.set_++[.int (x.at_:Int)])) nc2
  have hc3:zj (upd (upd H1 e2 (.lst [.int (x.at_:Int)])) c2 (.lst (yJ x.set_++[.int (x.at_:Int)]))) c2 (x.set_++[x.at_]):=by unfold zj;rw [z5,qe]
  have nc2':H c2=none:=k2.free nc2
  generalize (upd (upd H1 e2 (.lst [.int (x.at_:Int)])) c2 (.lst (yJ x.set_++[.int (x.at_:Int)])))=H3 at k3 h13 hc3
  refine fun b2 d2 nb2 nd2 ne3=>⟨b2,d2,c2,x.at_+1,rfl,z5,rfl,?_⟩
  have k4:Kp L H3 _:=Zn (C:=C.plc) (o:=.ins C.plc d2 (Gy (x.at_+1) c2)) nb2 nd2 ne3
  have h4:(upd (upd (upd H3 d2 (.own b2)) b2 (.ins C.plc d2 [])) b2 (.ins C.plc d2 (Gy (x.at_+1) c2))) b2=_:=z5
  generalize (upd (upd (upd H3 d2 (.own b2)) b2 (.ins C.plc d2 [])) b2 (.ins C.plc d2 (Gy (x.at_+1) c2)))=H4 at k4 h4
  refine ⟨(by show 2≤sizeLine;decide),fun p np=>?_⟩
  have k5:Kp L H4 (upd H4 p (.lst [.ref b1,.ref b2])):=Kp.refl.new np
  exact hq _ p b1 b2 d1 d2 c2 ((k3.trans k4).trans k5) ((k3.trans k4).free np) z5 (k5.ins (k4.ins (h13.ins h1))) (k5.ins h4) (zj.kp (zj.kp hc3 k4) k5) nc2'
theorem z5s {k n:Nat}(h:k≤n):((zf ((n:Int) - (k:Int)).toNat).map fun (i:Nat)=>V.int ((k:Int)+(i:Int)))=yJ ((zf (n - k)).map fun i=>k+i):=by
 rw [show ((n:Int) - (k:Int)).toNat=n - k by omega]
 unfold yJ
 rw [zI]
 refine W3 fun i _=>?_
 show V.int _=V.int ((k+i:Nat):Int)
 rw [ZR]
theorem z3I:zy ["self","place","unseen"] ["self","place"] (zh (Zv 1)):=scp
theorem z9w (T:Txt K mg C)(F:Fun K "lowest_cost" "Prover.lowest_cost" (Zv 1) f fd)(ac:ya P w K mg base k "asking_cost" ["costs","chosen"] (WY L))(su:ya P w K mg base k "set_upkeep" ["offers","chosen"] (Wc L C)) :
  yT P w K mg base (k+1) ["self","place"] (z2l L C) f:=by
 refine F.okN z3I (fun cdv A outer s H vs Q E hr h=>?_)
 ·obtain ⟨a,c,W,b,x,rfl,⟨da,ca,oa,ha,hC,hO⟩,⟨dc,cc,hc,hN,_⟩,bok,xok,hq⟩:=h
  obtain ⟨os,hS,hA⟩:=id hO
  have hol:(os.map V.ref).length=b.l.length:=by rw [z0,hA.len]
  refine ⟨_,z6 (zK (i:=2) z3I.nd rfl loc (z7u rfl rfl T.bl rfl T.bl (z3 (zm (pv 1) rfl) (z3 (yq y6 rfl T.bl jt (z3 (zm (pv 0) rfl) z7)) z7))))
   (z9 (zA (jr Yd (yH ac hr rfl zL (z3 (zm (pv 0) rfl) (z3 (jr Jv (zm (pv 1) rfl) (pv 2)) z7))) (yH su hr rfl zL (z3 (zm (pv 0) rfl) (z3 (zm (pv 1) rfl) z7)))))),?_⟩
  have l8:=bok.l
  have xle:=xok.le
  have xl:=xok.len
  refine ⟨_,rfl,⟨_,_,_,_,_,rfl,hc,T.plc.cl,T.plc.nn,z1V,⟨_,rfl,⟨_,_,_,_,_,rfl,ha,T.prv.cl,T.prv.nn,Wi,⟨oa,_,rfl,.inl (SqL.of hS),_,_,rfl,⟨by omega,by omega,by omega,by omega⟩,by omega,fun p1 n1=>?_⟩⟩⟩⟩⟩
  rw [hol,z5s xle]
  have k1:Kp L H (upd H p1 (.lst (yJ ((zf (b.l.length - x.at_)).map fun i=>x.at_+i)))):=Kp.refl.new n1
  have h1:zj (upd H p1 (.lst (yJ ((zf (b.l.length - x.at_)).map fun i=>x.at_+i)))) p1 ((zf (b.l.length - x.at_)).map fun i=>x.at_+i):=z5
  generalize upd H p1 (.lst (yJ ((zf (b.l.length - x.at_)).map fun i=>x.at_+i)))=H1 at k1 h1
  have big:(3000:Nat)≤sizeLine:=by decide
  refine ⟨_,rfl,⟨_,_,_,_,_,rfl,k1.ins ha,T.prv.cl,T.prv.nn,z7r,⟨_,rfl,⟨_,_,_,_,_,rfl,k1.ins hc,T.plc.cl,T.plc.nn,Va,⟨_,rfl,cc,p1,_,_,rfl,rfl,zj.kp hN k1,h1,?_,fun p2 n2=>?_⟩⟩⟩⟩⟩
  ·rw [yM,yM,z0,yA];omega
  have k2:=k1.new (o:=.lst (yJ x.set_++yJ ((zf (b.l.length - x.at_)).map fun i=>x.at_+i))) n2
  have h2:zj (upd H1 p2 (.lst (yJ x.set_++yJ ((zf (b.l.length - x.at_)).map fun i=>x.at_+i)))) p2 (x.set_++(zf (b.l.length - x.at_)).map fun i=>x.at_+i):=by
   unfold zj;rw [z5];unfold yJ;rw [zw]
  generalize upd H1 p2 (.lst (yJ x.set_++yJ ((zf (b.l.length - x.at_)).map fun i=>x.at_+i)))=H2 at k2 h2
  refine ⟨ca,p2,b.t,b.qs,b.l,_,rfl,jC hC k2,h2,bok.q,fun i hi=>?_,fun H3 k3=>?_⟩
  ·rcases zQ.mp hi with hi | hi
   ·have:=xok.lt i hi;omega
   ·obtain ⟨j,hj,rfl⟩:=yr.mp hi
    have:=YX.mp hj
    omega
  have k13:=k2.trans k3
  refine ⟨_,rfl,⟨_,_,_,_,_,rfl,k13.ins ha,T.prv.cl,T.prv.nn,Wi,⟨_,rfl,⟨_,_,_,_,_,rfl,k13.ins hc,T.plc.cl,T.plc.nn,Va,⟨oa,cc,b.t,b.qs,b.l,x.set_,rfl,jN hO k13,zj.kp hN k13,by omega,fun i hi=>by have:=xok.lt i hi;omega,fun H4 k4=>⟨_,_,rfl,rfl,?_⟩⟩⟩⟩⟩⟩
  have q1:=hq H4 (k13.trans k4)
  unfold jX at q1
  rw [qL,ZR] at q1
  exact q1
theorem zak:zy ["self","step","place","cost"] ["self","step","place","cost"] (zh (Zv 2)):=scp
theorem zaB (T:Txt K mg C)(F:Fun K "holds" "Prover.holds" (Zv 2) f fd)(lw:zD P w K mg base k C.prv "lowest_cost" ["self","place"] (z2l L C))(sr:ya P w K mg base k "set_room" ["offers","chosen"] (JS L C)) :
  yT P w K mg base (k+1) ["self","step","place","cost"] (z1S L C) f:=by
 refine F.okN zak (fun cdv A outer s H vs Q E hr h=>?_)
 ·obtain ⟨a,c,W,b,x,z,m,rfl,hP,hX,bok,xok,hq⟩:=h
  obtain ⟨da,ca,oa,ha,hC,hO⟩:=id hP
  obtain ⟨dc,cc,hc,hN,_⟩:=id hX
  obtain ⟨os,hS,hA⟩:=id hO
  have hol:(os.map V.ref).length=b.l.length:=by rw [z0,hA.len]
  refine ⟨_,z6 (jb (zZ Zz (pv 1) (yx rfl (T.n (n:=0))) (yj _)) (z9 (zA (ZJ VT (zm (pv 2) rfl) (yq y6 rfl T.bl jt (z3 (zm (pv 0) rfl) z7)) (yj _)))) yp)
   (z6 (jb (zZ Zz (pv 1) (yx rfl (T.n (n:=1))) (yj _)) (z9 (zA (ZJ z2N (pv 3) (jv lw hr zL (pv 0) (z3 (pv 2) z7)) (yj _)))) yp)
   (z9 (zA (ZJ Up (yH sr hr rfl zL (z3 (zm (pv 0) rfl) (z3 (zm (pv 2) rfl) z7))) (zm (pv 0) rfl) (yj _))))),?_⟩
  refine ⟨_,rfl,rfl,_,rfl,?_⟩
  unfold WF at hq
  by_cases h0:z=0
  ·subst h0
   refine Uw rfl ⟨_,rfl,⟨_,_,_,_,_,rfl,hc,T.plc.cl,T.plc.nn,z1V,⟨_,rfl,⟨_,_,_,_,_,rfl,ha,T.prv.cl,T.prv.nn,Wi,⟨oa,_,rfl,.inl (SqL.of hS),_,_,rfl,rfl,?_⟩⟩⟩⟩⟩
   have q:=hq H .refl
   rw [if_pos rfl,qL] at q
   rw [show decide (x.at_<b.l.length)=decide ((x.at_:Int)<((os.map V.ref).length:Int)) by rw [hol,y8];simp] at q
   exact q
  have n0:¬(decide (V.int (z:Int)=V.int 0)=true):=fun y=>by
   have y:(z:Int)=0:=V.int.inj (of_decide_eq_true y)
   omega
  refine GV n0 ⟨_,rfl,rfl,_,rfl,?_⟩
  by_cases h1:z=1
  ·subst h1
   refine Uw rfl ⟨_,rfl,_,rfl,a,da,_,rfl,ha,(by kernel_rfl),_,rfl,a,c,W,b,x,rfl,hP,hX,bok,xok,fun H1 k1=>⟨_,_,rfl,rfl,?_⟩⟩
   have q:=hq H1 k1
   rw [if_neg h0,if_pos rfl] at q
   rw [show decide (m≤jX b.p x.set_ x.at_)=decide ((m:Int)≤((jX b.p x.set_ x.at_:Nat):Int)) by rw [y8];simp] at q
   exact q
  ·have n1:¬(decide (V.int (z:Int)=V.int 1)=true):=fun y=>by
    have y:(z:Int)=1:=V.int.inj (of_decide_eq_true y)
    omega
   have xl:=xok.len
   have l8:=bok.l
   refine GV n1 ⟨_,rfl,⟨_,_,_,_,_,rfl,ha,T.prv.cl,T.prv.nn,Wi,⟨_,rfl,⟨_,_,_,_,_,rfl,hc,T.plc.cl,T.plc.nn,Va,⟨oa,cc,b.t,b.qs,b.l,x.set_,rfl,hO,hN,by omega,fun i hi=>by have:=xok.lt i hi;have:=xok.le;omega,fun H1 k1=>⟨_,rfl,⟨_,_,_,_,_,rfl,k1.ins ha,T.prv.cl,T.prv.nn,z9o,⟨_,_,rfl,rfl,?_⟩⟩⟩⟩⟩⟩⟩⟩
   have q:=hq H1 k1
   rw [if_neg h0,if_neg h1] at q
   rw [show decide (b.r<yk b.p x.set_)=decide ((b.r:Int)<((yk b.p x.set_:Nat):Int)) by rw [y8];simp] at q
   exact q
theorem z1o:zy ["self","place","cost","step"] ["self","place","cost"] (zh (Zv 3)):=scp
theorem z65 (T:Txt K mg C)(F:Fun K "made_step" "Prover.made_step" (Zv 3) f fd)(ho:zD P w K mg base k C.prv "holds" ["self","step","place","cost"] (z1S L C)) :
  yT P w K mg base (k+1) ["self","place","cost"] (Q6 L C) f:=by
 refine F.okN z1o (fun cdv A outer s H vs Q E hr h=>?_)
 ·obtain ⟨a,c,W,b,x,m,rfl,hP,hX,bok,xok,hq⟩:=h
  refine ⟨_,z6 (Vo ji rfl (pi_tup (z4D (z3 (yx rfl (T.n (n:=2))) (z3 (yx rfl (T.n (n:=1))) z7)))) (yB (i:=3) z1o.nd rfl loc)
    (z9 (jb (ZW (jv ho hr zL (pv 0) (z3 (pv 3) (z3 (pv 1) (z3 (pv 2) z7))))) (z9 (zA (pv 3))) yp)))
   (z9 (zA (yx rfl (T.n (n:=0))))),?_⟩
  refine ⟨(by show 2≤sizeLine;decide),fun tp ntp=>?_⟩
  have k0:Kp L H (upd H tp (.tup [.int 2,.int 1])):=Kp.refl.new ntp
  have h0:(upd H tp (.tup [.int 2,.int 1])) tp=some (.tup [.int 2,.int 1]):=z5
  generalize upd H tp (.tup [.int 2,.int 1])=H0 at k0 h0
  refine ⟨tp,rfl,⟨_,SqT.of h0⟩,for_tup (K:=K) (a:=tp) (xs:=[.int 2,.int 1]) (fun i σ H'=>∃v3:Option V,σ=[some (.ref a),some (.ref c),some (.int (m:Int)),v3]∧Kp L H0 H'∧(0<i→WF b.p b.r m 2 x=false)∧(1<i→WF b.p b.r m 1 x=false)) ⟨none,rfl,.refl,(fun z=>absurd z (by decide)),(fun z=>absurd z (by decide))⟩
   (fun i σ H' _ ⟨_,_,k,_⟩=>SqT.of (k.obj _ _ h0 (by intro _ z;cases z))) ?_ ?_⟩
  ·rintro i v σ H' hv ⟨v3,rfl,k1,f2,f1⟩
   have k01:=k0.trans k1
   obtain ⟨da,ca,oa,ha,_⟩:=hP.kp k01
   match i,hv with
   | 0,hv=>
    have ev:v=.int ((2:Nat):Int):=(zG hv).symm
    subst ev
    refine ⟨_,rfl,a,da,_,rfl,ha,(by kernel_rfl),_,rfl,_,rfl,_,rfl,a,c,W,b,x,2,m,rfl,hP.kp k01,hX.kp k01,bok,xok,fun H2 k2=>⟨_,rfl,?_⟩⟩
    refine Zc (fun h=>?_) (fun h=>?_)
    ·refine ⟨_,rfl,?_⟩
     have q:=hq H2 (k01.trans k2)
     unfold QU at q
     rw [if_pos h] at q
     exact q
    ·exact ⟨_,rfl,k1.trans k2,fun _=>by simpa using h,fun z=>absurd z (by decide)⟩
   | 1,hv=>
    have ev:v=.int ((1:Nat):Int):=(zG hv).symm
    subst ev
    refine ⟨_,rfl,a,da,_,rfl,ha,(by kernel_rfl),_,rfl,_,rfl,_,rfl,a,c,W,b,x,1,m,rfl,hP.kp k01,hX.kp k01,bok,xok,fun H2 k2=>⟨_,rfl,?_⟩⟩
    have g2:=f2 (by decide)
    refine Zc (fun h=>?_) (fun h=>?_)
    ·refine ⟨_,rfl,?_⟩
     have q:=hq H2 (k01.trans k2)
     unfold QU at q
     rw [if_neg (by rw [g2];decide),if_pos h] at q
     exact q
    ·exact ⟨_,rfl,k1.trans k2,fun _=>g2,fun _=>by simpa using h⟩
   | n+2,hv=>exact absurd hv (by simp)
  ·rintro σ H' ⟨v3,rfl,k1,f2,f1⟩
   have q:=hq H' (k0.trans k1)
   unfold QU at q
   rw [if_neg (by rw [f2 (by decide)];decide),if_neg (by rw [f1 (by decide)];decide)] at q
   exact q
end
open Vaidxd (Offer Costs Problem Set_ costsOf problemOf Proof)
def z3o (p:Problem)(r:Nat)(ps:List Plc):List Nat:=ps.reverse.flatMap fun x=>yX (made p r x)
theorem G0 {p:Problem}{r:Nat}{ps:List Plc}{x:Plc}:z3o p r (ps++[x])=yX (made p r x)++z3o p r ps:=by
 unfold z3o
 rw [Y7]
 rfl
theorem z5P {p:Problem}{r:Nat}:∀ps:List Plc,ps.length≤(z3o p r ps).length:=fun ps=>by
 have:∀l:List Plc,l.length≤(l.flatMap fun x=>yX (made p r x)).length:=fun l=>by
  induction l with
  | nil=>exact zb _
  | cons x l ih=>
   rw [ZQ,za,zu]
   have:=z3V (made p r x)
   omega
 have h:=this ps.reverse
 rw [Y8] at h
 exact h
def z5O (ps:List (Plc×Proof)):List Nat:=ps.reverse.flatMap fun x=>yX x.2
theorem z14 {ps:List (Plc×Proof)}{x:Plc×Proof}:z5O (ps++[x])=yX x.2++z5O ps:=by
 unfold z5O
 rw [Y7]
 rfl
theorem z5N:∀ps:List (Plc×Proof),ps.length≤(z5O ps).length:=fun ps=>by
 have:∀l:List (Plc×Proof),l.length≤(l.flatMap fun x=>yX x.2).length:=fun l=>by
  induction l with
  | nil=>exact zb _
  | cons x l ih=>
   rw [ZQ,za,zu]
   have:=z3V x.2
   omega
 have h:=this ps.reverse
 rw [Y8] at h
 exact h
section
variable {α:Type}{R:Addr→α→Prop}{as:List Addr}{ds:List α}{d:α}
theorem z6y (h:Ats R as (ds++[d])):∃bs a,as=bs++[a]∧Ats R bs ds∧R a d:=by
 have hl:=h.len
 rw [za] at hl
 have hne:as≠[]:=fun z=>by rw [z] at hl;simp at hl
 obtain ⟨bs,a,rfl⟩:=z1X hne
 rw [za] at hl
 have hl:bs.length=ds.length:=z0x hl
 refine ⟨bs,a,rfl,⟨hl,fun i b e hb he=>?_⟩,?_⟩
 ·have lt:=(zo.mp hb).1
  exact h.at_ i b e (by rw [jx lt];exact hb) (by rw [jx (by omega)];exact he)
 ·exact h.at_ bs.length a d (by simp) (by rw [hl];simp)
end
section
variable (L:List LT)(C:Adr)
inductive Ud (vs:List V)(H:Hp)(Q:VK)(_E:XK):Prop | mk (a:Addr) (b:Pb) (_:vs=[.ref a,.int (ym b.p b.r:Nat)]) (_:z1z C H a b) (_:PbOk b) (_:∀H' p,Kp L H H'→H p=none→zj H' p (yX (jd b.p b.r))→Q (.ref p) H')
inductive z0T (vs:List V)(H:Hp)(Q:VK)(_E:XK):Prop | mk (a s:Addr) (b:Pb) (m:Nat) (q:Proof) (_:vs=[.ref a,.ref s,.int m]) (_:z1z C H a b) (_:PbOk b) (_:zj H s (yX q)) (_:(yX q).length≤1000) (_:∀H',Kp L H H'→Q (.bl (JO b.p b.r m 0 [] q)) H')
end
section
variable {P:Program}{w:World}{K:z4}{mg:Str→Option Value}{base:Heap}{L:List LT}{C:Adr}{k:Nat}{f:Addr}{fd:FuncData}
theorem Jr:zy ["self","least","steps","waiting","place","step"] ["self","least"] (zh (Zv 4)):=scp
theorem z4W (T:Txt K mg C)(F:Fun K "made_proof" "Prover.made_proof" (Zv 4) f fd)(mp:ju P w K mg base k "Place" C.plc ["self","looked_at","chosen"] (WV C))(ms:zD P w K mg base k C.prv "made_step" ["self","place","cost"] (Q6 L C))
  (pt:zD P w K mg base k C.plc "parts" ["self"] (z1R L C)):yT P w K mg base (k+1) ["self","least"] (Ud L C) f:=by
 refine F.okN Jr (fun cdv A outer s H vs Q E hr h=>?_)
 ·obtain ⟨a,b,rfl,hP,bok,hq⟩:=h
  refine ⟨_,z6 (zK (i:=2) Jr.nd rfl loc (yy z7))
   (z6 (zK (i:=3) Jr.nd rfl loc (yy (z3 (JP mp hr rfl zL (z3 yb (z3 (yy z7) z7))) z7)))
   (z6 (Uk ji (zZ Up (yq y6 rfl T.bl jt (z3 (pv 3) z7)) yb (yj _))
    (z6 (zK (i:=4) Jr.nd rfl loc (z7w zF U0 GZ z82 (pv 3)))
    (z6 (zK (i:=5) Jr.nd rfl loc (jv ms hr zL (pv 0) (z3 (pv 4) (z3 (pv 1) z7))))
    (z6 (Z4 (Ju zF yL yK ZX (pv 2) (z3 (pv 5) z7)))
    (z9 (jb (zZ Zz (pv 5) (yx rfl (T.n (n:=0))) (yj _))
     (z9 (Z4 (Ju zF jE jD JY (pv 3) (z3 (jQ pt hr zL (pv 4)) z7)))) yp))))))
   (z9 (zA (pv 2))))),?_⟩
  have l8:=bok.l
  have htot:(yX (made b.p b.r ⟨0,[]⟩)).length<1024:=by
   have h1:=z0e b.p b.r (ym b.p b.r) (zN b.p+1 - 0) 0 []
   refine zW h1 ?_
   have:2 ^ (zN b.p+1 - 0+1)≤2 ^ 10:=VL (by decide) (by rw [qL];omega)
   exact this
  have big:(5000:Nat)≤sizeLine:=by decide
  refine ⟨zk _,fun sp nsp=>?_⟩
  have k1:Kp L H (upd H sp (.lst [])):=Kp.refl.new nsp
  have h1:zj (upd H sp (.lst [])) sp []:=z5
  generalize upd H sp (.lst [])=H1 at k1 h1
  refine ⟨zk _,fun c0 nc0=>?_⟩
  have k2:Kp L H1 (upd H1 c0 (.lst [])):=Kp.refl.new nc0
  have hc0:zj (upd H1 c0 (.lst [])) c0 []:=z5
  generalize upd H1 c0 (.lst [])=H2 at k2 hc0
  refine fun x0 d0 nx nd ne=>⟨x0,d0,c0,0,rfl,z5,rfl,?_⟩
  have k3:Kp L H2 _:=Zn (C:=C.plc) (o:=.ins C.plc d0 (Gy 0 c0)) nx nd ne
  have hx0:(upd (upd (upd H2 d0 (.own x0)) x0 (.ins C.plc d0 [])) x0 (.ins C.plc d0 (Gy 0 c0))) x0=_:=z5
  generalize (upd (upd (upd H2 d0 (.own x0)) x0 (.ins C.plc d0 [])) x0 (.ins C.plc d0 (Gy 0 c0)))=H3 at k3 hx0
  refine ⟨(by show 1≤sizeLine;decide),fun wt nwt=>?_⟩
  have k4:Kp L H3 (upd H3 wt (.lst [.ref x0])):=Kp.refl.new nwt
  have nw1:H1 wt=none:=k2.free (k3.free nwt)
  have nw0:H wt=none:=k1.free nw1
  have sw:sp≠wt:=zT h1 nw1
  have k14:=((k1.trans k2).trans k3).trans k4
  refine ⟨fun d σ H'=>∃(out:List Nat) (as:List Addr) (ps:List Plc) (v4 v5:Option V),d=(z3o b.p b.r ps).length∧σ=[some (.ref a),some (.int (ym b.p b.r:Nat)),some (.ref sp),some (.ref wt),v4,v5]∧Kp L H H'∧zj H' sp out∧H' wt=some (.lst (as.map V.ref))∧
   Ats (Ze C [sp,wt] H') as ps∧(∀x∈ps,Vh b.l.length x)∧out++z3o b.p b.r ps=yX (made b.p b.r ⟨0,[]⟩),⟨_,[],[x0],[⟨0,[]⟩],none,none,rfl,rfl,k14,?_,z5,?_,?_,?_⟩,?_⟩
  ·exact zj.kp h1 ((k2.trans k3).trans k4)
  ·refine Ats.snoc (as:=[]) (ds:=[]) .nil ⟨d0,c0,k4.ins hx0,zj.kp (zj.kp hc0 k3) k4,fun y hy=>?_⟩
   rcases zx.mp hy with e | hy
   ·rw [e];exact j1 (zT h1 nc0)
   ·rw [zi.mp hy];exact zT hc0 (k3.free nwt)
  ·intro x hx
   rw [zi.mp hx]
   exact ⟨zk _,.nil,fun i h=>by cases h⟩
  ·unfold z3o;simp
  ·rintro d σ H' ⟨out,as,ps,v4,v5,rfl,rfl,k5,hsp,hwt,hA,hok,hrem⟩
   have hlen:=congrArg JK hrem
   rw [za] at hlen
   have hpl:=z5P (p:=b.p) (r:=b.r) ps
   have hal:=hA.len
   refine ⟨_,rfl,wt,_,rfl,.inl (SqL.of hwt),_,_,rfl,rfl,_,rfl,?_⟩
   refine Zc (fun h=>?_) (fun h=>?_)
   ·have hne:ps≠[]:=fun z=>by
     subst z
     have h:=of_decide_eq_true h
     have h:(0:Int)<((as.map V.ref).length:Int):=h
     rw [z0,hal] at h
     simp at h
    obtain ⟨qs,x,rfl⟩:=z1X hne
    obtain ⟨bs,c,rfl,hB,hX⟩:=z6y hA
    have xok:=hok x (by simp)
    rw [G0] at hrem hlen ⊢
    have hme:=made_eq (p:=b.p) (room:=b.r) (x:=x) (by rw [qL];exact xok)
    refine ⟨fun σ' H''=>∃(out:List Nat) (as:List Addr) (ps:List Plc) (v4 v5:Option V),(z3o b.p b.r ps).length<(yX (made b.p b.r x)++z3o b.p b.r qs).length∧σ'=[some (.ref a),some (.int (ym b.p b.r:Nat)),some (.ref sp),some (.ref wt),v4,v5]∧Kp L H H''∧zj H'' sp out∧H'' wt=some (.lst (as.map V.ref))∧
     Ats (Ze C [sp,wt] H'') as ps∧(∀x∈ps,Vh b.l.length x)∧out++z3o b.p b.r ps=yX (made b.p b.r ⟨0,[]⟩),fun σ' H'' ⟨out,as,ps,v4,v5,x0,x1,x2,x3,x4,x5,x6,x7⟩=>⟨_,x0,out,as,ps,v4,v5,rfl,x1,x2,x3,x4,x5,x6,x7⟩,?_⟩
    have hlst:(bs++[c]).map V.ref=bs.map V.ref++[.ref c]:=by rw [zw];rfl
    rw [hlst] at hwt
    refine ⟨_,rfl,.inl ⟨rfl,_,SqL.of hwt⟩,wt,_,.ref c,rfl,rfl,hwt,z31,?_⟩
    rw [QI]
    have k6:Kp L H (upd H' wt (.lst (bs.map V.ref))):=k5.putL nw0 hwt
    have hB6:Ats (Ze C [sp,wt] (upd H' wt (.lst (bs.map V.ref)))) bs qs:=hB.imp fun _ _ r=>Ze.put r hwt (by simp)
    have hX6:=Ze.put (o:=.lst (bs.map V.ref)) hX hwt (by simp)
    have hsp6:zj (upd H' wt (.lst (bs.map V.ref))) sp out:=by unfold zj;rw [zl sw];exact hsp
    have hwt6:(upd H' wt (.lst (bs.map V.ref))) wt=some (.lst (bs.map V.ref)):=z5
    generalize upd H' wt (.lst (bs.map V.ref))=H6 at k6 hB6 hX6 hsp6 hwt6
    obtain ⟨da,ca,oa,ha,_⟩:=hP.kp k6
    refine ⟨_,rfl,a,da,_,rfl,ha,(by kernel_rfl),_,rfl,_,rfl,a,c,[sp,wt],b,x,_,rfl,hP.kp k6,hX6,bok,xok,fun H7 k7=>?_⟩
    have k67:=k6.trans k7
    have hsp7:=zj.kp hsp6 k7
    have hfl:(yX (made b.p b.r x)).length≤1024:=by rw [za] at hlen;omega
    refine ⟨_,rfl,.inl ⟨rfl,_,hsp7.sq⟩,_,rfl,sp,_,_,rfl,rfl,hsp7,?_,?_⟩
    ·rw [yM];omega
    generalize hz:QU b.p b.r (ym b.p b.r) x=z at hme ⊢
    have k8:Kp L H (upd H7 sp (.lst (yJ out++[.int (z:Int)]))):=k67.putL nsp hsp7
    have hB8:Ats (Ze C [sp,wt] (upd H7 sp (.lst (yJ out++[.int (z:Int)])))) bs qs:=hB6.imp fun _ _ r=>Ze.put (Ze.kp r k7) hsp7 (by simp)
    have hX8:=Ze.put (o:=.lst (yJ out++[.int (z:Int)])) (Ze.kp hX6 k7) hsp7 (by simp)
    have hsp8:zj (upd H7 sp (.lst (yJ out++[.int (z:Int)]))) sp (out++[z]):=by unfold zj;rw [z5,qe]
    have hwt8:(upd H7 sp (.lst (yJ out++[.int (z:Int)]))) wt=some (.lst (bs.map V.ref)):=by rw [zl (j1 sw)];exact k7.lst hwt6
    generalize upd H7 sp (.lst (yJ out++[.int (z:Int)]))=H8 at k8 hB8 hX8 hsp8 hwt8
    refine ⟨_,rfl,rfl,_,rfl,?_⟩
    by_cases h0:z=0
    ·subst h0
     obtain ⟨hlt,hfe⟩:=hme.2 rfl
     rw [qL] at hlt
     obtain ⟨dc,cc,hc8,hN8,hav⟩:=id hX8
     have xl:=xok.len
     refine Uw rfl ⟨_,rfl,.inl ⟨rfl,_,SqL.of hwt8⟩,_,rfl,c,dc,_,rfl,hc8,(by kernel_rfl),c,dc,cc,x,rfl,hc8,hN8,by omega,fun H9 p b1 b2 d1 d2 c2 k9 np hp hb1 hb2 hc2 nc2=>?_⟩
     have hwt9:=k9.lst hwt8
     have hbl:=hB8.len
     have hql:=z5P (p:=b.p) (r:=b.r) qs
     rw [za] at hlen
     refine ⟨wt,p,_,_,rfl,rfl,hwt9,hp,?_,?_⟩
     ·rw [z0]
      show bs.length+2≤sizeLine
      omega
     ·refine ⟨out++[0],bs++[b1]++[b2],qs++[x.without]++[x.with_],_,_,?_,rfl,(k8.trans k9).putL nw0 hwt9,?_,?_,?_,fun y hy=>?_,?_⟩
      ·rw [G0,G0,hfe,za,za,za,zu,za];omega
      ·unfold zj;rw [zl sw];exact zj.kp hsp8 k9
      ·rw [z5,zw,zw,jq];rfl
      ·refine Ats.snoc (Ats.snoc (hB8.imp fun _ _ r=>Ze.put (Ze.kp r k9) hwt9 (by simp)) (Ze.put (W:=[sp,wt]) ⟨d1,cc,hb1,zj.kp hN8 k9,hav⟩ hwt9 (by simp))) (Ze.put (W:=[sp,wt]) ⟨d2,c2,hb2,hc2,fun y hy=>?_⟩ hwt9 (by simp))
       rcases zx.mp hy with e | hy
       ·rw [e];exact j1 (zT hsp8 nc2)
       ·rw [zi.mp hy];exact j1 (zT hwt8 nc2)
      ·rcases zQ.mp hy with hy | hy
       ·rcases zQ.mp hy with hy | hy
        ·exact hok y (zY _ hy)
        ·rw [zi.mp hy];exact xok.without hlt
       ·rw [zi.mp hy];exact xok.with_ hlt
      ·rw [←hrem,hfe,G0,G0];simp
    ·have hn0:¬(decide (V.int (z:Int)=V.int 0)=true):=fun y=>by
      have y:(z:Int)=0:=V.int.inj (of_decide_eq_true y)
      omega
     have hfe:=hme.1 h0
     refine GV hn0 ⟨out++[z],bs,qs,_,_,?_,rfl,k8,hsp8,hwt8,hB8,fun y hy=>hok y (zY _ hy),?_⟩
     ·rw [hfe,za]
      show _<1+_
      omega
     ·rw [←hrem,hfe];simp
   ·have hnil:ps=[]:=by
     cases ps with
     | nil=>rfl
     | cons x l=>exact absurd (decide_eq_true (show (0:Int)<((as.map V.ref).length:Int) by rw [z0,hal,zu];omega)) h
    subst hnil
    have hrem:out++[]=yX (made b.p b.r ⟨0,[]⟩):=hrem
    rw [jn] at hrem
    refine ⟨_,rfl,hq H' sp k5 nsp ?_⟩
    rw [z7s,←hrem]
    exact hsp
theorem Gs:zy ["self","steps","cost","waiting","step","place"] ["self","steps","cost"] (zh (Zv 5)):=scp
theorem z80 (T:Txt K mg C)(F:Fun K "accepts" "Prover.accepts" (Zv 5) f fd)(mp:ju P w K mg base k "Place" C.plc ["self","looked_at","chosen"] (WV C))(ho:zD P w K mg base k C.prv "holds" ["self","step","place","cost"] (z1S L C))
  (pt:zD P w K mg base k C.plc "parts" ["self"] (z1R L C)):yT P w K mg base (k+1) ["self","steps","cost"] (z0T L C) f:=by
 refine F.okN Gs (fun cdv A outer s H vs Q E hr h=>?_)
 ·obtain ⟨a,sl,b,m,q,rfl,hP,bok,hS,hsl,hq⟩:=h
  refine ⟨_,z6 (zK (i:=3) Gs.nd rfl loc (yy (z3 (JP mp hr rfl zL (z3 yb (z3 (yy z7) z7))) z7)))
   (z6 (Vo ji rfl (j7 (pv 1)) (yB (i:=4) Gs.nd rfl loc)
    (z6 (zK (i:=5) Gs.nd rfl loc (z7w zF U0 GZ z82 (pv 3)))
    (z6 (jb (z16 (ZW (jv ho hr zL (pv 0) (z3 (pv 4) (z3 (pv 5) (z3 (pv 2) z7)))))) (z9 (zA z1p)) yp)
    (z9 (jb (zZ Zz (pv 4) (yx rfl (T.n (n:=0))) (yj _))
     (z9 (Z4 (Ju zF jE jD JY (pv 3) (z3 (jQ pt hr zL (pv 5)) z7)))) yp)))))
   (z9 (zA z1p))),?_⟩
  have l8:=bok.l
  have big:(5000:Nat)≤sizeLine:=by decide
  refine ⟨zk _,fun c0 nc0=>?_⟩
  have k2:Kp L H (upd H c0 (.lst [])):=Kp.refl.new nc0
  have hc0:zj (upd H c0 (.lst [])) c0 []:=z5
  generalize upd H c0 (.lst [])=H2 at k2 hc0
  refine fun x0 d0 nx nd ne=>⟨x0,d0,c0,0,rfl,z5,rfl,?_⟩
  have k3:Kp L H2 _:=Zn (C:=C.plc) (o:=.ins C.plc d0 (Gy 0 c0)) nx nd ne
  have hx0:(upd (upd (upd H2 d0 (.own x0)) x0 (.ins C.plc d0 [])) x0 (.ins C.plc d0 (Gy 0 c0))) x0=_:=z5
  generalize (upd (upd (upd H2 d0 (.own x0)) x0 (.ins C.plc d0 [])) x0 (.ins C.plc d0 (Gy 0 c0)))=H3 at k3 hx0
  refine ⟨(by show 1≤sizeLine;decide),fun wt nwt=>?_⟩
  have k4:Kp L H3 (upd H3 wt (.lst [.ref x0])):=Kp.refl.new nwt
  have nw0:H wt=none:=k2.free (k3.free nwt)
  have k14:=(k2.trans k3).trans k4
  refine ⟨_,rfl,sl,rfl,⟨_,(zj.kp hS k14).sq⟩,Vd (K:=K) (a:=sl) (xs:=yJ (yX q)) (fun i σ H'=>∃(as:List Addr) (ps:List (Plc×Proof)) (v4 v5:Option V),σ=[some (.ref a),some (.ref sl),some (.int (m:Int)),some (.ref wt),v4,v5]∧Kp L H H'∧H' wt=some (.lst (as.map V.ref))∧
   Ats (fun a x=>Ze C [wt] H' a x.1) as ps∧(∀x∈ps,Vh b.l.length x.1)∧(yX q).drop i=z5O ps∧JO b.p b.r m 0 [] q=ps.reverse.all (J1 b.p b.r m))
   ⟨[x0],[(⟨0,[]⟩,q)],none,none,rfl,k14,z5,?_,?_,?_,?_⟩ (fun i σ H' _ ⟨_,_,_,_,_,k,_⟩=>(zj.kp hS k).sq) ?_ ?_⟩
  ·refine Ats.snoc (as:=[]) (ds:=[]) .nil ⟨d0,c0,k4.ins hx0,zj.kp (zj.kp hc0 k3) k4,fun y hy=>?_⟩
   rw [zi.mp hy];exact zT hc0 (k3.free nwt)
  ·intro x hx
   rw [zi.mp hx]
   exact ⟨zk _,.nil,fun i h=>by cases h⟩
  ·unfold z5O;simp
  ·show _=(J1 b.p b.r m (⟨0,[]⟩,q)&&true)
   rw [GQ];rfl
  ·rintro i v σ H' hv ⟨as,ps,v4,v5,rfl,k5,hwt,hA,hok,hdr,hacc⟩
   obtain ⟨z,hz,rfl⟩:=G1 hv
   have lti:=(zo.mp hz).1
   have ed:(yX q).drop i=z::(yX q).drop (i+1):=by
    rw [jj lti]
    rw [z8 lti] at hz
    rw [zG hz]
   have hne:ps≠[]:=fun y=>by rw [y,ed] at hdr;cases hdr
   obtain ⟨qs,⟨x,qx⟩,rfl⟩:=z1X hne
   obtain ⟨bs,c,rfl,hB,hX⟩:=z6y hA
   have hX:Ze C [wt] H' c x:=hX
   have xok:Vh b.l.length x:=hok (x,qx) (by simp)
   rw [z14,ed] at hdr
   have hpl:=z5N qs
   have hdl:=congrArg JK hdr
   rw [←ed,Vs,za] at hdl
   have hrev:(qs++[(x,qx)]).reverse.all (J1 b.p b.r m)=(J1 b.p b.r m (x,qx)&&qs.reverse.all (J1 b.p b.r m)):=by rw [Y7];rfl
   rw [hrev] at hacc
   obtain ⟨z',r,hfl,hz2,alt⟩:=z5f (p:=b.p) (room:=b.r) (cost:=m) (x:=x) (q:=qx)
   have hdr:z::(yX q).drop (i+1)=(yX qx)++z5O qs:=hdr
   rw [hfl] at hdr
   have ez:z=z':=(YZ hdr).1
   subst ez
   have hdr2:(yX q).drop (i+1)=r++z5O qs:=(YZ hdr).2
   have hlst:(bs++[c]).map V.ref=bs.map V.ref++[.ref c]:=by rw [zw];rfl
   rw [hlst] at hwt
   refine ⟨_,rfl,.inl ⟨rfl,_,SqL.of hwt⟩,wt,_,.ref c,rfl,rfl,hwt,z31,?_⟩
   rw [QI]
   have k6:Kp L H (upd H' wt (.lst (bs.map V.ref))):=k5.putL nw0 hwt
   have hB6:Ats (fun a x=>Ze C [wt] (upd H' wt (.lst (bs.map V.ref))) a x.1) bs qs:=hB.imp fun _ _ r=>Ze.put r hwt (by simp)
   have hX6:=Ze.put (o:=.lst (bs.map V.ref)) hX hwt (by simp)
   have hwt6:(upd H' wt (.lst (bs.map V.ref))) wt=some (.lst (bs.map V.ref)):=z5
   generalize upd H' wt (.lst (bs.map V.ref))=H6 at k6 hB6 hX6 hwt6
   obtain ⟨da,ca,oa,ha,_⟩:=hP.kp k6
   refine ⟨_,rfl,a,da,_,rfl,ha,(by kernel_rfl),_,rfl,_,rfl,_,rfl,a,c,[wt],b,x,z,m,rfl,hP.kp k6,hX6,bok,xok,fun H7 k7=>⟨_,rfl,?_⟩⟩
   have k67:=k6.trans k7
   have hB7:Ats (fun a x=>Ze C [wt] H7 a x.1) bs qs:=hB6.imp fun _ _ r=>Ze.kp r k7
   have hX7:=Ze.kp hX6 k7
   have hwt7:=k7.lst hwt6
   cases hh:WF b.p b.r m z x with
   | false=>
    refine Uw rfl ?_
    have q1:=hq H7 k67
    have:J1 b.p b.r m (x,qx)=false:=by
     rcases alt with ⟨_,_,e⟩ | ⟨e0,a1,b1,_,_,e⟩
     ·rw [e,hh]
     ·rw [e,←e0,hh];rfl
    rw [hacc,this] at q1
    exact q1
   | true=>
    refine GV (by decide) ⟨_,rfl,rfl,_,rfl,?_⟩
    rcases alt with ⟨n0,er,e⟩ | ⟨e0,q1,q2,eq,er,e⟩
    ·have hn0:¬(decide (V.int (z:Int)=V.int 0)=true):=fun y=>by
      have y:(z:Int)=0:=V.int.inj (of_decide_eq_true y)
      omega
     refine GV hn0 ⟨bs,qs,_,_,rfl,k67,hwt7,hB7,fun y hy=>hok y (zY _ hy),?_,?_⟩
     ·rw [hdr2,er];rfl
     ·rw [hacc,e,hh];rfl
    ·subst e0
     have hlt:x.at_<b.l.length:=by
      have h2:decide (x.at_<zN b.p)=true:=hh
      have h2:=of_decide_eq_true h2
      rw [qL] at h2
      exact h2
     obtain ⟨dc,cc,hc8,hN8,hav⟩:=id hX7
     have xl:=xok.len
     refine Uw rfl ⟨_,rfl,.inl ⟨rfl,_,SqL.of hwt7⟩,_,rfl,c,dc,_,rfl,hc8,(by kernel_rfl),c,dc,cc,x,rfl,hc8,hN8,by omega,fun H9 p b1 b2 d1 d2 c2 k9 np hp hb1 hb2 hc2 nc2=>?_⟩
     have hwt9:=k9.lst hwt7
     have hbl:=hB7.len
     refine ⟨wt,p,_,_,rfl,rfl,hwt9,hp,?_,?_⟩
     ·rw [z0]
      show bs.length+2≤sizeLine
      omega
     ·refine ⟨bs++[b1]++[b2],qs++[(x.without,q2)]++[(x.with_,q1)],_,_,rfl,(k67.trans k9).putL nw0 hwt9,?_,?_,fun y hy=>?_,?_,?_⟩
      ·rw [z5,zw,zw,jq];rfl
      ·refine Ats.snoc (Ats.snoc (hB7.imp fun _ _ r=>Ze.put (Ze.kp r k9) hwt9 (by simp)) (Ze.put (W:=[wt]) ⟨d1,cc,hb1,zj.kp hN8 k9,hav⟩ hwt9 (by simp))) (Ze.put (W:=[wt]) ⟨d2,c2,hb2,hc2,fun y hy=>?_⟩ hwt9 (by simp))
       rw [zi.mp hy];exact j1 (zT hwt7 nc2)
      ·rcases zQ.mp hy with hy | hy
       ·rcases zQ.mp hy with hy | hy
        ·exact hok y (zY _ hy)
        ·rw [zi.mp hy];exact xok.without hlt
       ·rw [zi.mp hy];exact xok.with_ hlt
      ·rw [hdr2,er,z14,z14,jq]
      ·rw [hacc,e,hh,Y7,Y7]
       show (_&&_)=(_&&(_&&_))
       rw [VA,Bool.and_assoc]
       rfl
  ·rintro σ H' ⟨as,ps,v4,v5,rfl,k5,hwt,hA,hok,hdr,hacc⟩
   rw [yM,Vu] at hdr
   have hpl:=z5N ps
   rw [←hdr] at hpl
   have hnil:ps=[]:=Yh.mp (by simpa using hpl)
   subst hnil
   have q1:=hq H' k5
   rw [hacc] at q1
   exact q1
end
end LI
namespace LI
open PySem PySem.Spec PyProof.Rows L2
open VaidxBase (Filter Group Table Index)
open Vaidxd (Offer Costs Problem Set_ costsOf problemOf State)
abbrev yf (j:Nat):Stmt:=Jy (top 82) j
def Yt (tv:V)(ql ol:Addr)(r:Nat):List (Str×V):=[("table",tv),("questions",.ref ql),("offers",.ref ol),("room",.int r)]
section
variable {tv:V}{ql ol:Addr}{r:Nat}
theorem JZ:lk (Yt tv ql ol r) "table"=some tv:=by kernel_rfl
theorem ZY:lk (Yt tv ql ol r) "questions"=some (.ref ql):=by kernel_rfl
theorem yI:lk (Yt tv ql ol r) "offers"=some (.ref ol):=by kernel_rfl
theorem VJ:lk (Yt tv ql ol r) "room"=some (.int r):=by kernel_rfl
end
structure StOk (t:Table)(s:State):Prop where
 tok:TOk t
 c1:1≤t.cols
 c4:t.cols≤4
 ql:s.questions.length≤6
 qs:∀q∈s.questions,QOk t.cols q
 os:OsOk t s.offers
 rm:s.room≤1000000000
def hid (g a ql ol:Addr)(H:Hp):Hp:=fun b=>if b=g∨b=a∨b=ql∨b=ol then none else H b
section
variable {H H':Hp}{g a ql ol b:Addr}{o:HO}
theorem z57 (n0:b≠g)(n1:b≠a)(n2:b≠ql)(n3:b≠ol)(h:H b=some o):hid g a ql ol H b=some o:=by
 unfold hid
 rw [if_neg (fun z=>z.elim n0 fun z=>z.elim n1 fun z=>z.elim n2 n3)];exact h
theorem WG (h:hid g a ql ol H b=some o):b≠g∧b≠a∧b≠ql∧b≠ol∧H b=some o:=by
 unfold hid at h
 split at h
 ·cases h
 ·rename_i z
  exact ⟨fun y=>z (.inl y),fun y=>z (.inr (.inl y)),fun y=>z (.inr (.inr (.inl y))),fun y=>z (.inr (.inr (.inr y))),h⟩
theorem GE:Sub (hid g a ql ol H) H:=fun _ _ e _=>(WG e).2.2.2.2
theorem z0g (k:Sub H H'):Sub (hid g a ql ol H) (hid g a ql ol H'):=fun _ o e n=>let ⟨n0,n1,n2,n3,h⟩:=WG e;z57 n0 n1 n2 n3 (k _ o h n)
theorem GD (h:b=g∨b=a∨b=ql∨b=ol):hid g a ql ol (upd H b o)=hid g a ql ol H:=by
 funext c
 unfold hid
 by_cases z:c=g∨c=a∨c=ql∨c=ol
 ·rw [if_pos z,if_pos z]
 ·rw [if_neg z,if_neg z,zl (fun (y:c=b)=>z (by rw [y];exact h))]
theorem qd (hg:H g≠none)(ha:H a≠none)(hq:H ql≠none)(ho:H ol≠none):Sub (VU H H') (hid g a ql ol H'):=fun b o e _=>by
 obtain ⟨n,h⟩:=Ur e
 exact z57 (fun z=>hg (z ▸ n)) (fun z=>ha (z ▸ n)) (fun z=>hq (z ▸ n)) (fun z=>ho (z ▸ n)) h
end
structure Zj (C:Adr)(gi:Addr)(H:Hp)(a ql ol:Addr)(s:State):Prop where
 at_:∃dx tv,H a=some (.ins C.adv dx (Yt tv ql ol s.room))∧(match s.table with | none=>tv=.non∧s.questions=[]∧s.offers=[] | some t=>∃ta,tv=.ref ta∧Vg C (hid gi a ql ol H) ta t∧StOk t s)
 qs:∃as,H ql=some (.lst (as.map V.ref))∧Ats (Y0 C (hid gi a ql ol H)) as s.questions
 os:∃as,H ol=some (.lst (as.map V.ref))∧as.length=s.offers.length∧∀t,s.table=some t→Ats (Yo C t (hid gi a ql ol H)) as s.offers
 ne:ql≠ol
 gv:(∃xs,H gi=some (.lst xs))∧ql≠gi∧ol≠gi
structure KpA (L:List LT)(a ql ol:Addr)(H H':Hp):Prop where
 obj:∀b o,H b=some o→b≠a→b≠ql→b≠ol→(∀ps,o≠.tbl ps)→H' b=some o
 tab:JC L H→JC L H'
def Ans (L:List LT)(C:Adr)(gi a ql ol:Addr)(H:Hp)(Q:VK)(x:State×List Int):Prop:=
 ∀H' ql' ol' p,KpA L a ql ol H H'→Zj C gi H' a ql' ol' x.1→(ql'=ql∨H ql'=none)→(ol'=ol∨H ol'=none)→yt H' p x.2→H p=none→Q (.ref p) H'
section
variable {L:List LT}{C:Adr}{H H' H1 H2:Hp}{gi a ql ol p:Addr}{s:State}{Q:VK}{ans:List Int}
theorem kpA (k:Kp L H H'):KpA L a ql ol H H':=⟨fun b o e _ _ _ n=>k.obj b o e n,fun t=>t.kp k⟩
theorem KpA.trans (k:KpA L a ql ol H H1)(k2:KpA L a ql ol H1 H2):KpA L a ql ol H H2:=⟨fun b o e n1 n2 n3 n=>k2.obj b o (k.obj b o e n1 n2 n3 n) n1 n2 n3 n,fun t=>k2.tab (k.tab t)⟩
theorem KpA.put {b:Addr}{o u:HO}(hb:b=a∨b=ql∨b=ol)(h:H b=some u)(nu:∀φ,u≠.ext φ)(nt:∀ps,u≠.tbl ps):KpA L a ql ol H (upd H b o):=by
 refine ⟨fun c v e n1 n2 n3 _=>by rw [zl (fun z=>by rw [z] at n1 n2 n3;exact hb.elim n1 fun z=>z.elim n2 n3)];exact e,fun t x hx=>?_⟩
 obtain ⟨ps,e,alt⟩:=t x hx
 refine ⟨ps,by rw [zl (Zg e h fun z=>nt _ z.symm)];exact e,?_⟩
 rcases alt with q | ⟨c,q1,q2⟩
 ·exact .inl q
 ·exact .inr ⟨c,q1,by rw [zl (Zg q2 h fun z=>nu _ z.symm)];exact q2⟩
theorem Zj.kp (h:Zj C gi H a ql ol s)(k:Kp L H H'):Zj C gi H' a ql ol s:=by
 obtain ⟨dx,tv,h1,h2⟩:=h.at_
 obtain ⟨as,q1,q2⟩:=h.qs
 obtain ⟨os,o1,o2,o3⟩:=h.os
 have m:Sub (hid gi a ql ol H) (hid gi a ql ol H'):=z0g k.obj
 refine ⟨⟨dx,tv,k.ins h1,?_⟩,⟨as,k.lst q1,q2.imp fun _ _ r=>r.sub m⟩,⟨os,k.lst o1,o2,fun t e=>(o3 t e).imp fun _ _ r=>r.sub m⟩,h.ne,let ⟨⟨xs,g1⟩,g2,g3⟩:=h.gv;⟨⟨xs,k.lst g1⟩,g2,g3⟩⟩
 revert h2
 cases s.table with
 | none=>exact fun h2=>h2
 | some t=>exact fun ⟨ta,e,ht,ok⟩=>⟨ta,e,ht.sub m,ok⟩
theorem Ans.same (h:Ans L C gi a ql ol H Q (s,ans))(A:Zj C gi H a ql ol s)(k:Kp L H H')(n:H p=none)(hp:yt H' p ans):Q (.ref p) H':=h H' ql ol p (kpA k) (A.kp k) (.inl rfl) (.inl rfl) hp n
end
theorem Jd {H:Hp}{p:Addr}{n:Int}:yt (upd H p (.lst [V.int n])) p [n]:=by unfold yt;rw [z5];rfl
section
variable (L:List LT)(C:Adr)
inductive Q4 (vs:List V)(H:Hp)(Q:VK)(_E:XK):Prop | mk (gi a ql ol:Addr) (s:State) (t:Table) (z:Int) (_:vs=[.ref a,.int z]) (_:Zj C gi H a ql ol s) (_:s.table=some t) (_:JC L H) (_:Ans L C gi a ql ol H Q (yu s (.room z)))
inductive VN (vs:List V)(H:Hp)(Q:VK)(_E:XK):Prop | mk (gi a ql ol tl:Addr) (s:State) (t:Table) (l:List Int) (_:vs=[.ref a,.ref tl]) (_:Zj C gi H a ql ol s) (_:s.table=some t) (_:JC L H) (_:yt H tl l) (_:l.length≤1000) (_:tl≠ql) (_:tl≠ol) (_:Ans L C gi a ql ol H Q (yu s (.question l)))
end
theorem z3m {s:State}{t:Table}{l:List Int}(h:s.table=some t)(hc:1≤t.cols):yu s (.question l)=(match zV (YL t.cols) l with
  | none=>(s,[-1])
  | some q=>if 6≤s.questions.length then (s,[-6]) else ({ s with questions:=s.questions++[q] },[(s.questions.length:Int)])):=by
 have e:zV (z47 t.cols) l=zV (YL t.cols) l:=by unfold zV;rw [z5T hc]
 show zX s _=_
 unfold zX
 rw [h]
 show (match zV (z47 t.cols) l with | none=>_ | some q=>_)=_
 rw [e]
 rfl
theorem z2c {A:Type}{rd:yo A}{x:List Int}{t:A}(h:zV rd x=some t):rd x=some (t,[]):=by
 unfold zV at h
 split at h
 ·rename_i u e;cases h;exact e
 ·cases h
section
variable {P:Program}{w:World}{K:z4}{mg:Str→Option Value}{base:Heap}{L:List LT}{C:Adr}{k:Nat}{f:Addr}{fd:FuncData}
theorem GR:zy ["self","told","question"] ["self","told"] (zh (yf 3)):=scp
theorem z1G (T:Txt K mg C)(F:Fun K "take_question" "Advisor.take_question" (yf 3) f fd)(rq:ya P w K mg base k "read_question" ["told","width"] (Jo L C)):yT P w K mg base (k+1) ["self","told"] (VN L C) f:=by
 refine F.okN GR (fun cdv A outer s H vs Q E hr h=>?_)
 ·obtain ⟨gi,a,ql,ol,tl,st,t,l,rfl,hA,ht,tabs,hl,hlen,tq,to,hq⟩:=h
  obtain ⟨dx,tv,ha,hs⟩:=id hA.at_
  rw [ht] at hs
  obtain ⟨ta,rfl,hT,ok⟩:=hs
  obtain ⟨dt,gl,hta,hG⟩:=hT.sub GE
  rw [z3m ht ok.c1] at hq
  refine ⟨_,z6 (z4y (th:=z3l (z4d (j6 (tC (.int (-1))) Yl))) (tb:=fun D=>tAsg (tCl (Jo L C) (tryE C.err (z3l (z4d (j6 (tC (.int (-1))) Yl))) D) (j6 (jc 1) (j6 (V5 K (V5 K (jc 0) "table") "width") Yl))) (VX 2)) rfl T.err rfl rfl (fun xe' pn' D hX=>z9 (zK (i:=2) GR.nd rfl loc (yH rq hr rfl hX.passes (z3 (pv 1) (z3 (zm (zm (pv 0) rfl) rfl) z7)))))
    (fun e=>z9 (zA (yy (z3 (yx rfl (T.n (n:=-1) (x:="NOT_WHOLE"))) z7)))))
   (z6 (jb (zZ Zz (yq y6 rfl T.bl jt (z3 (zm (pv 0) rfl) z7)) (yx rfl (T.n (n:=6))) (yj _)) (z9 (zA (yy (z3 (yx rfl (T.n (n:=-6))) z7)))) yp)
   (z6 (Z4 (Ju zF yL yK ZX (zm (pv 0) rfl) (z3 (pv 2) z7)))
   (z9 (zA (yy (z3 (jr z18 (yq y6 rfl T.bl jt (z3 (zm (pv 0) rfl) z7)) yb) z7)))))),?_⟩
  refine ⟨_,rfl,_,rfl,⟨_,_,_,_,_,rfl,ha,T.adv.cl,T.adv.nn,JZ,(⟨_,_,_,_,_,rfl,hta,T.tbl.cl,T.tbl.nn,z2h,⟨tl,l,t.cols,rfl,ok.c1,ok.c4,hl,hlen,?_⟩⟩)⟩⟩
  cases hw:zV (YL t.cols) l with
  | none=>
   rw [hw] at hq
   intro H1 k1
   refine ⟨rfl,fun σ'=>⟨(by show 1≤sizeLine;decide),fun p hp=>?_⟩⟩
   exact hq.same hA (k1.new hp) (k1.free hp) Jd
  | some q=>
   rw [hw] at hq
   have qok:=z5S ok.c1 ok.c4 (z2c hw)
   intro H1 b k1 nb hb
   have hA1:=hA.kp k1
   have ha1:=k1.ins ha
   obtain ⟨as,hS,hAq⟩:=id hA1.qs
   obtain ⟨as0,hS0,_⟩:=id hA.qs
   obtain ⟨os0,hO0,_⟩:=id hA.os
   have hqb:Y0 C (hid gi a ql ol H1) b q:=hb.sub (qd (let ⟨⟨xs,g1⟩,_⟩:=hA.gv;by rw [g1];simp) (by rw [ha];simp) (by rw [hS0];simp) (by rw [hO0];simp))
   have hl6:(as.map V.ref).length=st.questions.length:=by rw [z0,hAq.len]
   refine ⟨_,rfl,⟨_,_,_,_,_,rfl,ha1,T.adv.cl,T.adv.nn,ZY,⟨ql,_,rfl,.inl (SqL.of hS),rfl,_,rfl,?_⟩⟩⟩
   refine Zc (fun h=>?_) (fun h=>?_)
   ·have h:=of_decide_eq_true h
    have h:((as.map V.ref).length:Int)=6:=V.int.inj h
    have h6:6≤st.questions.length:=by omega
    simp only [if_pos h6] at hq
    refine ⟨(by show 1≤sizeLine;decide),fun p hp=>?_⟩
    exact hq.same hA (k1.new hp) (k1.free hp) Jd
   ·have h6:¬6≤st.questions.length:=fun z=>by
     have:=ok.ql
     refine h (decide_eq_true ?_)
     rw [show ((as.map V.ref).length:Int)=6 by omega]
    simp only [if_neg h6] at hq
    refine ⟨_,rfl,⟨_,_,_,_,_,rfl,ha1,T.adv.cl,T.adv.nn,ZY,⟨.inl ⟨rfl,_,SqL.of hS⟩,_,rfl,ql,_,_,rfl,rfl,hS,?_,?_⟩⟩⟩
    ·rw [hl6]
     have:(2000:Nat)≤sizeLine:=by decide
     omega
    have ka2:KpA L a ql ol H1 (upd H1 ql (.lst (as.map V.ref++[.ref b]))):=KpA.put (.inr (.inl rfl)) hS (by intro _ z;cases z) (by intro _ z;cases z)
    have hid2:hid gi a ql ol (upd H1 ql (.lst (as.map V.ref++[.ref b])))=hid gi a ql ol H1:=GD (.inr (.inr (.inl rfl)))
    have aq:a≠ql:=Zg ha1 hS (by intro z;cases z)
    have hA2:Zj C gi (upd H1 ql (.lst (as.map V.ref++[.ref b]))) a ql ol { st with questions:=st.questions++[q] }:=by
     obtain ⟨os,o1,o2,o3⟩:=hA1.os
     refine ⟨⟨dx,.ref ta,by rw [zl aq];exact ha1,?_⟩,⟨as++[b],by rw [z5,zw];rfl,by rw [hid2];exact Ats.snoc hAq hqb⟩,⟨os,by rw [zl (j1 hA.ne)];exact o1,o2,fun t' e=>by rw [hid2];exact o3 t' e⟩,hA.ne,let ⟨⟨xs,g1⟩,g2,g3⟩:=hA1.gv;⟨⟨xs,by rw [zl (j1 g2)];exact g1⟩,g2,g3⟩⟩
     have e:({ st with questions:=st.questions++[q] }:State).table=some t:=ht
     rw [e]
     refine ⟨ta,rfl,by rw [hid2];exact hT.sub (z0g k1.obj),⟨ok.tok,ok.c1,ok.c4,?_,fun y hy=>?_,ok.os,ok.rm⟩⟩
     ·show (st.questions++[q]).length≤6
      rw [za]
      have:[q].length=1:=rfl
      omega
     ·rcases zQ.mp hy with hy | hy
      ·exact ok.qs y hy
      ·rw [zi.mp hy];exact qok
    have ha2:=(show (upd H1 ql (.lst (as.map V.ref++[.ref b]))) a=H1 a from zl aq).trans ha1
    refine ⟨_,rfl,⟨_,_,_,_,_,rfl,ha2,T.adv.cl,T.adv.nn,ZY,⟨ql,_,rfl,.inl (SqL.of z5),_,_,rfl,rfl,(by show 1≤sizeLine;decide),fun p hp=>?_⟩⟩⟩
    have en:(((as.map V.ref++[V.ref b]).length:Int) - 1)=(st.questions.length:Int):=by
     rw [za,hl6]
     have:[V.ref b].length=1:=rfl
     omega
    have np:H p=none:=k1.free (by
     by_cases z:p=ql
     ·rw [z,z5] at hp;cases hp
     ·rw [zl z] at hp;exact hp)
    refine hq _ ql ol p (((kpA k1).trans ka2).trans (kpA (Kp.refl.new hp))) (hA2.kp (L:=L) (Kp.refl.new hp)) (.inl rfl) (.inl rfl) ?_ np
    rw [←en]
    exact Jd
end
section
variable (L:List LT)(C:Adr)
inductive U8 (vs:List V)(H:Hp)(Q:VK)(_E:XK):Prop | mk (gi a ql ol tl:Addr) (s:State) (t:Table) (u:Int) (l:List Int) (_:vs=[.ref a,.int u,.ref tl]) (_:Zj C gi H a ql ol s) (_:s.table=some t) (_:JC L H) (_:yt H tl l) (_:l.length≤1000) (_:Ans L C gi a ql ol H Q (yu s (.index u l)))
inductive U7 (vs:List V)(H:Hp)(Q:VK)(_E:XK):Prop | mk (gi a ql ol tl:Addr) (s:State) (l:List Int) (_:vs=[.ref a,.ref tl]) (_:Zj C gi H a ql ol s) (_:JC L H) (_:yt H tl l) (_:l.length≤1000) (_:Ans L C gi a ql ol H Q (yu s (.table l)))
end
theorem z9e {s:State}{t:Table}{z:Int}(h:s.table=some t):yu s (.room z)=(match Vp z z8k with | none=>(s,[-3]) | some k=>({ s with room:=k },[(k:Int)])):=by
 show zX s _=_
 unfold zX
 rw [h]
 rfl
theorem z70 {s:State}{l:List Int}:yu s (.table l)=(match zV Uo l with | none=>(s,[-1]) | some t=>(⟨some t,[],[],0⟩,[(VaidxBase.allRows t:Int)])):=by
 have e:zV z6C l=zV Uo l:=by unfold zV;rw [z5w]
 show (match zV z6C l with | none=>_ | some t=>_)=_
 rw [e]
 rfl
theorem z71 {s:State}{t:Table}{u:Int}{l:List Int}(h:s.table=some t)(hc:1≤t.cols):yu s (.index u l)=(match Vp u QL with
  | none=>(s,[-3])
  | some k=>match zV (Gz t.cols) l with
   | none=>(s,[-1])
   | some i=>if 8≤s.offers.length then (s,[-6]) else ({ s with offers:=s.offers++[⟨i,k⟩] },[(s.offers.length:Int),(yn t i:Int)])):=by
 have e:zV (z6D t.cols) l=zV (Gz t.cols) l:=by unfold zV;rw [z9L hc]
 show zX s _=_
 unfold zX
 rw [h]
 show (match Vp u QL with | none=>_ | some k=>(match zV (z6D t.cols) l with | none=>_ | some i=>_))=_
 rw [e]
 rfl
section
variable {P:Program}{w:World}{K:z4}{mg:Str→Option Value}{base:Heap}{L:List LT}{C:Adr}{k:Nat}{f:Addr}{fd:FuncData}
theorem z5C:zy ["self","room"] ["self","room"] (zh (yf 5)):=scp
theorem z61 (T:Txt K mg C)(F:Fun K "take_room" "Advisor.take_room" (yf 5) f fd):yT P w K mg base 1 ["self","room"] (Q4 L C) f:=by
 refine F.okN z5C (fun cdv A outer s H vs Q E hr h=>?_)
 ·obtain ⟨gi,a,ql,ol,st,t,z,rfl,hA,ht,tabs,hq⟩:=h
  obtain ⟨dx,tv,ha,hs⟩:=id hA.at_
  rw [z9e ht] at hq
  refine ⟨_,z6 (jb (PW.pt (qK (zZ VT (pv 1) yb (yj _)) (WD (zZ Up (pv 1) (yx rfl (T.n (n:=1000000000))) (yj _))))) (z9 (zA (yy (z3 (yx rfl (T.n (n:=-3))) z7)))) yp)
   (z6 (jk (pv 0) (pv 1) rfl) (z9 (zA (yy (z3 (pv 1) z7))))),?_⟩
  have bad:¬(0≤z∧z≤1000000000)→(1≤sizeLine∧∀p,H p=none→Q (.ref p) (upd H p (.lst [V.int (-3)]))):=fun h=>by
   rw [show Vp z z8k=none from if_neg h] at hq
   exact ⟨by decide,fun p hp=>hq.same hA (Kp.refl.new hp) hp Jd⟩
  refine ⟨_,rfl,_,_,rfl,rfl,_,rfl,?_⟩
  refine Zc (fun h1=>?_) (fun h1=>?_)
  ·have h1:=of_decide_eq_true h1
   exact z1I (bad (by omega))
  ·have h1:¬z<0:=fun y=>h1 (decide_eq_true y)
   refine ⟨_,rfl,_,_,rfl,rfl,_,rfl,?_⟩
   refine Zc (fun h2=>?_) (fun h2=>?_)
   ·have h2:=of_decide_eq_true h2
    exact bad (by omega)
   ·have h2:¬(1000000000:Int)<z:=fun y=>h2 (decide_eq_true y)
    rw [show Vp z z8k=some z.toNat from if_pos ⟨by omega,by show z≤((1000000000:Nat):Int);omega⟩] at hq
    have hz:z=((z.toNat:Nat):Int):=by omega
    refine ⟨_,rfl,_,rfl,⟨_,_,_,_,rfl,ha,T.adv.cl,T.adv.nn,few,⟨_,rfl,(by show 1≤sizeLine;decide),fun p hp=>?_⟩⟩⟩
    have np:H p=none:=by
     by_cases y:p=a
     ·rw [y,z5] at hp;cases hp
     ·rw [zl y] at hp;exact hp
    have hput:Jt "room" (V.int z) (Yt tv ql ol st.room)=Yt tv ql ol z.toNat:=by
     conv=>lhs;rw [hz]
     kernel_rfl
    rw [hput] at hp ⊢
    have ka2:KpA L a ql ol H (upd H a (.ins C.adv dx (Yt tv ql ol z.toNat))):=KpA.put (.inl rfl) ha (by intro _ z;cases z) (by intro _ z;cases z)
    have hid2:hid gi a ql ol (upd H a (.ins C.adv dx (Yt tv ql ol z.toNat)))=hid gi a ql ol H:=GD (.inr (.inl rfl))
    obtain ⟨as,q1,q2⟩:=id hA.qs
    obtain ⟨os,o1,o2,o3⟩:=id hA.os
    have aq:ql≠a:=Zg q1 ha (by intro z;cases z)
    have ao:ol≠a:=Zg o1 ha (by intro z;cases z)
    have hA2:Zj C gi (upd H a (.ins C.adv dx (Yt tv ql ol z.toNat))) a ql ol { st with room:=z.toNat }:=by
     refine ⟨⟨dx,tv,z5,?_⟩,⟨as,by rw [zl aq];exact q1,by rw [hid2];exact q2⟩,⟨os,by rw [zl ao];exact o1,o2,fun t' e=>by rw [hid2];exact o3 t' e⟩,hA.ne,let ⟨⟨xs,g1⟩,g2,g3⟩:=hA.gv;⟨⟨xs,by rw [zl (Zg g1 ha (by intro z;cases z))];exact g1⟩,g2,g3⟩⟩
     have e:({ st with room:=z.toNat }:State).table=some t:=ht
     rw [e]
     rw [ht] at hs
     obtain ⟨ta,e1,e2,ok⟩:=hs
     exact ⟨ta,e1,by rw [hid2];exact e2,⟨ok.tok,ok.c1,ok.c4,ok.ql,ok.qs,ok.os,by show z.toNat≤1000000000;omega⟩⟩
    refine hq _ ql ol p (ka2.trans (kpA (Kp.refl.new hp))) (hA2.kp (L:=L) (Kp.refl.new hp)) (.inl rfl) (.inl rfl) ?_ np
    show yt _ p [((z.toNat:Nat):Int)]
    rw [←hz]
    exact Jd
theorem Gk:zy ["self","upkeep","told","index","offer"] ["self","upkeep","told"] (zh (yf 4)):=scp
theorem z4N (T:Txt K mg C)(F:Fun K "take_index" "Advisor.take_index" (yf 4) f fd)(ri:ya P w K mg base k "read_index" ["told","width"] (Wf L C))(rf:zD P w K mg base k C.idx "room_for" ["self","table"] (z0I L C))
  (mo:ju P w K mg base k "Offer" C.off ["self","index","upkeep","room"] (z0K C)):yT P w K mg base (k+1) ["self","upkeep","told"] (U8 L C) f:=by
 refine F.okN Gk (fun cdv A outer s H vs Q E hr h=>?_)
 ·obtain ⟨gi,a,ql,ol,tl,st,t,u,l,rfl,hA,ht,tabs,hl,hlen,hq⟩:=h
  obtain ⟨dx,tv,ha,hs⟩:=id hA.at_
  rw [ht] at hs
  obtain ⟨ta,rfl,hT,ok⟩:=hs
  obtain ⟨dt,gl,hta,hG⟩:=hT.sub GE
  rw [z71 ht ok.c1] at hq
  refine ⟨_,z6 (jb (PW.pt (qK (zZ VT (pv 1) yb (yj _)) (WD (zZ Up (pv 1) (yx rfl (T.n (n:=1000000000))) (yj _))))) (z9 (zA (yy (z3 (yx rfl (T.n (n:=-3))) z7)))) yp)
   (z6 (z4y (th:=z3l (z4d (j6 (tC (.int (-1))) Yl))) (tb:=fun D=>tAsg (tCl (Wf L C) (tryE C.err (z3l (z4d (j6 (tC (.int (-1))) Yl))) D) (j6 (jc 2) (j6 (V5 K (V5 K (jc 0) "table") "width") Yl))) (VX 3)) rfl T.err rfl rfl
    (fun xe' pn' D hX=>z9 (zK (i:=3) Gk.nd rfl loc (yH ri hr rfl hX.passes (z3 (pv 2) (z3 (zm (zm (pv 0) rfl) rfl) z7)))))
    (fun e=>z9 (zA (yy (z3 (yx rfl (T.n (n:=-1) (x:="NOT_WHOLE"))) z7)))))
   (z6 (jb (zZ Zz (yq y6 rfl T.bl jt (z3 (zm (pv 0) rfl) z7)) (yx rfl (T.n (n:=8))) (yj _)) (z9 (zA (yy (z3 (yx rfl (T.n (n:=-6))) z7)))) yp)
   (z6 (zK (i:=4) Gk.nd rfl loc (JP mo hr rfl zL (z3 (pv 3) (z3 (pv 1) (z3 (jv rf hr zL (pv 3) (z3 (zm (pv 0) rfl) z7)) z7)))))
   (z6 (Z4 (Ju zF yL yK ZX (zm (pv 0) rfl) (z3 (pv 4) z7)))
   (z9 (zA (yy (z3 (jr z18 (yq y6 rfl T.bl jt (z3 (zm (pv 0) rfl) z7)) yb) (z3 (zm (pv 4) rfl) z7))))))))),?_⟩
  have bad:¬(0≤u∧u≤1000000000)→(1≤sizeLine∧∀p,H p=none→Q (.ref p) (upd H p (.lst [V.int (-3)]))):=fun h=>by
   rw [show Vp u QL=none from if_neg h] at hq
   exact ⟨by decide,fun p hp=>hq.same hA (Kp.refl.new hp) hp Jd⟩
  refine ⟨_,rfl,_,_,rfl,rfl,_,rfl,?_⟩
  refine Zc (fun h1=>?_) (fun h1=>?_)
  ·have h1:=of_decide_eq_true h1
   exact z1I (bad (by omega))
  have h1:¬u<0:=fun y=>h1 (decide_eq_true y)
  refine ⟨_,rfl,_,_,rfl,rfl,_,rfl,?_⟩
  refine Zc (fun h2=>?_) (fun h2=>?_)
  ·have h2:=of_decide_eq_true h2
   exact bad (by omega)
  have h2:¬(1000000000:Int)<u:=fun y=>h2 (decide_eq_true y)
  rw [show Vp u QL=some u.toNat from if_pos ⟨by omega,by show u≤((1000000000:Nat):Int);omega⟩] at hq
  have hu:u=((u.toNat:Nat):Int):=by omega
  refine ⟨_,rfl,_,rfl,⟨_,_,_,_,_,rfl,ha,T.adv.cl,T.adv.nn,JZ,(⟨_,_,_,_,_,rfl,hta,T.tbl.cl,T.tbl.nn,z2h,⟨tl,l,t.cols,rfl,ok.c1,ok.c4,hl,hlen,?_⟩⟩)⟩⟩
  cases hw:zV (Gz t.cols) l with
  | none=>
   rw [hw] at hq
   intro H1 k1
   refine ⟨rfl,fun σ'=>⟨(by show 1≤sizeLine;decide),fun p hp=>?_⟩⟩
   exact hq.same hA (k1.new hp) (k1.free hp) Jd
  | some i=>
   rw [hw] at hq
   have iok:=zaR ok.c1 ok.c4 (z2c hw)
   intro H1 b k1 nb hb
   have hA1:=hA.kp k1
   have ha1:=k1.ins ha
   obtain ⟨as,hS,hal,hAo⟩:=id hA1.os
   obtain ⟨as0,hS0,_⟩:=id hA.qs
   obtain ⟨os0,hO0,_⟩:=id hA.os
   have hl8:(as.map V.ref).length=st.offers.length:=by rw [z0,hal]
   refine ⟨_,rfl,⟨_,_,_,_,_,rfl,ha1,T.adv.cl,T.adv.nn,yI,⟨ol,_,rfl,.inl (SqL.of hS),rfl,_,rfl,?_⟩⟩⟩
   refine Zc (fun h=>?_) (fun h=>?_)
   ·have h:=of_decide_eq_true h
    have h:((as.map V.ref).length:Int)=8:=V.int.inj h
    have h8:8≤st.offers.length:=by omega
    simp only [if_pos h8] at hq
    refine ⟨(by show 1≤sizeLine;decide),fun p hp=>?_⟩
    exact hq.same hA (k1.new hp) (k1.free hp) Jd
   ·have h8:¬8≤st.offers.length:=fun z=>by
     have:=ok.os.len
     refine h (decide_eq_true ?_)
     rw [show ((as.map V.ref).length:Int)=8 by omega]
    simp only [if_neg h8] at hq
    obtain ⟨db,kl,il,cv,hbb,_⟩:=hb.sub z1a
    refine ⟨_,rfl,_,rfl,_,rfl,b,db,_,rfl,hbb,(by kernel_rfl),_,rfl,⟨_,_,_,_,_,rfl,ha1,T.adv.cl,T.adv.nn,JZ,⟨b,ta,i,t,rfl,hb.sub z1a,(hT.sub GE).kp k1,iok,ok.tok,fun H2 k2=>?_⟩⟩⟩
    intro x dy nx nd ne
    refine ⟨x,dy,b,u.toNat,yn t i,by rw [←hu],z5,rfl,?_⟩
    have k3:Kp L H2 _:=Zn (C:=C.off) (o:=.ins C.off dy (z6d b u.toNat (yn t i))) nx nd ne
    have hx3:(upd (upd (upd H2 dy (.own x)) x (.ins C.off dy [])) x (.ins C.off dy (z6d b u.toNat (yn t i)))) x=_:=z5
    generalize (upd (upd (upd H2 dy (.own x)) x (.ins C.off dy [])) x (.ins C.off dy (z6d b u.toNat (yn t i))))=H3 at k3 hx3
    have k13:=k2.trans k3
    have k03:=k1.trans k13
    have hA3:=hA.kp k03
    have ha3:=k03.ins ha
    obtain ⟨as',hS3,hal3,hAo3⟩:=id hA3.os
    have hne:H a≠none∧H ql≠none∧H ol≠none:=⟨by rw [ha];simp,by rw [hS0];simp,by rw [hO0];simp⟩
    have hgv:H gi≠none:=let ⟨⟨xs,g1⟩,_⟩:=hA.gv;by rw [g1];simp
    have hbi:JE C (hid gi a ql ol H3) b i:=(hb.sub (z81 k13.obj)).sub (qd hgv hne.1 hne.2.1 hne.2.2)
    have nxH:H x=none:=k1.free (k2.free nx)
    have hox:Yo C t (hid gi a ql ol H3) x ⟨i,u.toNat⟩:=⟨dy,b,qd (H:=H) hgv hne.1 hne.2.1 hne.2.2 x _ (jR nxH hx3) (by intro _ z;cases z),hbi⟩
    have hl8':(as'.map V.ref).length=st.offers.length:=by rw [z0,hal3]
    refine ⟨_,rfl,⟨_,_,_,_,_,rfl,ha3,T.adv.cl,T.adv.nn,yI,⟨.inl ⟨rfl,_,SqL.of hS3⟩,_,rfl,ol,_,_,rfl,rfl,hS3,?_,?_⟩⟩⟩
    ·rw [hl8']
     have:(2000:Nat)≤sizeLine:=by decide
     omega
    have ka2:KpA L a ql ol H3 (upd H3 ol (.lst (as'.map V.ref++[.ref x]))):=KpA.put (.inr (.inr rfl)) hS3 (by intro _ z;cases z) (by intro _ z;cases z)
    have hid2:hid gi a ql ol (upd H3 ol (.lst (as'.map V.ref++[.ref x])))=hid gi a ql ol H3:=GD (.inr (.inr (.inr rfl)))
    have ao:a≠ol:=Zg ha3 hS3 (by intro z;cases z)
    have hA2:Zj C gi (upd H3 ol (.lst (as'.map V.ref++[.ref x]))) a ql ol { st with offers:=st.offers++[⟨i,u.toNat⟩] }:=by
     obtain ⟨qs,q1,q2⟩:=hA3.qs
     refine ⟨⟨dx,.ref ta,by rw [zl ao];exact ha3,?_⟩,⟨qs,by rw [zl hA.ne];exact q1,by rw [hid2];exact q2⟩,⟨as'++[x],by rw [z5,zw];rfl,?_,fun t' e=>?_⟩,hA.ne,let ⟨⟨xs,g1⟩,g2,g3⟩:=hA3.gv;⟨⟨xs,by rw [zl (j1 g3)];exact g1⟩,g2,g3⟩⟩
     ·have e:({ st with offers:=st.offers++[⟨i,u.toNat⟩] }:State).table=some t:=ht
      rw [e]
      refine ⟨ta,rfl,by rw [hid2];exact hT.sub (z0g k03.obj),⟨ok.tok,ok.c1,ok.c4,ok.ql,ok.qs,⟨?_,fun y hy=>?_,fun y hy=>?_⟩,ok.rm⟩⟩
      ·show (st.offers++[_]).length≤8
       rw [za]
       have:([⟨i,u.toNat⟩]:List Offer).length=1:=rfl
       omega
      ·rcases zQ.mp hy with hy | hy
       ·exact ok.os.ix y hy
       ·rw [zi.mp hy];exact iok
      ·rcases zQ.mp hy with hy | hy
       ·exact ok.os.up y hy
       ·rw [zi.mp hy];show u.toNat≤1000000000;omega
     ·show (as'++[x]).length=(st.offers++[_]).length
      rw [za,za,hal3];rfl
     ·have e:st.table=some t':=e
      rw [ht] at e
      cases e
      rw [hid2]
      exact Ats.snoc (hAo3 t ht) hox
    have ha2:=(show (upd H3 ol (.lst (as'.map V.ref++[.ref x]))) a=H3 a from zl ao).trans ha3
    have xo:x≠ol:=fun z=>by rw [z] at nxH;exact hne.2.2 nxH
    have hx2:=(show (upd H3 ol (.lst (as'.map V.ref++[.ref x]))) x=H3 x from zl xo).trans hx3
    refine ⟨_,rfl,⟨_,_,_,_,_,rfl,ha2,T.adv.cl,T.adv.nn,yI,⟨ol,_,rfl,.inl (SqL.of z5),_,_,rfl,rfl,_,rfl,⟨_,_,_,_,_,rfl,hx2,T.off.cl,T.off.nn,qb,⟨(by show 2≤sizeLine;decide),fun p hp=>?_⟩⟩⟩⟩⟩
    have en:(((as'.map V.ref++[V.ref x]).length:Int) - 1)=(st.offers.length:Int):=by
     rw [za,hl8']
     have:[V.ref x].length=1:=rfl
     omega
    have np:H p=none:=k03.free (by
     by_cases z:p=ol
     ·rw [z,z5] at hp;cases hp
     ·rw [zl z] at hp;exact hp)
    refine hq _ ql ol p (((kpA k03).trans ka2).trans (kpA (Kp.refl.new hp))) (hA2.kp (L:=L) (Kp.refl.new hp)) (.inl rfl) (.inl rfl) ?_ np
    unfold yt
    rw [z5,←en]
    rfl
end
section
variable (L:List LT)(C:Adr)
inductive z0S (vs:List V)(H:Hp)(Q:VK)(_E:XK):Prop | mk (p dx:Addr) (_:vs=[.ref p]) (_:H p=some (.ins C.adv dx [])) (_:∀H' ql ol,Kp L (upd H p (.ins C.adv dx (Yt .non ql ol 0))) H'→H ql=none→H ol=none→H' ql=some (.lst [])→H' ol=some (.lst [])→ql≠ol→Q .non H')
inductive Q7 (vs:List V)(H:Hp)(Q:VK)(_E:XK):Prop | mk (gi a ql ol:Addr) (s:State) (_:vs=[.ref a]) (_:Zj C gi H a ql ol s) (_:Q (.bl s.table.isSome) H)
end
section
variable {P:Program}{w:World}{K:z4}{mg:Str→Option Value}{base:Heap}{L:List LT}{C:Adr}{k:Nat}{f:Addr}{fd:FuncData}
theorem z5G:zy ["self"] ["self"] (zh (yf 1)):=scp
theorem z67 (T:Txt K mg C)(F:Fun K "has_table" "Advisor.has_table" (yf 1) f fd):yT P w K mg base 1 ["self"] (Q7 C) f:=by
 refine F.okN z5G (fun cdv A outer s H vs Q E hr h=>?_)
 ·obtain ⟨gi,a,ql,ol,st,rfl,hA,hq⟩:=h
  obtain ⟨dx,tv,ha,hs⟩:=id hA.at_
  refine ⟨_,z9 (zA (ZJ op_notN (zm (pv 0) rfl) z2L (yj _))),?_⟩
  refine ⟨_,rfl,⟨_,_,_,_,_,rfl,ha,T.adv.cl,T.adv.nn,JZ,⟨rfl,?_⟩⟩⟩
  cases ht:st.table with
  | none=>
   rw [ht] at hs hq
   obtain ⟨rfl,_⟩:=hs
   exact hq
  | some t=>
   rw [ht] at hs hq
   obtain ⟨ta,rfl,_⟩:=hs
   exact hq
theorem z7i:zy ["self"] ["self"] (zh (yf 0)):=scp
theorem z7Z (T:Txt K mg C)(F:Fun K "__init__" "Advisor.__init__" (yf 0) f fd):yT P w K mg base 1 ["self"] (z0S L C) f:=by
 refine F.okN z7i (fun cdv A outer s H vs Q E hr h=>?_)
 ·obtain ⟨p,dx,rfl,hp,hq⟩:=h
  refine ⟨_,z6 (jk (pv 0) z2L rfl) (z6 (jk (pv 0) (yy z7) rfl) (z6 (jk (pv 0) (yy z7) rfl) (z9 (jk (pv 0) yb rfl)))),?_⟩
  refine ⟨_,rfl,⟨_,_,_,_,rfl,hp,T.adv.cl,T.adv.nn,few,⟨zk _,fun ql nq=>?_⟩⟩⟩
  have k1:Kp L (upd H p (.ins C.adv dx (Jt "table" .non []))) (upd (upd H p (.ins C.adv dx (Jt "table" .non []))) ql (.lst [])):=Kp.refl.new nq
  have qp:ql≠p:=fun z=>by rw [z,z5] at nq;cases nq
  have nq0:H ql=none:=by rw [zl qp] at nq;exact nq
  refine ⟨_,rfl,⟨_,_,_,_,rfl,k1.ins z5,T.adv.cl,T.adv.nn,few,⟨zk _,fun ol no=>?_⟩⟩⟩
  have k2:=Kp.reput (c2:=C.adv) (d2:=dx) (y:=Jt "questions" (.ref ql) (Jt "table" .non [])) k1
  have op:ol≠p:=fun z=>by rw [z,z5] at no;cases no
  have k3:=k2.new (o:=.lst []) no
  have no1:=k2.free no
  have no0:H ol=none:=by rw [zl op] at no1;exact no1
  have qo:ql≠ol:=fun z=>by
   rw [zl op,←z,z5] at no;cases no
  refine ⟨_,rfl,⟨_,_,_,_,rfl,k3.ins z5,T.adv.cl,T.adv.nn,few,⟨_,rfl,⟨_,_,_,_,rfl,z5,T.adv.cl,T.adv.nn,few,?_⟩⟩⟩⟩
  rw [Z3]
  have k4:=Kp.reput (c2:=C.adv) (d2:=dx) (y:=Yt .non ql ol 0) k3
  have hql3:(upd (upd (upd (upd H p (.ins C.adv dx (Jt "table" .non []))) ql (.lst [])) p (.ins C.adv dx (Jt "questions" (.ref ql) (Jt "table" .non [])))) ol (.lst [])) ql=some (.lst []):=by
   rw [zl qo,zl qp,z5]
  refine hq _ ql ol k4 nq0 no0 ?_ ?_ qo
  ·rw [zl qp];exact hql3
  ·rw [zl op,z5]
theorem z01:zy ["self","told","table"] ["self","told"] (zh (yf 2)):=scp
theorem z4M (T:Txt K mg C)(F:Fun K "take_table" "Advisor.take_table" (yf 2) f fd)(rt:ya P w K mg base k "read_table" ["told"] (Wd L C))(cr:ya P w K mg base k "count_rows" ["groups"] (Y6 L C)) :
  yT P w K mg base (k+1) ["self","told"] (U7 L C) f:=by
 refine F.okN z01 (fun cdv A outer s H vs Q E hr h=>?_)
 ·obtain ⟨gi,a,ql,ol,tl,st,l,rfl,hA,tabs,hl,hlen,hq⟩:=h
  obtain ⟨dx,tv,ha,hs⟩:=id hA.at_
  rw [z70] at hq
  refine ⟨_,z6 (z4y (th:=z3l (z4d (j6 (tC (.int (-1))) Yl))) (tb:=fun D=>tAsg (tCl (Wd L C) (tryE C.err (z3l (z4d (j6 (tC (.int (-1))) Yl))) D) (j6 (jc 1) Yl)) (VX 2)) rfl T.err rfl rfl
    (fun xe' pn' D hX=>z9 (zK (i:=2) z01.nd rfl loc (yH rt hr rfl hX.passes (z3 (pv 1) z7))))
    (fun e=>z9 (zA (yy (z3 (yx rfl (T.n (n:=-1) (x:="NOT_WHOLE"))) z7)))))
   (z6 (jk (pv 0) (pv 2) rfl) (z6 (jk (pv 0) (yy z7) rfl) (z6 (jk (pv 0) (yy z7) rfl) (z6 (jk (pv 0) yb rfl)
   (z9 (zA (yy (z3 (yH cr hr rfl zL (z3 (zm (pv 2) rfl) z7)) z7)))))))),?_⟩
  refine ⟨_,rfl,tl,l,rfl,hl,hlen,?_⟩
  cases hw:zV Uo l with
  | none=>
   rw [hw] at hq
   intro H1 k1
   refine ⟨rfl,fun σ'=>⟨(by show 1≤sizeLine;decide),fun p hp=>?_⟩⟩
   exact hq.same hA (k1.new hp) (k1.free hp) Jd
  | some t=>
   rw [hw] at hq
   obtain ⟨tok,c1,c4⟩:=zaf (z2c hw)
   intro H1 b k1 nb hb
   have ha1:=k1.ins ha
   refine ⟨_,rfl,_,rfl,⟨_,_,_,_,rfl,ha1,T.adv.cl,T.adv.nn,few,⟨zk _,fun q2 nq=>?_⟩⟩⟩
   have e1:Jt "table" (V.ref b) (Yt tv ql ol st.room)=Yt (.ref b) ql ol st.room:=by kernel_rfl
   rw [e1] at nq ⊢
   have k2:Kp L (upd H1 a (.ins C.adv dx (Yt (.ref b) ql ol st.room))) _:=Kp.refl.new (o:=.lst []) nq
   have qa:q2≠a:=fun z=>by rw [z,z5] at nq;cases nq
   have nq1:H1 q2=none:=by rw [zl qa] at nq;exact nq
   refine ⟨_,rfl,⟨_,_,_,_,rfl,k2.ins z5,T.adv.cl,T.adv.nn,few,⟨zk _,fun o2 no=>?_⟩⟩⟩
   have e2:Jt "questions" (V.ref q2) (Yt (.ref b) ql ol st.room)=Yt (.ref b) q2 ol st.room:=by kernel_rfl
   rw [e2] at no ⊢
   have k3:=Kp.reput (c2:=C.adv) (d2:=dx) (y:=Yt (.ref b) q2 ol st.room) k2
   have oa:o2≠a:=fun z=>by rw [z,z5] at no;cases no
   have no1:H1 o2=none:=by have:=k3.free no;rw [zl oa] at this;exact this
   have qo:q2≠o2:=fun z=>by rw [zl oa,←z,z5] at no;cases no
   have k4:=k3.new (o:=.lst []) no
   refine ⟨_,rfl,⟨_,_,_,_,rfl,k4.ins z5,T.adv.cl,T.adv.nn,few,⟨_,rfl,⟨_,_,_,_,rfl,z5,T.adv.cl,T.adv.nn,few,?_⟩⟩⟩⟩
   rw [Z3]
   have e3:Jt "room" (V.int 0) (Jt "offers" (V.ref o2) (Yt (.ref b) q2 ol st.room))=Yt (.ref b) q2 o2 0:=by kernel_rfl
   rw [e3]
   have k5:=Kp.reput (c2:=C.adv) (d2:=dx) (y:=Yt (.ref b) q2 o2 0) k4
   have hq5:(upd (upd (upd (upd (upd H1 a (.ins C.adv dx (Yt (.ref b) ql ol st.room))) q2 (.lst [])) a (.ins C.adv dx (Yt (.ref b) q2 ol st.room))) o2 (.lst [])) a (.ins C.adv dx (Yt (.ref b) q2 o2 0))) q2=some (.lst []):=by rw [zl qa,zl qo,zl qa,z5]
   have ho5:(upd (upd (upd (upd (upd H1 a (.ins C.adv dx (Yt (.ref b) ql ol st.room))) q2 (.lst [])) a (.ins C.adv dx (Yt (.ref b) q2 ol st.room))) o2 (.lst [])) a (.ins C.adv dx (Yt (.ref b) q2 o2 0))) o2=some (.lst []):=by rw [zl oa,z5]
   have ha5:(upd (upd (upd (upd (upd H1 a (.ins C.adv dx (Yt (.ref b) ql ol st.room))) q2 (.lst [])) a (.ins C.adv dx (Yt (.ref b) q2 ol st.room))) o2 (.lst [])) a (.ins C.adv dx (Yt (.ref b) q2 o2 0))) a=some (.ins C.adv dx (Yt (.ref b) q2 o2 0)):=z5
   generalize (upd (upd (upd (upd (upd H1 a (.ins C.adv dx (Yt (.ref b) ql ol st.room))) q2 (.lst [])) a (.ins C.adv dx (Yt (.ref b) q2 ol st.room))) o2 (.lst [])) a (.ins C.adv dx (Yt (.ref b) q2 o2 0)))=H5 at k5 hq5 ho5 ha5
   obtain ⟨⟨xs,g1⟩,_,_⟩:=hA.gv
   have ga:gi≠a:=Zg g1 ha (by intro z;cases z)
   have g5:H5 gi=some (.lst xs):=k5.lst (by rw [zl ga];exact k1.lst g1)
   have s5:Sub (VU H H1) (hid gi a q2 o2 H5):=fun c o e n=>by
    obtain ⟨n0,h0⟩:=Ur e
    have cg:c≠gi:=fun z=>by rw [z,g1] at n0;cases n0
    have ca:c≠a:=fun z=>by rw [z,ha] at n0;cases n0
    refine z57 cg ca (fun z=>by rw [z,nq1] at h0;cases h0) (fun z=>by rw [z,no1] at h0;cases h0) (k5.obj c o (by rw [zl ca];exact h0) n)
   have hT5:Vg C (hid gi a q2 o2 H5) b t:=hb.sub s5
   have hA5:Zj C gi H5 a q2 o2 ⟨some t,[],[],0⟩:=⟨⟨dx,.ref b,ha5,b,rfl,hT5,⟨tok,c1,c4,zk _,(fun q h=>by cases h),⟨zk _,(fun o h=>by cases h),(fun o h=>by cases h)⟩,zk _⟩⟩,⟨[],hq5,.nil⟩,⟨[],ho5,rfl,fun t' e=>.nil⟩,qo,⟨xs,g5⟩,(fun z=>by rw [z,k1.lst g1] at nq1;cases nq1),(fun z=>by rw [z,k1.lst g1] at no1;cases no1)⟩
   have kA:KpA L a ql ol H H5:=by
    refine ⟨fun c o e n1 _ _ n=>k5.obj c o (by rw [zl n1];exact k1.obj c o e n) n,fun tb=>?_⟩
    have t1:=tb.kp k1
    refine JC.kp (fun x hx=>?_) k5
    obtain ⟨ps,e,alt⟩:=t1 x hx
    refine ⟨ps,by rw [zl (Zg e ha1 (by intro z;cases z))];exact e,?_⟩
    rcases alt with q | ⟨c,x1,x2⟩
    ·exact .inl q
    ·exact .inr ⟨c,x1,by rw [zl (Zg x2 ha1 (by intro z;cases z))];exact x2⟩
   obtain ⟨dt,gl,hb5,hG5⟩:=hT5.sub GE
   refine ⟨_,rfl,⟨_,_,_,_,_,rfl,hb5,T.tbl.cl,T.tbl.nn,W9,⟨gl,t.groups,rfl,hG5,zd tok.gl (by decide),fun H6 k6=>⟨(by show 1≤sizeLine;decide),fun p hp=>?_⟩⟩⟩⟩
   have k7:=k6.new (o:=.lst [V.int (Z6 t.groups:Int)]) hp
   have np5:=k6.free hp
   have np:H p=none:=k1.free (by
    have h9:=k5.free np5
    by_cases z:p=a
    ·rw [z,z5] at h9;cases h9
    ·rw [zl z] at h9;exact h9)
   exact hq _ q2 o2 p (kA.trans (kpA k7)) (hA5.kp k7) (.inr (k1.free nq1)) (.inr (k1.free no1)) Jd np
end
abbrev zE (t:Table)(s:State):Problem:=problemOf t s.questions s.offers
section
variable (L:List LT)(C:Adr)
inductive ZO (vs:List V)(H:Hp)(Q:VK)(_E:XK):Prop | mk (gi a ql ol:Addr) (s:State) (t:Table) (_:vs=[.ref a]) (_:Zj C gi H a ql ol s) (_:s.table=some t) (_:JC L H) (_:∀H' p,Kp L H H'→H p=none→yZ jG H' p (zE t s).costs→Q (.ref p) H')
inductive U5 (vs:List V)(H:Hp)(Q:VK)(_E:XK):Prop | mk (gi a ql ol:Addr) (s:State) (t:Table) (z:Int) (_:vs=[.ref a,.int z]) (_:Zj C gi H a ql ol s) (_:s.table=some t) (_:JC L H) (_:Ans L C gi a ql ol H Q (yu s (.costs z)))
inductive Q3 (vs:List V)(H:Hp)(Q:VK)(_E:XK):Prop | mk (gi a ql ol tl:Addr) (s:State) (t:Table) (l:List Int) (_:vs=[.ref a,.ref tl]) (_:Zj C gi H a ql ol s) (_:s.table=some t) (_:JC L H) (_:yt H tl l) (_:l.length≤1000) (_:Ans L C gi a ql ol H Q (yu s (.cost l)))
end
theorem VB {s:State}{t:Table}{g:Problem→Vaidxd.Answer}(h:s.table=some t):jw s g=(s,g (zE t s)):=by
 unfold jw zX
 rw [h]
theorem zaZ {t:Table}{l:List Offer}{q:Qst}:(z0m (costsOf t l q)).length=l.length+1:=by
 show ((l.map _).map _).length+1=_
 rw [z0,z0]
theorem zb2 {c:Costs}:z1i ((z0m c).map V.int) (some 1) none=(c.by_.map yG).map V.int:=by
 unfold z1i
 rw [HT.sIx_none,show (some (1:Int))=some ((1:Nat):Int) from rfl,HT.sIx_nat]
 have e:min 1 ((z0m c).map V.int).length=1:=by
  unfold z0m
  rw [zJ,zu]
  omega
 rw [e]
 unfold z0m
 rw [zJ,List.drop_succ_cons,WK,zu,Nat.add_sub_cancel,jO]
theorem Zj.parts {C:Adr}{H:Hp}{gi a ql ol:Addr}{s:State}{t:Table}(h:Zj C gi H a ql ol s)(ht:s.table=some t) :
  ∃dx ta,H a=some (.ins C.adv dx (Yt (.ref ta) ql ol s.room))∧Vg C H ta t∧StOk t s∧yZ (Y0 C) H ql s.questions∧yZ (Yo C t) H ol s.offers:=by
 obtain ⟨dx,tv,ha,hs⟩:=h.at_
 rw [ht] at hs
 obtain ⟨ta,rfl,hT,ok⟩:=hs
 obtain ⟨as,q1,q2⟩:=h.qs
 obtain ⟨os,o1,_,o3⟩:=h.os
 exact ⟨dx,ta,ha,hT.sub GE,ok,⟨as,q1,q2.imp fun _ _ r=>r.sub GE⟩,⟨os,o1,(o3 t ht).imp fun _ _ r=>r.sub GE⟩⟩
section
variable {P:Program}{w:World}{K:z4}{mg:Str→Option Value}{base:Heap}{L:List LT}{C:Adr}{k:Nat}{f:Addr}{fd:FuncData}
theorem Ug:zy ["self","question"] ["self"] (zh (yf 15)):=scp
theorem z6c (T:Txt K mg C)(F:Fun K "all_costs" "Advisor.all_costs" (yf 15) f fd)(qc:ya P w K mg base k "question_costs" ["table","question","offers"] (Ub L C)):yT P w K mg base (k+1) ["self"] (ZO L C) f:=by
 refine F.okN Ug (fun cdv A outer s H vs Q E hr h=>?_)
 ·obtain ⟨gi,a,ql,ol,st,t,rfl,hA,ht,tabs,hq⟩:=h
  obtain ⟨dx,ta,ha,hT,ok,⟨as,hS,hAq⟩,hO⟩:=hA.parts ht
  refine ⟨_,z9 (zA (Yy (own:=[("question",1)]) (te:=tCl (Ub L C) E0 (j6 (V5 K (jc 0) "table") (j6 (jc 1) (j6 (V5 K (jc 0) "offers") Yl)))) rfl Ug.nd (j7 (zm (pv 0) rfl)) (yR (by kernel_rfl))
   (fun _ _ _ _ _=>yB (i:=1) Ug.nd rfl loc) (fun _ _ _ _ _=>Zm) (fun _ _ _ _ _=>yH qc hr rfl zL (z3 (zm (pv 0) rfl) (z3 (pv 1) (z3 (zm (pv 0) rfl) z7)))))),?_⟩
  refine ⟨_,rfl,⟨_,_,_,_,_,rfl,ha,T.adv.cl,T.adv.nn,ZY,⟨ql,rfl,⟨_,SqL.of hS⟩,fun D hD=>zaN (L:=L) (fun i ys H'=>∃bs,ys=bs.map V.ref∧Ats (jG H') bs ((zE t st).costs.take i)∧∀y∈bs,y≠D) (SqL.of hS) hD ⟨[],rfl,.nil,fun y h=>by cases h⟩ ?_ ?_⟩⟩⟩
  ·rintro i x H2 hx I
   obtain ⟨b,q,rfl,hb,hqq,rb⟩:=hAq.get hx
   have mq:=zt hqq
   have lti:i<1000:=by
    have:=(zo.mp hqq).1
    have:=ok.ql
    omega
   refine ⟨rfl,Ya ⟨_,rfl,⟨_,_,_,_,_,rfl,I.kp.ins ha,T.adv.cl,T.adv.nn,JZ,⟨_,rfl,_,rfl,⟨_,_,_,_,_,rfl,I.kp.ins ha,T.adv.cl,T.adv.nn,yI,⟨ta,b,ol,t,q,st.offers,rfl,hT.kp I.kp,rb.kp I.kp,jN hO I.kp,ok.tok,ok.qs q mq,ok.os,tabs.kp I.kp,fun H3 p k3 np hp=>?_⟩⟩⟩⟩⟩⟩
   refine I.yes hD (z3H (J8 lti)) k3 fun ys e1 e2 ⟨bs,ey,hB,nb⟩=>?_
   subst ey
   have pD:p≠D:=fun z=>by rw [z,e1] at np;cases np
   have ec:(zE t st).costs[i]?=some (costsOf t st.offers q):=by
    show (st.questions.map (costsOf t st.offers))[i]?=_
    rw [zB,hqq];rfl
   refine ⟨bs++[p],by rw [zw];rfl,?_,fun y hy=>?_⟩
   ·rw [Zr ec]
    refine Ats.snoc (Ats.mem hB fun y d hy r=>?_) ?_
    ·unfold jG yt;rw [zl (nb y hy)];exact jG.kp r k3
    ·unfold jG yt;rw [zl pD];exact hp
   ·rcases zQ.mp hy with hy | hy
    ·exact nb y hy
    ·rw [zi.mp hy];exact pD
  ·intro H2 ys k2 h2 ⟨bs,ey,hB,nb⟩
   subst ey
   have el:(as.map V.ref).length=(zE t st).costs.length:=by
    show _=(st.questions.map (costsOf t st.offers)).length
    rw [z0,z0,hAq.len]
   rw [el,jO] at hB
   exact hq H2 D k2 hD ⟨bs,h2,hB⟩
theorem z00:zy ["self","number","ways"] ["self","number"] (zh (yf 6)):=scp
theorem z4K (T:Txt K mg C)(F:Fun K "tell_costs" "Advisor.tell_costs" (yf 6) f fd)(qc:ya P w K mg base k "question_costs" ["table","question","offers"] (Ub L C)):yT P w K mg base (k+1) ["self","number"] (U5 L C) f:=by
 refine F.okN z00 (fun cdv A outer s H vs Q E hr h=>?_)
 ·obtain ⟨gi,a,ql,ol,st,t,z,rfl,hA,ht,tabs,hq⟩:=h
  obtain ⟨dx,ta,ha,hT,ok,hQs,hO⟩:=hA.parts ht
  obtain ⟨as,hS,hAq⟩:=id hQs
  obtain ⟨os,hOl,hAo⟩:=id hO
  have hq:Ans L C gi a ql ol H Q (jw st _):=hq
  rw [VB ht] at hq
  refine ⟨_,z6 (jb (PW.pt (qK (zZ VT (pv 1) yb (yj _)) (WD (zZ z5Y (pv 1) (yq y6 rfl T.bl jt (z3 (zm (pv 0) rfl) z7)) (yj _))))) (z9 (zA (yy (z3 (yx rfl (T.n (n:=-2))) z7)))) yp)
   (z6 (zK (i:=2) z00.nd rfl loc (yH qc hr rfl zL (z3 (zm (pv 0) rfl) (z3 (Zt jl (zm (pv 0) rfl) (pv 1) (fun _ _=>rfl)) (z3 (zm (pv 0) rfl) z7)))))
   (z9 (zA (jr Jv (yy (z3 (Zt jl (pv 2) yb (fun _ _=>rfl)) (z3 (yq y6 rfl T.bl jt (z3 (zm (pv 0) rfl) z7)) z7))) (z08 z1T (pv 2) (z07 yb) z4B))))),?_⟩
  have bad:(if 0≤z then (zE t st).costs[z.toNat]? else none)=none→(1≤sizeLine∧∀p,H p=none→Q (.ref p) (upd H p (.lst [V.int (-2)]))):=fun h=>by
   simp only [h] at hq
   exact ⟨by decide,fun p hp=>hq.same hA (Kp.refl.new hp) hp Jd⟩
  have hcl:(zE t st).costs.length=st.questions.length:=z0 _
  have hal:(as.map V.ref).length=st.questions.length:=by rw [z0,hAq.len]
  refine ⟨_,rfl,_,_,rfl,rfl,_,rfl,?_⟩
  refine Zc (fun h1=>?_) (fun h1=>?_)
  ·have h1:=of_decide_eq_true h1
   exact z1I (bad (if_neg (by omega)))
  have h1:¬z<0:=fun y=>h1 (decide_eq_true y)
  refine ⟨_,rfl,_,rfl,⟨_,_,_,_,_,rfl,ha,T.adv.cl,T.adv.nn,ZY,⟨ql,_,rfl,.inl (SqL.of hS),_,_,rfl,rfl,_,rfl,?_⟩⟩⟩
  refine Zc (fun h2=>?_) (fun h2=>?_)
  ·have h2:=of_decide_eq_true h2
   exact bad (by rw [if_pos (by omega),jp (by omega)])
  have h2:¬((as.map V.ref).length:Int)≤z:=fun y=>h2 (decide_eq_true y)
  have lt:z.toNat<st.questions.length:=by omega
  have hz:z=((z.toNat:Nat):Int):=by omega
  have hqz:=z8 lt
  generalize st.questions[z.toNat]=q at hqz
  obtain ⟨b,hb,rb⟩:=hAq.get' hqz
  have ec:(if 0≤z then (zE t st).costs[z.toNat]? else none)=some (costsOf t st.offers q):=by
   rw [if_pos (by omega)]
   show (st.questions.map (costsOf t st.offers))[z.toNat]?=_
   rw [zB,hqz];rfl
  simp only [ec] at hq
  refine ⟨_,rfl,⟨_,_,_,_,_,rfl,ha,T.adv.cl,T.adv.nn,JZ,⟨_,rfl,⟨_,_,_,_,_,rfl,ha,T.adv.cl,T.adv.nn,ZY,⟨_,rfl,ql,_,_,_,rfl,rfl,SqL.of hS,YA hz hb,_,rfl,⟨_,_,_,_,_,rfl,ha,T.adv.cl,T.adv.nn,yI,⟨ta,b,ol,t,q,st.offers,rfl,hT,rb,hO,ok.tok,ok.qs q (zt hqz),ok.os,tabs,fun H1 p1 k1 n1 h1=>?_⟩⟩⟩⟩⟩⟩⟩
  have hol:(os.map V.ref).length=st.offers.length:=by rw [z0,hAo.len]
  refine ⟨_,rfl,p1,_,_,_,rfl,rfl,SqL.of h1,qv (j:=0) rfl,?_⟩
  refine ⟨_,rfl,⟨_,_,_,_,_,rfl,k1.ins ha,T.adv.cl,T.adv.nn,yI,⟨ol,_,rfl,.inl (SqL.of (k1.lst hOl)),(by show 2≤sizeLine;decide),fun p2 n2=>?_⟩⟩⟩
  have k2:=k1.new (o:=.lst [V.int ((costsOf t st.offers q).whole:Int),V.int ((os.map V.ref).length:Int)]) n2
  have h1':=jG.kp h1 (L:=L) (Kp.refl.new (o:=.lst [V.int ((costsOf t st.offers q).whole:Int),V.int ((os.map V.ref).length:Int)]) n2)
  refine ⟨_,rfl,_,rfl,p1,_,rfl,SqL.of h1',fun p3 n3=>?_⟩
  have k3:=k2.new (o:=.lst (z1i ((z0m (costsOf t st.offers q)).map V.int) (some 1) none)) n3
  have n3':p2≠p3:=fun z=>by rw [←z,z5] at n3;cases n3
  refine ⟨p2,p3,_,_,rfl,rfl,(by rw [zl n3',z5]),z5,?_,fun p4 n4=>?_⟩
  ·refine zd (Nat.add_le_add_left (z1w _ _ _) _) ?_
   rw [show ((z0m (costsOf t st.offers q)).map V.int).length=st.offers.length+1 by rw [z0,zaZ]]
   show 2+(st.offers.length+1)≤sizeLine
   have:=ok.os.len
   have:(2000:Nat)≤sizeLine:=by decide
   omega
  ·refine hq.same hA (k3.new n4) (k3.free n4) ?_
   unfold yt
   rw [z5,zb2,hol]
   show some (HO.lst ([V.int _,V.int (st.offers.length:Int)]++((costsOf t st.offers q).by_.map yG).map V.int))=some (HO.lst (z1L V.int (((costsOf t st.offers q).whole:Int)::((costsOf t st.offers q).by_.length:Int)::(costsOf t st.offers q).by_.map yG)))
   have eb:(costsOf t st.offers q).by_.length=st.offers.length:=z0 _
   rw [eb]
   rfl
end
theorem jT {t:Table}{s:State}:zN (zE t s)=s.offers.length:=z0 _
theorem z7t {t:Table}{s:State}:(zE t s).costs.length=s.questions.length:=z0 _
theorem prob_by {t:Table}{s:State}:∀c∈(zE t s).costs,c.by_.length=s.offers.length:=fun c hc=>by
 obtain ⟨q,_,rfl⟩:=yr.mp (show c∈s.questions.map (costsOf t s.offers) from hc)
 exact z0 _
section
variable {P:Program}{w:World}{K:z4}{mg:Str→Option Value}{base:Heap}{L:List LT}{C:Adr}{k:Nat}{f:Addr}{fd:FuncData}
theorem V8:zy ["self","chosen","costs","answer","ways"] ["self","chosen"] (zh (yf 7)):=scp
theorem z60 (T:Txt K mg C)(F:Fun K "tell_cost" "Advisor.tell_cost" (yf 7) f fd)(is:ya P w K mg base k "is_set" ["numbers","count"] z4f)(ac:zD P w K mg base k C.adv "all_costs" ["self"] (ZO L C))(sc:ya P w K mg base k "set_cost" ["costs","offers","chosen"] (ZC L C))
  (sr:ya P w K mg base k "set_room" ["offers","chosen"] (JS L C)) (cw:ya P w K mg base k "cheapest_way" ["ways","chosen"] VO):yT P w K mg base (k+1) ["self","chosen"] (Q3 L C) f:=by
 refine F.okN V8 (fun cdv A outer s H vs Q E hr h=>?_)
 ·obtain ⟨gi,a,ql,ol,tl,st,t,l,rfl,hA,ht,tabs,hl,hlen,hq⟩:=h
  obtain ⟨dx,ta,ha,hT,ok,hQs,hO⟩:=hA.parts ht
  obtain ⟨os,hOl,hAo⟩:=id hO
  have hq:Ans L C gi a ql ol H Q (jw st _):=hq
  rw [VB ht] at hq
  refine ⟨_,z6 (jb (z16 (ZW (yH is hr rfl zL (z3 (pv 1) (z3 (yq y6 rfl T.bl jt (z3 (zm (pv 0) rfl) z7)) z7))))) (z9 (zA (yy (z3 (yx rfl (T.n (n:=-4))) z7)))) yp)
   (z6 (zK (i:=2) V8.nd rfl loc (jQ ac hr zL (pv 0)))
   (z6 (zK (i:=3) V8.nd rfl loc (yy (z3 (yH sc hr rfl zL (z3 (pv 2) (z3 (zm (pv 0) rfl) (z3 (pv 1) z7)))) (z3 (yH sr hr rfl zL (z3 (zm (pv 0) rfl) (z3 (pv 1) z7))) z7))))
   (z9 (zA (jr Jv (pv 3) (Yy (own:=[("ways",4)]) rfl V8.nd (j7 (pv 2)) (yR (by kernel_rfl)) (fun _ _ _ _ _=>yB (i:=4) V8.nd rfl loc) (fun _ _ _ _ _=>Zm)
    (fun _ _ _ _ _=>yH cw hr rfl zL (z3 (pv 4) (z3 (pv 1) z7))))))))),?_⟩
  have hol:(os.map V.ref).length=st.offers.length:=by rw [z0,hAo.len]
  refine ⟨_,rfl,_,rfl,⟨_,_,_,_,_,rfl,ha,T.adv.cl,T.adv.nn,yI,⟨ol,_,rfl,.inl (SqL.of hOl),tl,l,st.offers.length,by rw [hol],hl,_,rfl,?_⟩⟩⟩
  refine Zc (fun h=>?_) (fun h=>?_)
  ·have h:Wj st.offers.length 0 l=false:=by simpa using h
   have e:JM (zN (zE t st)) l=none:=by rw [jT];exact zaj h
   simp only [e] at hq
   exact ⟨(by show 1≤sizeLine;decide),fun p hp=>hq.same hA (Kp.refl.new hp) hp Jd⟩
  ·have h:Wj st.offers.length 0 l=true:=by simpa using h
   obtain ⟨e1,e2,e3⟩:=zai h
   have e:JM (zN (zE t st)) l=some (l.map Yk):=by rw [jT];exact e1
   simp only [e] at hq
   generalize hx:l.map Yk=x at e1 e2 e3 e hq
   have hlx:zj H tl x:=by
    unfold zj yJ
    rw [show H tl=some (.lst (l.map V.int)) from hl,e2,zI];rfl
   have hxl:x.length≤1000:=by rw [←hx,z0];exact hlen
   refine ⟨_,rfl,a,dx,_,rfl,ha,(by kernel_rfl),gi,a,ql,ol,st,t,rfl,hA,ht,tabs,fun H1 p1 k1 n1 h1=>?_⟩
   have hq6:st.questions.length≤1000:=zd ok.ql (by decide)
   refine ⟨_,rfl,_,rfl,⟨_,_,_,_,_,rfl,k1.ins ha,T.adv.cl,T.adv.nn,yI,⟨_,rfl,p1,ol,tl,t,st.questions,st.offers,x,rfl,h1,jN hO k1,hlx.kp k1,hq6,hxl,e3,fun H2 k2=>?_⟩⟩⟩
   have k12:=k1.trans k2
   refine ⟨_,rfl,⟨_,_,_,_,_,rfl,k12.ins ha,T.adv.cl,T.adv.nn,yI,⟨_,rfl,ol,tl,t,st.questions,st.offers,x,rfl,jN hO k12,hlx.kp k12,hxl,e3,fun H3 k3=>⟨(by show 2≤sizeLine;decide),fun p4 n4=>?_⟩⟩⟩⟩
   have k13:=k12.trans k3
   have k4:=k13.new (o:=.lst [V.int (zH (problemOf t st.questions st.offers) x:Int),V.int (yk (problemOf t st.questions st.offers) x:Int)]) n4
   have k14:=(k2.trans k3).new (o:=.lst [V.int (zH (problemOf t st.questions st.offers) x:Int),V.int (yk (problemOf t st.questions st.offers) x:Int)]) n4
   have hp4:(upd H3 p4 (.lst [V.int (zH (problemOf t st.questions st.offers) x:Int),V.int (yk (problemOf t st.questions st.offers) x:Int)])) p4=_:=z5
   generalize (upd H3 p4 (.lst [V.int (zH (problemOf t st.questions st.offers) x:Int),V.int (yk (problemOf t st.questions st.offers) x:Int)]))=H4 at k4 hp4 k14
   obtain ⟨cs,hcs,hAc⟩:=jC h1 k14
   have hcl:(zE t st).costs.length≤6:=by rw [z7t];exact ok.ql
   refine ⟨_,rfl,_,rfl,p1,rfl,⟨_,SqL.of hcs⟩,fun D hD=>jS (L:=L) ((zE t st).costs.map fun c=>some (V.int (JL c x:Int))) (SqL.of hcs) hD (by rw [z0,z0,hAc.len]) ?_ ?_⟩
   ·rintro j y o H5 hy ho I
    obtain ⟨b,c,rfl,hb,hc,rb⟩:=hAc.get hy
    have eo:=Z8 ho hc
    subst eo
    have mc:=zt hc
    refine ⟨rfl,Ya ⟨_,rfl,_,rfl,b,tl,c,x,rfl,rb.kp I.kp,(hlx.kp k4).kp I.kp,fun i hi=>by rw [prob_by c mc];exact e3 i hi,?_⟩⟩
    exact I.yes hD (by rw [z0];exact J0 (zd hcl (by decide))) .refl ho
   ·intro H5 k5 h5
    rw [Yf] at h5
    refine ⟨p4,D,_,_,rfl,rfl,k5.lst hp4,h5,?_,fun p6 n6=>?_⟩
    ·rw [z0]
     show 2+_≤sizeLine
     have:(2000:Nat)≤sizeLine:=by decide
     omega
    ·have k6:=(k4.trans k5).new (o:=.lst ([V.int (zH (problemOf t st.questions st.offers) x:Int),V.int (yk (problemOf t st.questions st.offers) x:Int)]++(zE t st).costs.map fun c=>V.int (JL c x:Int))) n6
     refine hq.same hA k6 ((k4.trans k5).free n6) ?_
     unfold yt
     rw [z5,zw,zI]
     rfl
end
section
variable (L:List LT)(C:Adr)
inductive U4 (vs:List V)(H:Hp)(Q:VK)(_E:XK):Prop | mk (gi a ql ol:Addr) (s:State) (t:Table) (_:vs=[.ref a]) (_:Zj C gi H a ql ol s) (_:s.table=some t) (_:JC L H) (_:Ans L C gi a ql ol H Q (yu s .least))
inductive z0G (vs:List V)(H:Hp)(Q:VK)(_E:XK):Prop | mk (gi a ql ol:Addr) (s:State) (t:Table) (z:Int) (_:vs=[.ref a,.int z]) (_:Zj C gi H a ql ol s) (_:s.table=some t) (_:JC L H) (_:Ans L C gi a ql ol H Q (yu s (.kth z)))
end
theorem WE {p:Problem}{r:Nat}{x:Set_}(h:x∈yD p r):zH p x=ym p r∧(∀i∈x,i<zN p)∧x.length≤zN p:=by
 unfold yD at h
 obtain ⟨h1,h2⟩:=yg.mp h
 have ms:=z0t (yg.mp h1).1
 exact ⟨by simpa using h2,ms.2.1,ms.2.2⟩
theorem z3t {p:Problem}{r:Nat}(h:zN p≤8):(yD p r).length≤2304:=by
 unfold yD
 exact zd (jK _ _) (qW h)
theorem Uu (p:Problem)(r:Nat):∃x Z2,yD p r=x::Z2:=by
 cases q:yD p r with
 | nil=>exact absurd q (z52 _ _)
 | cons x Z2=>exact ⟨x,Z2,rfl⟩
section
variable {P:Program}{w:World}{K:z4}{mg:Str→Option Value}{base:Heap}{L:List LT}{C:Adr}{k:Nat}{f:Addr}{fd:FuncData}
theorem Gi:zy ["self","costs","sets"] ["self"] (zh (yf 8)):=scp
theorem z4J (T:Txt K mg C)(F:Fun K "tell_least" "Advisor.tell_least" (yf 8) f fd)(ac:zD P w K mg base k C.adv "all_costs" ["self"] (ZO L C))(ls:ya P w K mg base k "least_sets" ["costs","offers","room"] (V6 L C))
  (sc:ya P w K mg base k "set_cost" ["costs","offers","chosen"] (ZC L C)):yT P w K mg base (k+1) ["self"] (U4 L C) f:=by
 refine F.okN Gi (fun cdv A outer s H vs Q E hr h=>?_)
 ·obtain ⟨gi,a,ql,ol,st,t,rfl,hA,ht,tabs,hq⟩:=h
  obtain ⟨dx,ta,ha,hT,ok,hQs,hO⟩:=hA.parts ht
  have hq:Ans L C gi a ql ol H Q (jw st _):=hq
  rw [VB ht] at hq
  refine ⟨_,z6 (zK (i:=1) Gi.nd rfl loc (jQ ac hr zL (pv 0)))
   (z6 (zK (i:=2) Gi.nd rfl loc (yH ls hr rfl zL (z3 (pv 1) (z3 (zm (pv 0) rfl) (z3 (zm (pv 0) rfl) z7)))))
   (z9 (zA (jr Jv (yy (z3 (yH sc hr rfl zL (z3 (pv 1) (z3 (zm (pv 0) rfl) (z3 (Zt jl (pv 2) yb (fun _ _=>rfl)) z7)))) (z3 (yq y6 rfl T.bl jt (z3 (pv 2) z7)) (z3 (yq y6 rfl T.bl jt (z3 (Zt jl (pv 2) yb (fun _ _=>rfl)) z7)) z7)))) (Zt jl (pv 2) yb (fun _ _=>rfl)))))),?_⟩
  have hq6:st.questions.length≤1000:=zd ok.ql (by decide)
  have hsz:zN (zE t st)≤8:=by rw [jT];exact ok.os.len
  refine ⟨_,rfl,a,dx,_,rfl,ha,(by kernel_rfl),gi,a,ql,ol,st,t,rfl,hA,ht,tabs,fun H1 p1 k1 n1 h1=>?_⟩
  refine ⟨_,rfl,_,rfl,⟨_,_,_,_,_,rfl,k1.ins ha,T.adv.cl,T.adv.nn,yI,⟨_,rfl,⟨_,_,_,_,_,rfl,k1.ins ha,T.adv.cl,T.adv.nn,VJ,⟨p1,ol,t,st.questions,st.offers,st.room,rfl,h1,jN hO k1,hq6,ok.os.len,fun H2 p2 k2 n2 ⟨as,h2,hA2⟩=>?_⟩⟩⟩⟩⟩
  have k12:=k1.trans k2
  obtain ⟨x,Z2,hx⟩:=Uu (zE t st) st.room
  have hll:=z3t (p:=zE t st) (r:=st.room) hsz
  obtain ⟨hxc,hxi,hxl⟩:=WE (p:=zE t st) (r:=st.room) (x:=x) (by rw [hx];exact zn)
  have big:(10000:Nat)≤sizeLine:=by decide
  have hal:=hA2.len
  have hx:yD (problemOf t st.questions st.offers) st.room=x::Z2:=hx
  rw [hx] at hA2
  obtain ⟨b,hb,rb⟩:=hA2.get' (i:=0) (d:=x) rfl
  refine ⟨_,rfl,_,rfl,⟨_,_,_,_,_,rfl,k12.ins ha,T.adv.cl,T.adv.nn,yI,⟨_,rfl,p2,_,_,_,rfl,rfl,SqL.of h2,YA (j:=0) rfl hb,p1,ol,b,t,st.questions,st.offers,x,rfl,jC h1 k2,jN hO k12,rb,hq6,by omega,fun i hi=>by have:=hxi i hi;rw [jT] at this;exact this,fun H3 k3=>?_⟩⟩⟩
  have k13:=k12.trans k3
  have rb3:=zj.kp rb k3
  have h3:=k3.lst h2
  refine ⟨_,rfl,p2,_,rfl,.inl (SqL.of h3),_,rfl,p2,_,_,_,rfl,rfl,SqL.of h3,YA (j:=0) rfl hb,b,_,rfl,.inl rb3.sq,(by show 3≤sizeLine;decide),fun p4 n4=>?_⟩
  have k4:Kp L H3 (upd H3 p4 (.lst [V.int (zH (problemOf t st.questions st.offers) x:Int),V.int ((as.map V.ref).length:Int),V.int ((yJ x).length:Int)])):=Kp.refl.new n4
  have h4:(upd H3 p4 (.lst [V.int (zH (problemOf t st.questions st.offers) x:Int),V.int ((as.map V.ref).length:Int),V.int ((yJ x).length:Int)])) p4=_:=z5
  generalize upd H3 p4 (.lst [V.int (zH (problemOf t st.questions st.offers) x:Int),V.int ((as.map V.ref).length:Int),V.int ((yJ x).length:Int)])=H4 at k4 h4
  refine ⟨_,rfl,p2,_,_,_,rfl,rfl,SqL.of (k4.lst h3),YA (j:=0) rfl hb,p4,b,_,_,rfl,rfl,h4,zj.kp rb3 k4,?_,fun p5 n5=>?_⟩
  ·rw [yM]
   show 3+x.length≤sizeLine
   omega
  ·refine hq.same hA ((k13.trans k4).new n5) ((k13.trans k4).free n5) ?_
   unfold yt
   rw [z5,yM,z0,hal]
   have hxc:zH (problemOf t st.questions st.offers) x=ym (zE t st) st.room:=hxc
   rw [hxc]
   show some (HO.lst ([V.int (ym (zE t st) st.room:Int),V.int ((yD (zE t st) st.room).length:Int),V.int (x.length:Int)]++yJ x))=some (HO.lst (z1L V.int ((ym (zE t st) st.room:Int)::((yD (zE t st) st.room).length:Int)::G7 ((yD (zE t st) st.room).headD []))))
   rw [hx]
   unfold G7 yJ
   simp only [zJ,zI,Zy,Jm,List.headD_cons]
   rfl
theorem z2s:zy ["self","place","sets"] ["self","place"] (zh (yf 9)):=scp
theorem z7C (T:Txt K mg C)(F:Fun K "tell_kth" "Advisor.tell_kth" (yf 9) f fd)(ac:zD P w K mg base k C.adv "all_costs" ["self"] (ZO L C))(ls:ya P w K mg base k "least_sets" ["costs","offers","room"] (V6 L C)) :
  yT P w K mg base (k+1) ["self","place"] (z0G L C) f:=by
 refine F.okN z2s (fun cdv A outer s H vs Q E hr h=>?_)
 ·obtain ⟨gi,a,ql,ol,st,t,z,rfl,hA,ht,tabs,hq⟩:=h
  obtain ⟨dx,ta,ha,hT,ok,hQs,hO⟩:=hA.parts ht
  have hq:Ans L C gi a ql ol H Q (jw st _):=hq
  rw [VB ht] at hq
  refine ⟨_,z6 (jb (zZ VT (pv 1) yb (yj _)) (z9 (zA (yy (z3 (yx rfl (T.n (n:=-4))) z7)))) yp)
   (z6 (zK (i:=2) z2s.nd rfl loc (yH ls hr rfl zL (z3 (jQ ac hr zL (pv 0)) (z3 (zm (pv 0) rfl) (z3 (zm (pv 0) rfl) z7)))))
   (z6 (jb (zZ z5Y (pv 1) (yq y6 rfl T.bl jt (z3 (pv 2) z7)) (yj _)) (z9 (zA (yy (z3 yb z7)))) yp)
   (z9 (zA (jr Jv (yy (z3 yb (z3 (yq y6 rfl T.bl jt (z3 (Zt jl (pv 2) (pv 1) (fun _ _=>rfl)) z7)) z7))) (Zt jl (pv 2) (pv 1) (fun _ _=>rfl))))))),?_⟩
  refine ⟨_,rfl,_,_,rfl,rfl,_,rfl,?_⟩
  refine Zc (fun h1=>?_) (fun h1=>?_)
  ·have h1:=of_decide_eq_true h1
   simp only [if_pos h1] at hq
   exact ⟨(by show 1≤sizeLine;decide),fun p hp=>hq.same hA (Kp.refl.new hp) hp Jd⟩
  have h1:¬z<0:=fun y=>h1 (decide_eq_true y)
  simp only [if_neg h1] at hq
  have hq6:st.questions.length≤1000:=zd ok.ql (by decide)
  have hsz:zN (zE t st)≤8:=by rw [jT];exact ok.os.len
  refine ⟨_,rfl,a,dx,_,rfl,ha,(by kernel_rfl),gi,a,ql,ol,st,t,rfl,hA,ht,tabs,fun H1 p1 k1 n1 h1'=>?_⟩
  refine ⟨_,rfl,⟨_,_,_,_,_,rfl,k1.ins ha,T.adv.cl,T.adv.nn,yI,⟨_,rfl,⟨_,_,_,_,_,rfl,k1.ins ha,T.adv.cl,T.adv.nn,VJ,⟨p1,ol,t,st.questions,st.offers,st.room,rfl,h1',jN hO k1,hq6,ok.os.len,fun H2 p2 k2 n2 ⟨as,h2,hA2⟩=>?_⟩⟩⟩⟩⟩
  have k12:=k1.trans k2
  have hal:=hA2.len
  have hal:(as.map V.ref).length=(yD (zE t st) st.room).length:=by rw [z0];exact hal
  have big:(10000:Nat)≤sizeLine:=by decide
  refine ⟨_,rfl,_,rfl,p2,_,rfl,.inl (SqL.of h2),_,_,rfl,rfl,_,rfl,?_⟩
  refine Zc (fun h3=>?_) (fun h3=>?_)
  ·have h3:=of_decide_eq_true h3
   have e:(yD (zE t st) st.room)[z.toNat]?=none:=jp (by omega)
   simp only [e] at hq
   exact ⟨(by show 1≤sizeLine;decide),fun p hp=>hq.same hA (k12.new hp) (k12.free hp) Jd⟩
  have h3:¬((as.map V.ref).length:Int)≤z:=fun y=>h3 (decide_eq_true y)
  have lt:z.toNat<(yD (zE t st) st.room).length:=by omega
  have e:=z8 lt
  obtain ⟨hxc,hxi,hxl⟩:=WE (zt e)
  generalize (yD (zE t st) st.room)[z.toNat]=x at e hxc hxi hxl
  simp only [e] at hq
  obtain ⟨b,hb,rb⟩:=hA2.get' e
  have hz:z=((z.toNat:Nat):Int):=by omega
  refine ⟨_,rfl,_,rfl,p2,_,_,_,rfl,rfl,SqL.of h2,YA hz hb,b,_,rfl,.inl (zj.sq rb),(by show 2≤sizeLine;decide),fun p4 n4=>?_⟩
  have k4:Kp L H2 (upd H2 p4 (.lst [V.int 1,V.int ((yJ x).length:Int)])):=Kp.refl.new n4
  have h4:(upd H2 p4 (.lst [V.int 1,V.int ((yJ x).length:Int)])) p4=_:=z5
  generalize upd H2 p4 (.lst [V.int 1,V.int ((yJ x).length:Int)])=H4 at k4 h4
  refine ⟨_,rfl,_,rfl,p2,_,_,_,rfl,rfl,SqL.of (k4.lst h2),YA hz hb,p4,b,_,_,rfl,rfl,h4,zj.kp rb k4,?_,fun p5 n5=>?_⟩
  ·rw [yM]
   show 2+x.length≤sizeLine
   omega
  ·refine hq.same hA ((k12.trans k4).new n5) ((k12.trans k4).free n5) ?_
   unfold yt
   rw [z5,yM]
   unfold G7 yJ
   simp only [zJ,zI,Zy,Jm]
   rfl
end
section
variable (L:List LT)(C:Adr)
def Wx (p:Problem)(i:Nat):Int:=match jm p i with
 | some j=>(j:Int)
 | none=>if Jk p i then -2 else -1
inductive Q2 (vs:List V)(H:Hp)(Q:VK)(_E:XK):Prop | mk (gi a ql ol:Addr) (s:State) (t:Table) (z:Int) (_:vs=[.ref a,.int z]) (_:Zj C gi H a ql ol s) (_:s.table=some t) (_:JC L H) (_:Ans L C gi a ql ol H Q (yu s (.with_ z)))
inductive Ge (vs:List V)(H:Hp)(Q:VK)(_E:XK):Prop | mk (gi a ql ol c:Addr) (s:State) (t:Table) (i:Nat) (_:vs=[.ref a,.ref c,.int i]) (_:Zj C gi H a ql ol s) (_:s.table=some t) (_:yZ jG H c (zE t s).costs) (_:i<s.offers.length) (_:∀H',Kp L H H'→Q (.int (Wx (zE t s) i)) H')
inductive Vn (vs:List V)(H:Hp)(Q:VK)(_E:XK):Prop | mk (gi a ql ol:Addr) (s:State) (t:Table) (_:vs=[.ref a]) (_:Zj C gi H a ql ol s) (_:s.table=some t) (_:JC L H) (_:Ans L C gi a ql ol H Q (yu s .dominated))
end
theorem z9a {p:Problem}{r i:Nat}(h:((jH p r).filter fun s=>s.contains i)=[]):YU p r i=none:=by
 unfold YU
 rw [h]
theorem z99 {p:Problem}{r i:Nat}(h:((jH p r).filter fun s=>s.contains i)≠[]):YU p r i=some (z3x (((jH p r).filter fun s=>s.contains i).map (zH p))):=by
 unfold YU
 split
 ·rename_i e;exact absurd e h
 ·rfl
theorem z6S {p:Problem}{r i:Nat}:((jH p r).filter fun s=>!s.contains i)≠[]:=fun z=>by
 have m:[]∈jH p r:=yg.mpr ⟨z5M .nil (fun i h=>by cases h),by simp [yk,Jj]⟩
 have h:([]:Set_)∈(jH p r).filter fun s=>!s.contains i:=yg.mpr ⟨m,rfl⟩
 rw [z] at h
 cases h
theorem z6g {l:List Nat}{m:Int}(hm:m∈l.map fun (n:Nat)=>(n:Int))(h:∀y∈l.map fun (n:Nat)=>(n:Int),m≤y):m=((z3x l:Nat):Int):=by
 obtain ⟨m',hm',rfl⟩:=yr.mp hm
 have hne:l≠[]:=fun z=>by rw [z] at hm';cases hm'
 have h5:=Z9 hm'
 have h6:=h _ (yr.mpr ⟨_,ZK hne,rfl⟩)
 omega
theorem stand_m {p:Problem}{i:Nat}:decide (Wx p i=-1)=((jm p i).isNone&&!Vaidxd.idle p i):=by
 unfold Wx
 cases jm p i with
 | some j=>
  show decide ((j:Int)=-1)=false
  exact decide_eq_false (by omega)
 | none=>cases Jk p i <;> rfl
section
variable {P:Program}{w:World}{K:z4}{mg:Str→Option Value}{base:Heap}{L:List LT}{C:Adr}{k:Nat}{f:Addr}{fd:FuncData}
theorem YD:zy ["self","number","costs","sets","having","lacking","chosen"] ["self","number"] (zh (yf 10)):=scp
theorem z5Z (T:Txt K mg C)(F:Fun K "tell_with" "Advisor.tell_with" (yf 10) f fd)(ac:zD P w K mg base k C.adv "all_costs" ["self"] (ZO L C))(sw:ya P w K mg base k "sets_within" ["offers","room"] (QV L C))
  (sc:ya P w K mg base k "set_cost" ["costs","offers","chosen"] (ZC L C)):yT P w K mg base (k+1) ["self","number"] (Q2 L C) f:=by
 refine F.okN YD (fun cdv A outer s H vs Q E hr h=>?_)
 ·obtain ⟨gi,a,ql,ol,st,t,z,rfl,hA,ht,tabs,hq⟩:=h
  obtain ⟨dx,ta,ha,hT,ok,hQs,hO⟩:=hA.parts ht
  obtain ⟨os,hOl,hAo⟩:=id hO
  have hq:Ans L C gi a ql ol H Q (jw st _):=hq
  rw [VB ht] at hq
  refine ⟨_,z6 (jb (PW.pt (qK (zZ VT (pv 1) yb (yj _)) (WD (zZ z5Y (pv 1) (yq y6 rfl T.bl jt (z3 (zm (pv 0) rfl) z7)) (yj _))))) (z9 (zA (yy (z3 (yx rfl (T.n (n:=-2))) z7)))) yp)
   (z6 (zK (i:=2) YD.nd rfl (z3z rfl) (jQ ac hr zL (pv 0)))
   (z6 (zK (i:=3) YD.nd rfl loc (yH sw hr rfl zL (z3 (zm (pv 0) rfl) (z3 (zm (pv 0) rfl) z7))))
   (z6 (VS (i:=4) (own:=[("chosen",6)]) (tt:=z2i (tOp (rIn K false) (jc 1) (jc 6))) (te:=tCl (ZC L C) E0 (j6 (jc 2) (j6 (V5 K (jc 0) "offers") (j6 (jc 6) Yl)))) rfl YD.nd rfl rfl (Wa rfl rfl rfl rfl) (j7 (pv 3)) (yR (by kernel_rfl))
     (fun _ _ _ _ _=>yB (i:=6) YD.nd rfl loc) (fun _ _ _ _ _=>YK (zZ YM (pv 1) (pv 6) (by with_unfolding_all rfl))) (fun _ _ _ _ _=>yH sc hr rfl zL (z3 (pv 2) (z3 (zm (pv 0) rfl) (z3 (pv 6) z7)))))
   (z6 (VS (i:=5) (own:=[("chosen",6)]) (tt:=z2i (tOp (rIn K true) (jc 1) (jc 6))) (te:=tCl (ZC L C) E0 (j6 (jc 2) (j6 (V5 K (jc 0) "offers") (j6 (jc 6) Yl)))) rfl YD.nd rfl rfl (Wa rfl rfl rfl rfl) (j7 (pv 3)) (yR (by kernel_rfl))
     (fun _ _ _ _ _=>yB (i:=6) YD.nd rfl loc) (fun _ _ _ _ _=>YK (zZ z0b (pv 1) (pv 6) (by with_unfolding_all rfl))) (fun _ _ _ _ _=>yH sc hr rfl zL (z3 (pv 2) (z3 (zm (pv 0) rfl) (z3 (pv 6) z7)))))
   (z9 (zA (yy (z3 (pe_minD rfl rfl T.bl (pv 4) (yx rfl (T.n (n:=-1)))) (z3 (yq (zb4 rfl) rfl T.bl z8f (z3 (pv 5) z7)) z7))))))))),?_⟩
  have hal:(os.map V.ref).length=st.offers.length:=by rw [z0,hAo.len]
  have bad:(z<0∨(st.offers.length:Int)≤z)→(1≤sizeLine∧∀p,H p=none→Q (.ref p) (upd H p (.lst [V.int (-2)]))):=fun h=>by
   have h:z<0∨YN (zN (zE t st))≤z:=by rw [jT];exact h
   simp only [if_pos h] at hq
   exact ⟨by decide,fun p hp=>hq.same hA (Kp.refl.new hp) hp Jd⟩
  refine ⟨_,rfl,_,_,rfl,rfl,_,rfl,?_⟩
  refine Zc (fun h1=>?_) (fun h1=>?_)
  ·have h1:=of_decide_eq_true h1
   exact z1I (bad (.inl h1))
  have h1:¬z<0:=fun y=>h1 (decide_eq_true y)
  refine ⟨_,rfl,_,rfl,⟨_,_,_,_,_,rfl,ha,T.adv.cl,T.adv.nn,yI,⟨ol,_,rfl,.inl (SqL.of hOl),_,_,rfl,rfl,_,rfl,?_⟩⟩⟩
  refine Zc (fun h2=>?_) (fun h2=>?_)
  ·have h2:=of_decide_eq_true h2
   exact bad (.inr (by omega))
  have h2:¬((os.map V.ref).length:Int)≤z:=fun y=>h2 (decide_eq_true y)
  have hng:¬(z<0∨YN (zN (zE t st))≤z):=by
   rw [jT]
   show ¬(z<0∨(st.offers.length:Int)≤z)
   omega
  simp only [if_neg hng] at hq
  obtain ⟨n,rfl⟩:∃n:Nat,z=(n:Int):=⟨z.toNat,by omega⟩
  rw [ZT] at hq
  have hq6:st.questions.length≤1000:=zd ok.ql (by decide)
  have hsz:zN (zE t st)≤8:=by rw [jT];exact ok.os.len
  refine ⟨_,rfl,a,dx,_,rfl,ha,(by kernel_rfl),gi,a,ql,ol,st,t,rfl,hA,ht,tabs,fun H1 p1 k1 n1 h1'=>?_⟩
  refine ⟨_,rfl,⟨_,_,_,_,_,rfl,k1.ins ha,T.adv.cl,T.adv.nn,yI,⟨_,rfl,⟨_,_,_,_,_,rfl,k1.ins ha,T.adv.cl,T.adv.nn,VJ,⟨ol,t,st.questions,st.offers,st.room,rfl,jN hO k1,ok.os.len,fun H2 p2 k2 n2 ⟨as,h2',hA2⟩=>?_⟩⟩⟩⟩⟩
  have k12:=k1.trans k2
  have hwl:=qW (p:=zE t st) (room:=st.room) hsz
  have big:(10000:Nat)≤sizeLine:=by decide
  generalize hW:jH (problemOf t st.questions st.offers) st.room=W at hA2
  have hW:jH (zE t st) st.room=W:=hW
  rw [hW] at hwl
  have hms:∀x∈W,(∀i∈x,i<st.offers.length)∧x.length≤1000:=fun x hx=>by
   rw [←hW] at hx
   have ms:=z0t (yg.mp hx).1
   rw [jT] at ms
   have:=ok.os.len
   exact ⟨ms.2.1,by have:=ms.2.2;omega⟩
  refine ⟨_,rfl,p2,rfl,⟨_,SqL.of h2'⟩,fun D hD=>jS (L:=L) (W.map fun s=>if s.contains n=true then some (V.int (zH (zE t st) s:Int)) else none) (SqL.of h2') hD (by rw [z0,z0,hA2.len]) ?_ ?_⟩
  ·rintro j y o H3 hy ho I
   obtain ⟨b,x,rfl,hb,hx,rb⟩:=hA2.get hy
   have eo:=Z8 ho hx
   have mx:=hms x (zt hx)
   have k3:=k12.trans I.kp
   refine ⟨rfl,_,rfl,_,rfl,b,_,rfl,.inl (zj.sq (zj.kp rb I.kp)),rfl,Yq x,_,rfl,?_⟩
   rw [Jx]
   simp only [j9,if_false]
   by_cases hc:x.contains n=true
   ·rw [if_pos hc] at eo ⊢
    subst eo
    refine ⟨_,rfl,_,rfl,⟨_,_,_,_,_,rfl,k3.ins ha,T.adv.cl,T.adv.nn,yI,⟨_,rfl,p1,ol,b,t,st.questions,st.offers,x,rfl,jC (jC h1' k2) I.kp,jN hO k3,zj.kp rb I.kp,hq6,mx.2,mx.1,fun H4 k4=>?_⟩⟩⟩
    exact I.yes hD (by rw [z0];omega) k4 ho
   ·rw [if_neg hc] at eo ⊢
    subst eo
    exact I.no .refl ho
  intro H3 k3 h3
  rw [Wm] at h3
  have k13:=k12.trans k3
  have h3:zj H3 D ((W.filter fun s=>s.contains n).map (zH (zE t st))):=by
   unfold zj yJ
   rw [h3,zI];rfl
  have hA3:=hA2.imp fun _ _ r=>zj.kp r k3
  have h2k:=k3.lst h2'
  have h1k:=jC (jC h1' k2) k3
  refine ⟨_,rfl,p2,rfl,⟨_,SqL.of h2k⟩,fun D2 hD2=>jS (L:=L) (W.map fun s=>if (!s.contains n)=true then some (V.int (zH (zE t st) s:Int)) else none) (SqL.of h2k) hD2 (by rw [z0,z0,hA2.len]) ?_ ?_⟩
  ·rintro j y o H4 hy ho I
   obtain ⟨b,x,rfl,hb,hx,rb⟩:=hA3.get hy
   have eo:=Z8 ho hx
   have mx:=hms x (zt hx)
   have k4:=k13.trans I.kp
   refine ⟨rfl,_,rfl,_,rfl,b,_,rfl,.inl (zj.sq (zj.kp rb I.kp)),rfl,Yq x,_,rfl,?_⟩
   rw [Jx]
   simp only [if_true]
   by_cases hc:(!x.contains n)=true
   ·rw [if_pos hc] at eo ⊢
    subst eo
    refine ⟨_,rfl,_,rfl,⟨_,_,_,_,_,rfl,k4.ins ha,T.adv.cl,T.adv.nn,yI,⟨_,rfl,p1,ol,b,t,st.questions,st.offers,x,rfl,jC h1k I.kp,jN hO k4,zj.kp rb I.kp,hq6,mx.2,mx.1,fun H5 k5=>?_⟩⟩⟩
    exact I.yes hD2 (by rw [z0];omega) k5 ho
   ·rw [if_neg hc] at eo ⊢
    subst eo
    exact I.no .refl ho
  intro H4 k4 h4
  rw [Wm] at h4
  have k14:=k13.trans k4
  have h4:zj H4 D2 ((W.filter fun s=>!s.contains n).map (zH (zE t st))):=by
   unfold zj yJ
   rw [h4,zI];rfl
  have asI:∀{H':Hp} {p:Addr} {l:List Nat},zj H' p l→SqL K H' p ((l.map fun (n:Nat)=>(n:Int)).map V.int):=fun {H' p l} h=>by
   have:=h.sq (K:=K)
   unfold yJ at this
   rw [zI]
   exact this
  refine ⟨_,rfl,D,_,rfl,asI (zj.kp h3 k4),fun e=>?_,fun m hm hmin=>?_⟩
  case' refine_1=>
   have e:(W.filter fun s=>s.contains n)=[]:=by
    rw [W2,W2] at e
    exact e
   have ev:V.int (-1)=V.int (yG (YU (zE t st) st.room n)):=by rw [z9a (by rw [hW];exact e)];rfl
   rw [ev]
  case' refine_2=>
   have hne:(W.filter fun s=>s.contains n)≠[]:=fun z=>by rw [z] at hm;cases hm
   have ev:m=yG (YU (zE t st) st.room n):=by
    rw [z99 (by rw [hW];exact hne),hW]
    exact z6g hm hmin
   rw [ev]
  all_goals
   have hlne:(W.filter fun s=>!s.contains n)≠[]:=by rw [←hW];exact z6S
   refine ⟨_,rfl,D2,_,rfl,asI h4,?_,fun m2 hm2 hmin2=>?_⟩
   ·rw [z0,z0];exact z0y.mpr hlne
   have em2:m2=((z93 (zE t st) st.room n:Nat):Int):=by
    unfold z93
    rw [hW]
    exact z6g hm2 hmin2
   subst em2
   refine ⟨(by show 2≤sizeLine;decide),fun p5 n5=>?_⟩
   refine hq.same hA (k14.new n5) (k14.free n5) ?_
   unfold yt
   rw [z5]
   rfl
theorem z1n:zy ["self","costs","number","better"] ["self","costs","number"] (zh (yf 16)):=scp
theorem z64 (T:Txt K mg C)(F:Fun K "standing" "Advisor.standing" (yf 16) f fd)(dm:ya P w K mg base k "dominating" ["costs","offers","number"] (Gh L C))(ii:ya P w K mg base k "is_idle" ["costs","offers","number"] (z2n L C)) :
  yT P w K mg base (k+1) ["self","costs","number"] (Ge L C) f:=by
 refine F.okN z1n (fun cdv A outer s H vs Q E hr h=>?_)
 ·obtain ⟨gi,a,ql,ol,c,st,t,i,rfl,hA,ht,hC,hi,hq⟩:=h
  obtain ⟨dx,ta,ha,hT,ok,hQs,hO⟩:=hA.parts ht
  refine ⟨_,z6 (zK (i:=3) z1n.nd rfl loc (yH dm hr rfl zL (z3 (pv 1) (z3 (zm (pv 0) rfl) (z3 (pv 2) z7)))))
   (z6 (jb (zZ Up (yq y6 rfl T.bl jt (z3 (pv 3) z7)) yb (yj _)) (z9 (zA (Zt jl (pv 3) yb (fun _ _=>rfl)))) yp)
   (z9 (zA (z2M (ZW (yH ii hr rfl zL (z3 (pv 1) (z3 (zm (pv 0) rfl) (z3 (pv 2) z7))))) (yx rfl (T.n (n:=-2))) (yx rfl (T.n (n:=-1))))))),?_⟩
  have hq6:st.questions.length≤1000:=zd ok.ql (by decide)
  have hl8:=ok.os.len
  refine ⟨_,rfl,_,rfl,⟨_,_,_,_,_,rfl,ha,T.adv.cl,T.adv.nn,yI,⟨_,rfl,c,ol,t,st.questions,st.offers,i,rfl,hC,hO,hq6,by omega,hi,fun H1 p1 k1 n1 h1=>?_⟩⟩⟩
  have hd:jm (zE t st) i=((zf st.offers.length).filter fun j=>Y5 (problemOf t st.questions st.offers) j i).head?:=by
   unfold jm
   rw [jT,List.head?_filter]
  unfold Wx at hq
  generalize ((zf st.offers.length).filter fun j=>Y5 (problemOf t st.questions st.offers) j i)=bl at h1 hd
  refine ⟨_,rfl,p1,_,rfl,.inl h1.sq,_,_,rfl,rfl,_,rfl,?_⟩
  cases bl with
  | nil=>
   rw [hd] at hq
   have hq:∀H',Kp L H H'→Q (.int (if Jk (zE t st) i then -2 else -1)) H':=hq
   refine GV (by show ¬decide ((0:Int)<((yJ []).length:Int))=true;decide) ⟨_,rfl,_,rfl,⟨_,_,_,_,_,rfl,k1.ins ha,T.adv.cl,T.adv.nn,yI,⟨_,rfl,c,ol,t,st.questions,st.offers,i,rfl,jC hC k1,jN hO k1,hq6,hi,fun H2 k2=>⟨_,rfl,?_⟩⟩⟩⟩
   have q:=hq H2 (k1.trans k2)
   refine Zc (fun h=>?_) (fun h=>?_)
   ·rw [if_pos h] at q;exact q
   ·rw [if_neg h] at q;exact q
  | cons j r=>
   rw [hd] at hq
   have hq:∀H',Kp L H H'→Q (.int (j:Int)) H':=hq
   refine Uw (decide_eq_true (show (0:Int)<((yJ (j::r)).length:Int) by rw [yM,zu];omega)) ⟨_,rfl,p1,_,_,_,rfl,rfl,h1.sq,qv (j:=0) rfl,?_⟩
   exact hq H1 k1
theorem Z7:zy ["self","costs","standings","mattering","number","standing"] ["self"] (zh (yf 11)):=scp
theorem z19 (T:Txt K mg C)(F:Fun K "tell_dominated" "Advisor.tell_dominated" (yf 11) f fd)(ac:zD P w K mg base k C.adv "all_costs" ["self"] (ZO L C))(sd:zD P w K mg base k C.adv "standing" ["self","costs","number"] (Ge L C)) :
  yT P w K mg base (k+1) ["self"] (Vn L C) f:=by
 refine F.okN Z7 (fun cdv A outer s H vs Q E hr h=>?_)
 ·obtain ⟨gi,a,ql,ol,st,t,rfl,hA,ht,tabs,hq⟩:=h
  obtain ⟨dx,ta,ha,hT,ok,hQs,hO⟩:=hA.parts ht
  obtain ⟨os,hOl,hAo⟩:=id hO
  have hq:Ans L C gi a ql ol H Q (jw st _):=hq
  rw [VB ht] at hq
  refine ⟨_,z6 (zK (i:=1) Z7.nd rfl (z3z rfl) (jQ ac hr zL (pv 0)))
   (z6 (VS (i:=2) (own:=[("number",4)]) (te:=tMt C.adv "standing" (Ge L C) E0 (jc 0) (j6 (jc 1) (j6 (jc 4) Yl))) rfl Z7.nd rfl rfl (Wa rfl rfl rfl rfl) (VH rfl T.bl (z3 (yq y6 rfl T.bl jt (z3 (zm (pv 0) rfl) z7)) z7)) (yR (by kernel_rfl))
     (fun _ _ _ _ _=>yB (i:=4) Z7.nd rfl loc) (fun _ _ _ _ _=>Zm) (fun _ _ _ _ _=>jv sd hr zL (pv 0) (z3 (pv 1) (z3 (pv 4) z7))))
   (z6 (VS (i:=3) (own:=[("number",4),("standing",5)]) (g:=gTup K 2 (z6t (VX 4) (z6t (VX 5) gNil))) (tt:=z2i (tOp rEq (jc 5) (tC (.int (-1))))) (te:=jc 4) rfl Z7.nd rfl rfl (Wa rfl rfl rfl rfl) (pi_enum rfl T.bl (z3 (pv 2) z7)) (yR (by kernel_rfl))
     (fun _ _ _ _ _=>z4C rfl (Vb (yB (i:=4) Z7.nd rfl loc) (Vb (yB (i:=5) Z7.nd rfl loc) z1W))) (fun _ _ _ _ _=>YK (zZ Zz (pv 5) (yx rfl (T.n (n:=-1))) (yj _))) (fun _ _ _ _ _=>pv 4))
   (z9 (zA (jr Jv (jr Jv (pv 2) (yy (z3 (yq y6 rfl T.bl jt (z3 (pv 3) z7)) z7))) (pv 3)))))),?_⟩
  have hal:(os.map V.ref).length=st.offers.length:=by rw [z0,hAo.len]
  have hl8:=ok.os.len
  have big:(10000:Nat)≤sizeLine:=by decide
  refine ⟨_,rfl,a,dx,_,rfl,ha,(by kernel_rfl),gi,a,ql,ol,st,t,rfl,hA,ht,tabs,fun H1 p1 k1 n1 h1=>?_⟩
  refine ⟨_,rfl,⟨_,_,_,_,_,rfl,k1.ins ha,T.adv.cl,T.adv.nn,yI,⟨ol,_,rfl,.inl (SqL.of (k1.lst hOl)),_,rfl,by omega,by omega,fun D hD=>?_⟩⟩⟩
  rw [hal]
  refine z6m (L:=L) ((zf st.offers.length).map fun i=>some (V.int (Wx (zE t st) i))) hD (by rw [z0,yA];rfl) ?_ ?_
  ·rintro j o H2 hj ho I
   have hj:j<st.offers.length:=hj
   have eo:=Z8 ho (Y9 hj)
   subst eo
   rw [Int.zero_add]
   have k2:=k1.trans I.kp
   refine ⟨rfl,Ya ⟨_,rfl,a,dx,_,rfl,k2.ins ha,(by kernel_rfl),_,rfl,_,rfl,gi,a,ql,ol,p1,st,t,j,rfl,hA.kp k2,ht,jC h1 I.kp,hj,fun H3 k3=>?_⟩⟩
   exact I.yes hD (by rw [z0,yA];omega) k3 ho
  intro H2 k2 h2
  rw [Yf] at h2
  have k12:=k1.trans k2
  refine ⟨_,rfl,D,_,rfl,SqL.of h2,fun D2 hD2=>zaM (L:=L) ((zf st.offers.length).map fun i=>if ((jm (zE t st) i).isNone&&!Vaidxd.idle (zE t st) i)=true then some (V.int (i:Int)) else none) (SqL.of h2) hD2 (by rw [z0,z0]) ?_ ?_⟩
  ·rintro j x o T2 H3 hx ho I nT
   rw [zB] at hx
   cases hj0:(zf st.offers.length)[j]? with
   | none=>rw [hj0] at hx;cases hx
   | some j'=>
    have lt:=(zo.mp hj0).1
    rw [yA] at lt
    rw [Y9 lt] at hj0
    cases hj0
    rw [Y9 lt] at hx
    have ex:x=V.int (Wx (zE t st) j):=(zG hx).symm
    subst ex
    have eo:=Z8 ho (Y9 lt)
    have kT:Kp L H3 (upd H3 T2 (.tup [V.int (j:Int),V.int (Wx (zE t st) j)])):=Kp.refl.new nT
    refine ⟨T2,_,rfl,SqT.of z5,rfl,_,_,rfl,_,_,rfl,rfl,rfl,?_⟩
    refine ⟨_,rfl,rfl,_,rfl,?_⟩
    have ed:decide (V.int (Wx (zE t st) j)=V.int (-1))=((jm (zE t st) j).isNone&&!Vaidxd.idle (zE t st) j):=by
     rw [←stand_m,y8];simp
    by_cases hc:((jm (zE t st) j).isNone&&!Vaidxd.idle (zE t st) j)=true
    ·rw [if_pos hc] at eo
     subst eo
     refine Uw (by rw [ed];exact hc) ⟨_,rfl,?_⟩
     exact I.yes hD2 (by rw [z0,yA];omega) kT ho
    ·rw [if_neg hc] at eo
     subst eo
     refine GV (by rw [ed];exact hc) ?_
     exact I.no kT ho
  intro H3 k3 h3
  rw [Wm (p:=fun i=>(jm (zE t st) i).isNone&&!Vaidxd.idle (zE t st) i)] at h3
  have em:((zf st.offers.length).filter fun i=>(jm (zE t st) i).isNone&&!Vaidxd.idle (zE t st) i)=Zb (zE t st):=by
   unfold Zb
   rw [jT]
  rw [em] at h3
  have h3:zj H3 D2 (Zb (zE t st)):=h3
  have hml:(Zb (zE t st)).length≤8:=by
   rw [←em]
   refine zd (jK _ _) ?_
   rw [yA];exact hl8
  have k13:=k12.trans k3
  have h2k:=k3.lst h2
  refine ⟨_,rfl,_,rfl,D2,_,rfl,.inl h3.sq,(by show 1≤sizeLine;decide),fun p4 n4=>?_⟩
  have k4:Kp L H3 (upd H3 p4 (.lst [V.int ((yJ (Zb (zE t st))).length:Int)])):=Kp.refl.new n4
  have h4:(upd H3 p4 (.lst [V.int ((yJ (Zb (zE t st))).length:Int)])) p4=_:=z5
  generalize upd H3 p4 (.lst [V.int ((yJ (Zb (zE t st))).length:Int)])=H4 at k4 h4
  refine ⟨D,p4,_,_,rfl,rfl,k4.lst h2k,h4,?_,fun p5 n5=>?_⟩
  ·rw [z0,yA]
   show st.offers.length+1≤sizeLine
   omega
  have k5:Kp L H4 _:=Kp.refl.new (o:=.lst (((zf st.offers.length).map fun d=>V.int (Wx (zE t st) d))++[V.int ((yJ (Zb (zE t st))).length:Int)])) n5
  refine ⟨_,rfl,p5,D2,_,_,rfl,rfl,z5,zj.kp (zj.kp h3 k4) k5,?_,fun p6 n6=>?_⟩
  ·rw [za,z0,yA,yM]
   show st.offers.length+1+_≤sizeLine
   omega
  ·have k15:=(k13.trans k4).trans k5
   refine hq.same hA (k15.new n6) (k15.free n6) ?_
   unfold yt
   rw [z5,yM]
   have es:((zf (zN (zE t st))).map fun i=>match jm (zE t st) i with | some j=>YN j | none=>if Jk (zE t st) i then -2 else -1)=(zf st.offers.length).map (Wx (zE t st)):=by rw [jT];rfl
   show _=some (HO.lst (z1L V.int (((zf (zN (zE t st))).map fun i=>match jm (zE t st) i with | some j=>YN j | none=>if Jk (zE t st) i then -2 else -1)++G7 (Zb (zE t st)))))
   rw [es]
   unfold G7 yJ
   simp only [zw,zJ,zI,jq,Zy,Jm]
   rfl
end
theorem z3G {g:Nat→NP}:∀(l:List Nat) (k:List NP),(l.foldl (fun k r=>Zi k (g r)) k).length≤k.length+l.length
 | [],k=>zb _
 | x::l,k=>by
  rw [yC]
  refine zd (z3G l _) ?_
  have:=Q0 [g x] k
  have:(Zi k (g x)).length≤k.length+1:=this
  rw [zu];omega
theorem z8B {r:Nat}:∀l:List Nat,(z3w r l).length≤l.length+1
 | []=>zb _
 | x::l=>by
  unfold z3w
  split
  ·exact zb _
  ·split
   ·omega
   ·have:=z8B (r:=r) l
    rw [zu,zu];omega
theorem z3M:∀(l:List NP) (k:List Nat),(l.foldl (fun k x=>z3w x.1 k) k).length≤k.length+l.length
 | [],k=>zb _
 | x::l,k=>by
  rw [yC]
  refine zd (z3M l _) ?_
  have:=z8B (r:=x.1) k
  rw [zu];omega
theorem z58 (p:Problem):(Zk p).length≤(jf (zN p)).length:=by
 rw [z1u]
 have h1:=z3G (g:=fun r=>(r,z2Q (Z5 p) r)) (Yb (Z5 p)) []
 have h2:=z3M (Z5 p) []
 have h1:(JR (Z5 p)).length≤0+(Yb (Z5 p)).length:=h1
 have h2:(Yb (Z5 p)).length≤0+(Z5 p).length:=h2
 have h3:(Z5 p).length=(jf (zN p)).length:=z0 _
 omega
theorem z38:∀l:List Nat,((yJ l).countP fun z=>eqV z (.int 0))=l.count 0
 | []=>rfl
 | n::l=>by
  show ((V.int (n:Int)::yJ l).countP fun z=>eqV z (.int 0))=_
  rw [z3j,z38 l,List.count_cons]
  have e:eqV (.int (n:Int)) (.int 0)=(n==0):=by
   show decide ((n:Int)=0)=_
   rw [y8];simp
  rw [e]
section
variable (L:List LT)(C:Adr)
inductive U3 (vs:List V)(H:Hp)(Q:VK)(_E:XK):Prop | mk (gi a ql ol:Addr) (s:State) (t:Table) (_:vs=[.ref a]) (_:Zj C gi H a ql ol s) (_:s.table=some t) (_:JC L H) (_:Ans L C gi a ql ol H Q (yu s .prove))
inductive U6 (vs:List V)(H:Hp)(Q:VK)(_E:XK):Prop | mk (gi a ql ol tl:Addr) (s:State) (t:Table) (z:Int) (l:List Int) (_:vs=[.ref a,.int z,.ref tl]) (_:Zj C gi H a ql ol s) (_:s.table=some t) (_:JC L H) (_:yt H tl l) (_:l.length≤1000) (_:Ans L C gi a ql ol H Q (yu s (.check z l)))
inductive VM (vs:List V)(H:Hp)(Q:VK)(_E:XK):Prop | mk (gi a ql ol:Addr) (s:State) (t:Table) (_:vs=[.ref a]) (_:Zj C gi H a ql ol s) (_:s.table=some t) (_:JC L H) (_:Ans L C gi a ql ol H Q (yu s .frontier))
end
section
variable {P:Program}{w:World}{K:z4}{mg:Str→Option Value}{base:Heap}{L:List LT}{C:Adr}{k:Nat}{f:Addr}{fd:FuncData}
theorem Jp:zy ["self","costs","first","least","steps"] ["self"] (zh (yf 12)):=scp
theorem z4I (T:Txt K mg C)(F:Fun K "tell_proof" "Advisor.tell_proof" (yf 12) f fd)(ac:zD P w K mg base k C.adv "all_costs" ["self"] (ZO L C))(ls:ya P w K mg base k "least_sets" ["costs","offers","room"] (V6 L C))
  (sc:ya P w K mg base k "set_cost" ["costs","offers","chosen"] (ZC L C)) (pr:ju P w K mg base k "Prover" C.prv ["self","costs","offers","room"] (UQ C)) (mp:zD P w K mg base k C.prv "made_proof" ["self","least"] (Ud L C)) :
  yT P w K mg base (k+1) ["self"] (U3 L C) f:=by
 refine F.okN Jp (fun cdv A outer s H vs Q E hr h=>?_)
 ·obtain ⟨gi,a,ql,ol,st,t,rfl,hA,ht,tabs,hq⟩:=h
  obtain ⟨dx,ta,ha,hT,ok,hQs,hO⟩:=hA.parts ht
  have hq:Ans L C gi a ql ol H Q (jw st _):=hq
  rw [VB ht] at hq
  refine ⟨_,z6 (zK (i:=1) Jp.nd rfl loc (jQ ac hr zL (pv 0)))
   (z6 (zK (i:=2) Jp.nd rfl loc (Zt jl (yH ls hr rfl zL (z3 (pv 1) (z3 (zm (pv 0) rfl) (z3 (zm (pv 0) rfl) z7)))) yb (fun _ _=>rfl)))
   (z6 (zK (i:=3) Jp.nd rfl loc (yH sc hr rfl zL (z3 (pv 1) (z3 (zm (pv 0) rfl) (z3 (pv 2) z7)))))
   (z6 (zK (i:=4) Jp.nd rfl loc (jv mp hr zL (JP pr hr rfl zL (z3 (pv 1) (z3 (zm (pv 0) rfl) (z3 (zm (pv 0) rfl) z7)))) (z3 (pv 3) z7)))
   (z9 (zA (jr Jv (yy (z3 (pv 3) (z3 (jr z18 (yq y6 rfl T.bl jt (z3 (pv 4) z7)) (Ju zF z5j PySem.F.type_list_count z3s (pv 4) (z3 (yx rfl (T.n (n:=0))) z7))) z7))) (pv 4))))))),?_⟩
  have hq6:st.questions.length≤1000:=zd ok.ql (by decide)
  have hl8:=ok.os.len
  have hsz:zN (zE t st)≤8:=by rw [jT];exact hl8
  refine ⟨_,rfl,a,dx,_,rfl,ha,(by kernel_rfl),gi,a,ql,ol,st,t,rfl,hA,ht,tabs,fun H1 p1 k1 n1 h1=>?_⟩
  refine ⟨_,rfl,_,rfl,⟨_,_,_,_,_,rfl,k1.ins ha,T.adv.cl,T.adv.nn,yI,⟨_,rfl,⟨_,_,_,_,_,rfl,k1.ins ha,T.adv.cl,T.adv.nn,VJ,⟨p1,ol,t,st.questions,st.offers,st.room,rfl,h1,jN hO k1,hq6,hl8,fun H2 p2 k2 n2 ⟨as,h2,hA2⟩=>?_⟩⟩⟩⟩⟩
  have k12:=k1.trans k2
  obtain ⟨x,Z2,hx⟩:=Uu (zE t st) st.room
  obtain ⟨hxc,hxi,hxl⟩:=WE (p:=zE t st) (r:=st.room) (x:=x) (by rw [hx];exact zn)
  have big:(10000:Nat)≤sizeLine:=by decide
  have hx:yD (problemOf t st.questions st.offers) st.room=x::Z2:=hx
  rw [hx] at hA2
  obtain ⟨b,hb,rb⟩:=hA2.get' (i:=0) (d:=x) rfl
  refine ⟨p2,_,_,_,rfl,rfl,SqL.of h2,YA (j:=0) rfl hb,?_⟩
  refine ⟨_,rfl,_,rfl,⟨_,_,_,_,_,rfl,k12.ins ha,T.adv.cl,T.adv.nn,yI,⟨_,rfl,p1,ol,b,t,st.questions,st.offers,x,rfl,jC h1 k2,jN hO k12,rb,hq6,by omega,fun i hi=>by have:=hxi i hi;rw [jT] at this;exact this,fun H3 k3=>?_⟩⟩⟩
  have k13:=k12.trans k3
  have hxc:zH (problemOf t st.questions st.offers) x=ym (zE t st) st.room:=hxc
  rw [hxc]
  refine ⟨_,rfl,_,rfl,⟨_,_,_,_,_,rfl,k13.ins ha,T.adv.cl,T.adv.nn,yI,⟨_,rfl,⟨_,_,_,_,_,rfl,k13.ins ha,T.adv.cl,T.adv.nn,VJ,(fun y dy ny ndy ne=>⟨y,dy,p1,ol,st.room,rfl,z5,rfl,?_⟩)⟩⟩⟩⟩
  have k4:Kp L H3 _:=Zn (C:=C.prv) (o:=.ins C.prv dy (z2K p1 ol st.room)) ny ndy ne
  have h4:(upd (upd (upd H3 dy (.own y)) y (.ins C.prv dy [])) y (.ins C.prv dy (z2K p1 ol st.room))) y=_:=z5
  generalize (upd (upd (upd H3 dy (.own y)) y (.ins C.prv dy [])) y (.ins C.prv dy (z2K p1 ol st.room)))=H4 at k4 h4
  have k14:=k13.trans k4
  refine ⟨y,dy,_,rfl,h4,(by kernel_rfl),_,rfl,y,⟨t,st.questions,st.offers,st.room⟩,rfl,⟨dy,p1,ol,h4,jC (jC h1 (k2.trans k3)) k4,jN hO k14⟩,⟨hq6,hl8⟩,fun H5 p5 k5 n5 h5=>?_⟩
  have k15:=k14.trans k5
  have h5:zj H5 p5 (yX (jd (zE t st) st.room)):=h5
  have hpl:(yX (jd (zE t st) st.room)).length<1024:=by
   have h1:=z0e (zE t st) st.room (ym (zE t st) st.room) (zN (zE t st)+1) 0 []
   refine zW h1 ?_
   have:2 ^ (zN (zE t st)+1+1)≤2 ^ 10:=VL (by decide) (by omega)
   exact this
  have hlv:=GH (jd (zE t st) st.room)
  refine ⟨_,rfl,_,rfl,p5,_,rfl,.inl h5.sq,_,rfl,.inl ⟨rfl,_,h5.sq⟩,p5,_,_,rfl,rfl,h5.sq,rfl,Yq _,_,_,rfl,rfl,(by show 2≤sizeLine;decide),fun p6 n6=>?_⟩
  rw [z38,yM] at *
  have k6:Kp L H5 (upd H5 p6 (.lst [V.int (ym (zE t st) st.room:Int),V.int (((yX (jd (zE t st) st.room)).length:Int) - ((yX (jd (zE t st) st.room)).count 0:Int))])):=Kp.refl.new n6
  refine ⟨_,rfl,p6,p5,_,_,rfl,rfl,z5,zj.kp h5 k6,?_,fun p7 n7=>?_⟩
  ·rw [yM]
   show 2+_≤sizeLine
   omega
  ·refine hq.same hA ((k15.trans k6).new n7) ((k15.trans k6).free n7) ?_
   unfold yt
   rw [z5]
   have e1:((yX (jd (zE t st) st.room)).length:Int) - ((yX (jd (zE t st) st.room)).count 0:Int)=(G8 (jd (zE t st) st.room):Int):=by omega
   show some (HO.lst ([V.int (ym (zE t st) st.room:Int),V.int (((yX (jd (zE t st) st.room)).length:Int) - ((yX (jd (zE t st) st.room)).count 0:Int))]++yJ (yX (jd (zE t st) st.room))))=some (HO.lst (z1L V.int ((ym (zE t st) st.room:Int)::(G8 (jd (zE t st) st.room):Int)::Vaidxd.flatProof (jd (zE t st) st.room))))
   rw [e1,←G3]
   unfold yJ
   simp only [zJ,zI,Zy,Jm]
   rfl
theorem Gj:zy ["self","cost","told","steps","prover"] ["self","cost","told"] (zh (yf 13)):=scp
theorem z4L (T:Txt K mg C)(F:Fun K "tell_check" "Advisor.tell_check" (yf 13) f fd)(rp:ya P w K mg base k "read_proof" ["told"] (We L C))(ac:zD P w K mg base k C.adv "all_costs" ["self"] (ZO L C))
  (pr:ju P w K mg base k "Prover" C.prv ["self","costs","offers","room"] (UQ C)) (cc:zD P w K mg base k C.prv "accepts" ["self","steps","cost"] (z0T L C)):yT P w K mg base (k+1) ["self","cost","told"] (U6 L C) f:=by
 refine F.okN Gj (fun cdv A outer s H vs Q E hr h=>?_)
 ·obtain ⟨gi,a,ql,ol,tl,st,t,z,l,rfl,hA,ht,tabs,hl,hlen,hq⟩:=h
  obtain ⟨dx,ta,ha,hT,ok,hQs,hO⟩:=hA.parts ht
  have hq:Ans L C gi a ql ol H Q (jw st _):=hq
  rw [VB ht] at hq
  refine ⟨_,z6 (jb (zZ VT (pv 1) yb (yj _)) (z9 (zA (yy (z3 (yx rfl (T.n (n:=-3))) z7)))) yp)
   (z6 (z4y (th:=z3l (z4d (j6 (tC (.int (-4))) Yl))) (tb:=fun D=>tAsg (tCl (We L C) (tryE C.err (z3l (z4d (j6 (tC (.int (-4))) Yl))) D) (j6 (jc 2) Yl)) (VX 3)) rfl T.err rfl rfl
    (fun xe' pn' D hX=>z9 (zK (i:=3) Gj.nd rfl loc (yH rp hr rfl hX.passes (z3 (pv 2) z7))))
    (fun e=>z9 (zA (yy (z3 (yx rfl (T.n (n:=-4) (x:="NOT_A_PROOF"))) z7)))))
   (z6 (zK (i:=4) Gj.nd rfl loc (JP pr hr rfl zL (z3 (jQ ac hr zL (pv 0)) (z3 (zm (pv 0) rfl) (z3 (zm (pv 0) rfl) z7)))))
   (z9 (zA (yy (z3 (z2M (ZW (jv cc hr zL (pv 4) (z3 (pv 3) (z3 (pv 1) z7)))) yb yb) z7)))))),?_⟩
  refine ⟨_,rfl,_,_,rfl,rfl,_,rfl,?_⟩
  refine Zc (fun h1=>?_) (fun h1=>?_)
  ·have h1:=of_decide_eq_true h1
   simp only [if_pos h1] at hq
   exact ⟨(by show 1≤sizeLine;decide),fun p hp=>hq.same hA (Kp.refl.new hp) hp Jd⟩
  have h1:¬z<0:=fun y=>h1 (decide_eq_true y)
  simp only [if_neg h1] at hq
  obtain ⟨m,rfl⟩:∃m:Nat,z=(m:Int):=⟨z.toNat,by omega⟩
  rw [ZT] at hq
  have hq6:st.questions.length≤1000:=zd ok.ql (by decide)
  have hl8:=ok.os.len
  refine ⟨_,rfl,tl,l,rfl,hl,hlen,?_⟩
  cases hp:Y4 l with
  | none=>
   simp only [hp] at hq
   intro H1 k1
   refine ⟨rfl,fun σ'=>⟨(by show 1≤sizeLine;decide),fun p hp=>?_⟩⟩
   exact hq.same hA (k1.new hp) (k1.free hp) Jd
  | some q=>
   simp only [hp] at hq
   have hfl:=z3T.1 q hp
   intro H1 b k1 nb hb
   have hb:yt H1 b l:=hb.sub z1a
   have hbn:zj H1 b (yX q):=by
    unfold zj yJ
    rw [show H1 b=some (.lst (l.map V.int)) from hb,←hfl,←G3,zI];rfl
   have hfnl:(yX q).length≤1000:=by
    have e:=congrArg JK hfl
    rw [←G3,z0] at e
    omega
   have hA1:=hA.kp k1
   refine ⟨_,rfl,a,dx,_,rfl,k1.ins ha,(by kernel_rfl),gi,a,ql,ol,st,t,rfl,hA1,ht,tabs.kp k1,fun H2 p2 k2 n2 h2=>?_⟩
   have k12:=k1.trans k2
   refine ⟨_,rfl,⟨_,_,_,_,_,rfl,k12.ins ha,T.adv.cl,T.adv.nn,yI,⟨_,rfl,⟨_,_,_,_,_,rfl,k12.ins ha,T.adv.cl,T.adv.nn,VJ,(fun y dy ny ndy ne=>⟨y,dy,p2,ol,st.room,rfl,z5,rfl,?_⟩)⟩⟩⟩⟩
   have k3:Kp L H2 _:=Zn (C:=C.prv) (o:=.ins C.prv dy (z2K p2 ol st.room)) ny ndy ne
   have h3:(upd (upd (upd H2 dy (.own y)) y (.ins C.prv dy [])) y (.ins C.prv dy (z2K p2 ol st.room))) y=_:=z5
   generalize (upd (upd (upd H2 dy (.own y)) y (.ins C.prv dy [])) y (.ins C.prv dy (z2K p2 ol st.room)))=H3 at k3 h3
   have k13:=k12.trans k3
   refine ⟨_,rfl,y,dy,_,rfl,h3,(by kernel_rfl),_,rfl,_,rfl,y,b,⟨t,st.questions,st.offers,st.room⟩,m,q,rfl,⟨dy,p2,ol,h3,jC h2 k3,jN hO k13⟩,⟨hq6,hl8⟩,zj.kp hbn (k2.trans k3),hfnl,fun H4 k4=>⟨_,rfl,?_⟩⟩
   have k14:=k13.trans k4
   have hq:Ans L C gi a ql ol H Q (st,[Vaidxd.bool (JO (problemOf t st.questions st.offers) st.room m 0 [] q)]):=hq
   refine Zc (fun h=>?_) (fun h=>?_)
   ·have h:JO (problemOf t st.questions st.offers) st.room m 0 [] q=true:=h
    rw [h] at hq
    exact ⟨(by show 1≤sizeLine;decide),fun p hp=>hq.same hA (k14.new hp) (k14.free hp) Jd⟩
   ·have h:¬JO (problemOf t st.questions st.offers) st.room m 0 [] q=true:=h
    rw [V2.mpr h] at hq
    exact ⟨(by show 1≤sizeLine;decide),fun p hp=>hq.same hA (k14.new hp) (k14.free hp) Jd⟩
theorem Ym:zy ["self","steps","answer","room","cost"] ["self"] (zh (yf 14)):=scp
theorem z1F (T:Txt K mg C)(F:Fun K "tell_frontier" "Advisor.tell_frontier" (yf 14) f fd)(ac:zD P w K mg base k C.adv "all_costs" ["self"] (ZO L C))(ls:ya P w K mg base k "least_steps" ["costs","offers"] (Gf L C)) :
  yT P w K mg base (k+1) ["self"] (VM L C) f:=by
 refine F.okN Ym (fun cdv A outer s H vs Q E hr h=>?_)
 ·obtain ⟨gi,a,ql,ol,st,t,rfl,hA,ht,tabs,hq⟩:=h
  obtain ⟨dx,ta,ha,hT,ok,hQs,hO⟩:=hA.parts ht
  have hq:Ans L C gi a ql ol H Q (jw st _):=hq
  rw [VB ht] at hq
  refine ⟨_,z6 (zK (i:=1) Ym.nd rfl loc (yH ls hr rfl zL (z3 (jQ ac hr zL (pv 0)) (z3 (zm (pv 0) rfl) z7))))
   (z6 (zK (i:=2) Ym.nd rfl loc (yy (z3 (yq y6 rfl T.bl jt (z3 (pv 1) z7)) z7)))
   (z6 (Vo ji rfl (j7 (pv 1)) (z4C rfl (Vb (yB (i:=3) Ym.nd rfl loc) (Vb (yB (i:=4) Ym.nd rfl loc) z1W)))
    (z9 (Z4 (Ju zF jE jD JY (pv 2) (z3 (yy (z3 (pv 3) (z3 (pv 4) z7))) z7)))))
   (z9 (zA (pv 2))))),?_⟩
  have hq6:st.questions.length≤1000:=zd ok.ql (by decide)
  have hl8:=ok.os.len
  refine ⟨_,rfl,a,dx,_,rfl,ha,(by kernel_rfl),gi,a,ql,ol,st,t,rfl,hA,ht,tabs,fun H1 p1 k1 n1 h1=>?_⟩
  refine ⟨_,rfl,⟨_,_,_,_,_,rfl,k1.ins ha,T.adv.cl,T.adv.nn,yI,⟨p1,ol,t,st.questions,st.offers,rfl,h1,jN hO k1,hq6,hl8,fun H2 p2 k2 n2 ⟨as,h2,hA2⟩=>?_⟩⟩⟩
  have k12:=k1.trans k2
  have hal:=hA2.len
  have hfl:(Zk (zE t st)).length≤9 * 256:=by
   refine zd (z58 _) ?_
   have:=G5 (n:=zN (zE t st)) (by rw [jT];exact hl8) (zN (zE t st)+1)
   have e:UF (zN (zE t st)) (zN (zE t st)+1)=jf (zN (zE t st)):=rfl
   rw [e] at this
   rw [jT] at this ⊢
   refine zd this (YY _ (by omega))
  generalize hfr:Zk (zE t st)=fr at hfl
  have hfr':Zk (problemOf t st.questions st.offers)=fr:=hfr
  rw [hfr'] at hA2 hal
  have big:(10000:Nat)≤sizeLine:=by decide
  refine ⟨_,rfl,p2,_,rfl,.inl (SqL.of h2),(by show 1≤sizeLine;decide),fun p3 n3=>?_⟩
  have k3:Kp L H2 (upd H2 p3 (.lst [V.int ((as.map V.ref).length:Int)])):=Kp.refl.new n3
  refine ⟨_,rfl,p2,rfl,⟨_,SqL.of (k3.lst h2)⟩,Vd (K:=K) (a:=p2) (xs:=as.map V.ref) (fun i σ H'=>∃v3 v4:Option V,σ=[some (.ref a),some (.ref p2),some (.ref p3),v3,v4]∧Kp L H2 H'∧yt H' p3 ((fr.length:Int)::(fr.take i).flatMap fun x=>[(x.1:Int),(x.2:Int)]))
   ⟨none,none,rfl,k3,by unfold yt;rw [z5,z0,hal];rfl⟩ (fun i σ H' _ ⟨_,_,_,k,_⟩=>SqL.of (k.lst h2)) ?_ ?_⟩
  ·rintro i x σ H' hx ⟨v3,v4,rfl,k4,hp⟩
   obtain ⟨b,d,rfl,hb,hd,rb⟩:=hA2.get hx
   have lti:=(zo.mp hd).1
   have rb4:=JQ.kp rb k4
   refine ⟨b,_,rfl,SqT.of rb4,rfl,_,_,rfl,_,_,rfl,rfl,?_⟩
   refine ⟨_,rfl,.inl ⟨rfl,_,SqL.of hp⟩,_,rfl,_,rfl,(by show 2≤sizeLine;decide),fun q nq=>?_⟩
   have kq:Kp L H' (upd H' q (.lst [V.int (d.1:Int),V.int (d.2:Int)])):=Kp.refl.new nq
   have hpq:=yt.kp hp kq
   have fl:∀l:List NP,(l.flatMap fun x=>[(x.1:Int),(x.2:Int)]).length=2 * l.length:=fun l=>by
    induction l with
    | nil=>rfl
    | cons x l ih=>rw [ZQ,za,ih];show 2+_=2 * (l.length+1);omega
   refine ⟨p3,q,_,_,rfl,rfl,hpq,z5,?_,?_⟩
   ·rw [z0,zu,fl,Zx]
    show _+2≤sizeLine
    omega
   ·refine ⟨_,_,rfl,(k4.trans kq).putL n3 hpq,?_⟩
    unfold yt
    rw [z5,Zr hd,Jc]
    simp
  ·rintro σ H' ⟨v3,v4,rfl,k4,hp⟩
   rw [z0,hal,jO] at hp
   refine ⟨_,rfl,hq.same hA (k12.trans k4) (k12.free n3) ?_⟩
   show yt H' p3 (((Zk (zE t st)).length:Int)::(Zk (zE t st)).flatMap fun x=>[(x.1:Int),(x.2:Int)])
   rw [hfr]
   exact hp
end
def Wl:List Int:=[2,3,4,7,8,11]
def GF:List Int:=[0,1,2,5,11]
def Zd:List (List Int)→Int×Int×List Int
 | (p::xs)::rows=>(p,xs.headD 0,rows.headD [])
 | _=>(0,0,[])
theorem z73 {p:Int}{n k:Nat}(h:Zf p=some (n,k)):n=(if Wl.contains p then 1 else 0)∧k=(if GF.contains p then 1 else 0):=by
 unfold Zf at h
 by_cases e0:p=0
 ·subst e0;rw [if_pos rfl] at h;cases h;exact ⟨rfl,rfl⟩
 rw [if_neg e0] at h
 by_cases e1:p=1
 ·subst e1;rw [if_pos rfl] at h;cases h;exact ⟨rfl,rfl⟩
 rw [if_neg e1] at h
 by_cases e2:p=2
 ·subst e2;rw [if_pos rfl] at h;cases h;exact ⟨rfl,rfl⟩
 rw [if_neg e2] at h
 by_cases e3:p=3
 ·subst e3;rw [if_pos rfl] at h;cases h;exact ⟨rfl,rfl⟩
 rw [if_neg e3] at h
 by_cases e4:p=4
 ·subst e4;rw [if_pos rfl] at h;cases h;exact ⟨rfl,rfl⟩
 rw [if_neg e4] at h
 by_cases e5:p=5
 ·subst e5;rw [if_pos rfl] at h;cases h;exact ⟨rfl,rfl⟩
 rw [if_neg e5] at h
 by_cases e6:p=6
 ·subst e6;rw [if_pos rfl] at h;cases h;exact ⟨rfl,rfl⟩
 rw [if_neg e6] at h
 by_cases e7:p=7
 ·subst e7;rw [if_pos rfl] at h;cases h;exact ⟨rfl,rfl⟩
 rw [if_neg e7] at h
 by_cases e8:p=8
 ·subst e8;rw [if_pos rfl] at h;cases h;exact ⟨rfl,rfl⟩
 rw [if_neg e8] at h
 by_cases e9:p=9
 ·subst e9;rw [if_pos rfl] at h;cases h;exact ⟨rfl,rfl⟩
 rw [if_neg e9] at h
 by_cases e10:p=10
 ·subst e10;rw [if_pos rfl] at h;cases h;exact ⟨rfl,rfl⟩
 rw [if_neg e10] at h
 by_cases e11:p=11
 ·subst e11;rw [if_pos rfl] at h;cases h;exact ⟨rfl,rfl⟩
 rw [if_neg e11] at h
 by_cases e12:p=12
 ·subst e12;rw [if_pos rfl] at h;cases h;exact ⟨rfl,rfl⟩
 rw [if_neg e12] at h
 cases h
theorem z8e {p:Int}{r t:List Int}{c:List (List Int)}(h:z8m Zf (p::r)=some (c,t)) :
  ∃(num:Int) (r1 row:List Int),(if Wl.contains p=true then r=num::r1 else num=0∧r1=r)∧
   (if GF.contains p=true then ∃(m:Int) (r2:List Int),r1=m::r2∧0≤m∧m.toNat≤r2.length∧row=r2.take m.toNat∧t=r2.drop m.toNat else row=[]∧t=r1)∧Zd c=(p,num,row):=by
 unfold z8m at h
 simp only [] at h
 cases hs:Zf p with
 | none=>rw [hs] at h;cases h
 | some nk=>
  obtain ⟨n,k⟩:=nk
  rw [hs] at h
  simp only [] at h
  obtain ⟨hn,hk⟩:=z73 hs
  split at h
  ·cases h
  rename_i hlen
  cases hr:z27 k (r.drop n) with
  | none=>rw [hr] at h;cases h
  | some xt=>
   obtain ⟨xs,t'⟩:=xt
   rw [hr] at h
   simp only [qT,Prod.mk.injEq] at h
   obtain ⟨hc,ht⟩:=h
   subst ht
   have num:∃(num:Int) (r1:List Int),(if Wl.contains p=true then r=num::r1 else num=0∧r1=r)∧r.drop n=r1∧(r.take n).headD 0=num:=by
    by_cases q:Wl.contains p=true
    ·rw [if_pos q] at hn
     subst hn
     cases r with
     | nil=>simp at hlen
     | cons x r'=>exact ⟨x,r',by rw [if_pos q],rfl,rfl⟩
    ·rw [if_neg q] at hn
     subst hn
     exact ⟨0,r,by rw [if_neg q];exact ⟨rfl,rfl⟩,rfl,rfl⟩
   obtain ⟨num,r1,n1,n2,n3⟩:=num
   rw [n2] at hr
   refine ⟨num,r1,xs.headD [],n1,?_,?_⟩
   ·by_cases q:GF.contains p=true
    ·rw [if_pos q] at hk ⊢
     subst hk
     unfold z27 at hr
     cases hw:PyFlat.row r1 with
     | none=>rw [hw] at hr;cases hr
     | some ys=>
      obtain ⟨y,s⟩:=ys
      rw [hw] at hr
      unfold z27 at hr
      simp only [qT,Prod.mk.injEq] at hr
      obtain ⟨e1,e2⟩:=hr
      subst e1 e2
      unfold PyFlat.row at hw
      cases r1 with
      | nil=>cases hw
      | cons m r2=>
       simp only [] at hw
       split at hw
       ·rename_i hm
        cases hw
        exact ⟨m,r2,rfl,hm.1,hm.2,rfl,rfl⟩
       ·cases hw
    ·rw [if_neg q] at hk ⊢
     subst hk
     unfold z27 at hr
     cases hr
     exact ⟨rfl,rfl⟩
   ·rw [←hc]
    show (p,(r.take n).headD 0,xs.headD [])=_
    rw [n3]
abbrev sCall (j:Nat):Stmt:=Jy (top 99) j
abbrev Qo:Stmt:=top 100
abbrev z11:Stmt:=top 103
abbrev z2D:Stmt:=top 104
def TupN (K:z4)(mg:Str→Option Value)(x:Str)(l:List Int):Prop:=∃a,mg x=some (.ref a)∧∀H:Hp,SqT K H a (l.map V.int)
def QE (p n:Int)(rl:Addr):List (Str×V):=[("kind",.int p),("number",.int n),("row",.ref rl)]
theorem zU {p n:Int}{rl:Addr}:lk (QE p n rl) "kind"=some (.int p):=by kernel_rfl
theorem Jh {p n:Int}{rl:Addr}:lk (QE p n rl) "number"=some (.int n):=by kernel_rfl
theorem UE {p n:Int}{rl:Addr}:lk (QE p n rl) "row"=some (.ref rl):=by kernel_rfl
inductive z3d (C:Adr)(H:Hp)(a:Addr)(c:Int×Int×List Int):Prop | mk (dx rl) (_:H a=some (.ins C.cal dx (QE c.1 c.2.1 rl))) (_:yt H rl c.2.2)
theorem z3d.sub {C:Adr}{H H':Hp}{a:Addr}{c:Int×Int×List Int}(h:z3d C H a c)(k:Sub H H'):z3d C H' a c:=let ⟨dx,rl,h,r⟩:=h;⟨dx,rl,k.ins h,r.sub k⟩
theorem z2Y {p:Int}:∀l:List Int,inV (.int p) (l.map V.int)=l.contains p
 | []=>rfl
 | a::l=>by
  show (eqV (.int a) (.int p)||inV (.int p) (l.map V.int))=_
  rw [z2Y l,WL]
  have e:eqV (.int a) (.int p)=(p==a):=by
   show decide (a=p)=_
   rw [y8];simp;exact eq_comm
  rw [e]
theorem z1h:∀l:List Int,(l.map V.int).all Ve=true
 | []=>rfl
 | a::l=>by show (Ve (.int a)&&(l.map V.int).all Ve)=true;rw [z1h l];rfl
section
variable (L:List LT)(K:z4)(C:Adr)
inductive UT (vs:List V)(H:Hp)(Q:VK)(_E:XK):Prop | mk (q dx rl:Addr) (p n:Int) (_:vs=[.ref q,.int p,.int n,.ref rl]) (_:H q=some (.ins C.cal dx [])) (_:Q .non (upd H q (.ins C.cal dx (QE p n rl))))
end
section
variable {P:Program}{w:World}{K:z4}{mg:Str→Option Value}{base:Heap}{L:List LT}{C:Adr}{k:Nat}{f:Addr}{fd:FuncData}
theorem z7h:zy ["self","kind","number","row"] ["self","kind","number","row"] (zh (sCall 0)):=scp
theorem z7U (T:Txt K mg C)(F:Fun K "__init__" "Call.__init__" (sCall 0) f fd):yT P w K mg base 1 ["self","kind","number","row"] (UT C) f:=by
 refine F.okN z7h (fun cdv A outer s H vs Q E hr h=>?_)
 ·obtain ⟨q,dx,rl,p,n,rfl,hp,hq⟩:=h
  refine ⟨_,z6 (jk (pv 0) (pv 1) rfl) (z6 (jk (pv 0) (pv 2) rfl) (z9 (jk (pv 0) (pv 3) rfl))),?_⟩
  refine ⟨_,rfl,_,rfl,⟨_,_,_,_,rfl,hp,T.cal.cl,T.cal.nn,few,⟨_,rfl,_,rfl,⟨_,_,_,_,rfl,z5,T.cal.cl,T.cal.nn,few,⟨_,rfl,_,rfl,⟨_,_,_,_,rfl,z5,T.cal.cl,T.cal.nn,few,?_⟩⟩⟩⟩⟩⟩
  rw [Z3,Z3]
  exact hq
end
theorem zb3 {l:List Int}{i j:Nat}(h:i≤j)(hj:j≤l.length):z1i (l.map V.int) (some (i:Int)) (some (j:Int))=((l.drop i).take (j - i)).map V.int:=by
 unfold z1i
 rw [HT.sIx_nat,HT.sIx_nat,z0,W1 (zd h hj),W1 hj,←List.map_drop,←List.map_take]
section
variable (L:List LT)(K:z4)(C:Adr)
inductive Ua (vs:List V)(H:Hp)(Q:VK)(_E:XK):Prop | mk (cl:Addr) (l:List Int) (raw:List (List (List Int))) (_:vs=[.ref cl]) (_:SqL K H cl (l.map V.int)) (_:l.length≤17000) (_:YV Zf l.length l=some raw) (_:∀H' p as,Kp L H H'→H p=none→H' p=some (.lst (as.map V.ref))→Ats (z3d C (VU H H')) as (raw.map Zd)→Q (.ref p) H')
end
section
variable {P:Program}{w:World}{K:z4}{mg:Str→Option Value}{base:Heap}{L:List LT}{C:Adr}{k:Nat}{f:Addr}{fd:FuncData}
abbrev z8i (C:Adr)(rd:Addr)(H H':Hp)(y:Addr)(c:Int×Int×List Int):Prop:=∃dy rl,H' y=some (.ins C.cal dy (QE c.1 c.2.1 rl))∧yt H' rl c.2.2∧H y=none∧H rl=none∧rl≠rd
theorem z1y {H H2:Hp}{rd rl:Addr}{as:List Addr}{cs:List (Int×Int×List Int)}{p num:Int}{row:List Int}{v0 v2 v6:Option V}{D:GN}(k2:Kp L H H2)(nrd:H rd=none)(hrd:H2 rd=some (.lst (as.map V.ref)))(hA:Ats (z8i C rd H H2) as cs)(hrow:yt H2 rl row)(nrl:H rl=none)(rlrd:rl≠rd)(hlen:as.length<17001)
  (hD:∀H' x,Kp L H H'→H' rd=some (.lst ((as++[x]).map V.ref))→Ats (z8i C rd H H') (as++[x]) (cs++[(p,num,row)])→D.nx [v0,some (.ref rd),v2,some (.int p),some (.int num),some (.ref rl),v6] H') :
  tDrop (tBM K "list" z8A (jc 1) (j6 (tMk C.cal (UT C) E0 (j6 (jc 3) (j6 (jc 4) (j6 (jc 5) Yl)))) Yl)) D [v0,some (.ref rd),v2,some (.int p),some (.int num),some (.ref rl),v6] H2:=by
 refine ⟨_,rfl,.inl ⟨rfl,_,SqL.of hrd⟩,_,rfl,_,rfl,_,rfl,fun x dx nx nd ne=>⟨x,dx,rl,p,num,rfl,z5,rfl,?_⟩⟩
 have k3:Kp L H2 _:=Zn (C:=C.cal) (o:=.ins C.cal dx (QE p num rl)) nx nd ne
 have hx3:(upd (upd (upd H2 dx (.own x)) x (.ins C.cal dx [])) x (.ins C.cal dx (QE p num rl))) x=some (.ins C.cal dx (QE p num rl)):=z5
 generalize (upd (upd (upd H2 dx (.own x)) x (.ins C.cal dx [])) x (.ins C.cal dx (QE p num rl)))=H3 at k3 hx3
 have hrd3:=k3.lst hrd
 refine ⟨rd,_,_,rfl,rfl,hrd3,?_,?_⟩
 ·rw [z0]
  have:(20000:Nat)≤sizeLine:=by decide
  omega
 have xr:x≠rd:=fun z=>by rw [z,hrd] at nx;cases nx
 refine hD _ x ((k2.trans k3).putL nrd hrd3) (by rw [z5,zw];rfl) ?_
 refine Ats.snoc (hA.imp fun y c ⟨dy,r,a1,a2,a3,a4,a5⟩=>⟨dy,r,?_,?_,a3,a4,a5⟩) ⟨dx,rl,?_,?_,k2.free nx,nrl,rlrd⟩
 ·rw [zl (Zg a1 hrd (by intro z;cases z))];exact k3.ins a1
 ·unfold yt;rw [zl a5];exact k3.lst a2
 ·rw [zl xr];exact hx3
 ·unfold yt;rw [zl rlrd];exact k3.lst hrow
theorem jF:zy ["calls","read","place","kind","number","row","behind"] ["calls"] (zh Qo):=scp
theorem z4T (T:Txt K mg C)(F:Fun K "read_calls" "read_calls" Qo f fd)(tn:TupN K mg "HAVE_NUMBER" Wl)(tr:TupN K mg "HAVE_ROW" GF)(mc:ju P w K mg base k "Call" C.cal ["self","kind","number","row"] (UT C)) :
  yT P w K mg base (k+1) ["calls"] (Ua L K C) f:=by
 refine F.okN jF (fun cdv A outer s H vs Q E hr h=>?_)
 ·obtain ⟨cl,l,raw,rfl,hS,hlen,hraw,hq⟩:=h
  obtain ⟨an,hn1,hn2⟩:=tn
  obtain ⟨ar,hr1,hr2⟩:=tr
  refine ⟨_,z6 (zK (i:=1) jF.nd rfl loc (yy z7))
   (z6 (zK (i:=2) jF.nd rfl loc yb)
   (z6 (Uk ji (zZ VT (pv 2) (yq y6 rfl T.bl jt (z3 (pv 0) z7)) (yj _))
    (z6 (zK (i:=3) jF.nd rfl loc (Zt jl (pv 0) (pv 2) (fun _ _=>rfl)))
    (z6 (z4z (i:=2) jF.nd rfl loc yb z86)
    (z6 (zK (i:=4) jF.nd rfl loc yb)
    (z6 (jb (zZ YM (pv 3) (z4F (v:=.ref an) rfl hn1 rfl) (by with_unfolding_all rfl)) (z6 (zK (i:=4) jF.nd rfl loc (Zt jl (pv 0) (pv 2) (fun _ _=>rfl))) (z9 (z4z (i:=2) jF.nd rfl loc yb z86))) yp)
    (z6 (zK (i:=5) jF.nd rfl loc (yy z7))
    (z6 (jb (zZ YM (pv 3) (z4F (v:=.ref ar) rfl hr1 rfl) (by with_unfolding_all rfl)) (z6 (zK (i:=6) jF.nd rfl loc (jr Yd (jr Yd (pv 2) yb) (Zt jl (pv 0) (pv 2) (fun _ _=>rfl)))) (z6 (zK (i:=5) jF.nd rfl loc (z08 z1T (pv 0) (z07 (jr Yd (pv 2) yb)) (z07 (pv 6)))) (z9 (zK (i:=2) jF.nd rfl loc (pv 6))))) yp)
    (z9 (Z4 (Ju zF yL yK ZX (pv 1) (z3 (JP mc hr rfl zL (z3 (pv 3) (z3 (pv 4) (z3 (pv 5) z7)))) z7)))))))))))
   (z9 (zA (pv 1))))),?_⟩
  refine ⟨zk _,fun rd nrd=>?_⟩
  have k0:Kp L H (upd H rd (.lst [])):=Kp.refl.new nrd
  have gi:∀{i:Nat} {z:Int},l[i]?=some z→(l.map V.int)[i]?=some (.int z):=fun {i z} h=>by rw [Vc,h];rfl
  refine ⟨fun d σ H'=>∃(pl fu:Nat) (v3 v4 v5 v6:Option V) (done Z2:List (List (List Int))) (as:List Addr),d=l.length - pl∧pl≤l.length∧raw=done++Z2∧done.length≤pl∧YV Zf fu (l.drop pl)=some Z2∧σ=[some (.ref cl),some (.ref rd),some (.int (pl:Int)),v3,v4,v5,v6]∧Kp L H H'∧H' rd=some (.lst (as.map V.ref))∧
   Ats (fun (y:Addr) (c:Int×Int×List Int)=>∃dy rl,H' y=some (.ins C.cal dy (QE c.1 c.2.1 rl))∧yt H' rl c.2.2∧H y=none∧H rl=none∧rl≠rd) as (done.map Zd),
   ⟨_,0,l.length,none,none,none,none,[],raw,[],rfl,zk _,rfl,zb _,hraw,rfl,k0,z5,.nil⟩,?_⟩
  rintro d σ H1 ⟨pl,fu,v3,v4,v5,v6,done,Z2,as,rfl,hpl,eraw,hdl,hcalls,rfl,k1,hrd,hA⟩
  refine ⟨_,rfl,_,rfl,cl,_,rfl,.inl (k1.seq hS),_,_,rfl,rfl,_,rfl,?_⟩
  refine Zc (fun h=>?_) (fun h=>?_)
  ·have h:=of_decide_eq_true h
   rw [z0] at h
   have lt:pl<l.length:=by omega
   obtain ⟨p,hp⟩:∃p,l[pl]?=some p:=⟨_,z8 lt⟩
   have edrop:l.drop pl=p::l.drop (pl+1):=by
    rw [jj lt]
    congr 1
    exact (zo.mp hp).2
   rw [edrop] at hcalls
   cases fu with
   | zero=>cases hcalls
   | succ fu=>
   unfold YV at hcalls
   cases hc:z8m Zf (p::l.drop (pl+1)) with
   | none=>rw [hc] at hcalls;cases hcalls
   | some ct=>
   obtain ⟨c,t⟩:=ct
   rw [hc] at hcalls
   simp only [] at hcalls
   cases hrest:YV Zf fu t with
   | none=>rw [hrest] at hcalls;cases hcalls
   | some rest'=>
   rw [hrest] at hcalls
   simp only [qT] at hcalls
   subst hcalls
   obtain ⟨num,r1,row,hnum,hrow,hcd⟩:=z8e hc
   refine ⟨fun σ' H'=>∃(q:Nat) (v3 v4 v5 v6:Option V) (as:List Addr),pl<q∧q≤l.length∧l.drop q=t∧σ'=[some (.ref cl),some (.ref rd),some (.int (q:Int)),v3,v4,v5,v6]∧Kp L H H'∧H' rd=some (.lst (as.map V.ref))∧
    Ats (fun (y:Addr) (c:Int×Int×List Int)=>∃dy rl,H' y=some (.ins C.cal dy (QE c.1 c.2.1 rl))∧yt H' rl c.2.2∧H y=none∧H rl=none∧rl≠rd) as ((done++[c]).map Zd),
    fun σ' H' ⟨q,v3,v4,v5,v6,as,x1,x2,x3,x4,x5,x6,x7⟩=>⟨l.length - q,by omega,q,fu,v3,v4,v5,v6,done++[c],rest',as,rfl,x2,by rw [eraw,jq];rfl,by rw [za];show done.length+1≤q;omega,by rw [x3];exact hrest,x4,x5,x6,x7⟩,?_⟩
   refine ⟨_,rfl,_,rfl,cl,_,_,_,rfl,rfl,k1.seq hS,qv (gi hp),_,rfl,_,_,rfl,rfl,_,rfl,an,_,rfl,.inr (hn2 H1),rfl,z1h _,_,rfl,?_⟩
   rw [z2Y]
   refine Zc (fun hh=>?_) (fun hh=>?_)
   case' refine_1=>
    have hh:Wl.contains p=true:=hh
    rw [if_pos hh] at hnum
    have lt2:pl+1<l.length:=by
     rcases z29 (pl+1) l.length with z | z
     ·exact z
     ·rw [Yx z] at hnum;cases hnum
    have ex:l[pl+1]?=some num:=by
     have:(l.drop (pl+1))[0]?=some num:=by rw [hnum];rfl
     rw [List.getElem?_drop] at this
     exact this
    have ed:l.drop (pl+1+1)=r1:=by
     have:=congrArg (List.drop 1) hnum
     rw [z5l] at this
     exact this
    have lq:pl+1+1≤l.length:=lt2
    have lpq:pl<pl+1+1:=by omega
    refine ⟨_,rfl,_,rfl,cl,_,_,_,rfl,rfl,k1.seq hS,YA (j:=pl+1) rfl (gi ex),_,rfl,_,_,rfl,rfl,?_⟩
    show tSeq _ _ _ [some (.ref cl),some (.ref rd),some (.int ((pl+1+1:Nat):Int)),some (.int p),some (.int num),v5,v6] _
    generalize pl+1+1=q at ed lq lpq
   case' refine_2=>
    have hh:¬Wl.contains p=true:=hh
    rw [if_neg hh] at hnum
    obtain ⟨rfl,ed⟩:=hnum
    have ed:l.drop (pl+1)=r1:=ed.symm
    have lq:pl+1≤l.length:=lt
    have lpq:pl<pl+1:=Yi _
    show tSeq _ _ _ [some (.ref cl),some (.ref rd),some (.int ((pl+1:Nat):Int)),some (.int p),some (.int 0),v5,v6] _
    generalize (0:Int)=num at hcd ⊢
    generalize pl+1=q at ed lq lpq
   all_goals
    refine ⟨zk _,fun e ne=>?_⟩
    have ke:=k1.new (o:=.lst []) ne
    refine ⟨_,rfl,ar,_,rfl,.inr (hr2 _),rfl,z1h _,_,rfl,?_⟩
    rw [z2Y]
    have hasl:as.length<17001:=by rw [hA.len,z0];omega
    have ecd:(done++[c]).map Zd=done.map Zd++[(p,num,row)]:=by rw [zw,zJ,hcd];rfl
    have hA2:Ats (z8i C rd H (upd H1 e (.lst []))) as (done.map Zd):=hA.imp fun y c ⟨dy,r,a1,a2,a3,a4,a5⟩=>⟨dy,r,(Yn ne) _ _ a1,(Yn ne) _ _ a2,a3,a4,a5⟩
    have hrd2:(upd H1 e (.lst [])) rd=some (.lst (as.map V.ref)):=(Yn ne) _ _ hrd
    have erd:e≠rd:=fun z=>by rw [z,hrd] at ne;cases ne
    refine Zc (fun hh2=>?_) (fun hh2=>?_)
    ·have hh2:GF.contains p=true:=hh2
     rw [if_pos hh2] at hrow
     obtain ⟨m,r2,er1,hm0,hml,erow,et⟩:=hrow
     rw [er1] at ed
     have ltq:q<l.length:=by
      rcases z29 q l.length with z | z
      ·exact z
      ·rw [Yx z] at ed;cases ed
     have em:l[q]?=some m:=by
      have:(l.drop q)[0]?=some m:=by rw [ed];rfl
      rw [List.getElem?_drop] at this
      exact this
     have ed2:l.drop (q+1)=r2:=by
      have:=congrArg (List.drop 1) ed
      rw [z5l] at this
      exact this
     have hl2:q+1+m.toNat≤l.length:=by
      have:=congrArg JK ed2
      rw [Vs] at this
      omega
     have hmz:(q:Int)+1+m=((q+1+m.toNat:Nat):Int):=by omega
     have ed3:l.drop (q+1+m.toNat)=t:=by rw [et,←ed2,z5l]
     refine ⟨_,rfl,_,_,rfl,rfl,_,rfl,_,rfl,cl,_,_,_,rfl,rfl,ke.seq hS,qv (gi em),_,_,rfl,rfl,?_⟩
     refine ⟨_,rfl,_,rfl,_,_,rfl,rfl,_,rfl,_,rfl,_,rfl,cl,_,rfl,ke.seq hS,fun rl nrl=>?_⟩
     refine ⟨_,rfl,?_⟩
     rw [hmz,show ((q:Int)+1)=((q+1:Nat):Int) from rfl,zb3 (by omega) hl2]
     have k3:=ke.new (o:=.lst (((l.drop (q+1)).take (q+1+m.toNat - (q+1))).map V.int)) nrl
     have rlrd:rl≠rd:=fun z=>by rw [z,hrd2] at nrl;cases nrl
     refine z1y (K:=K) (row:=row) k3 nrd ((Yn nrl) _ _ hrd2) (hA2.imp fun y c ⟨dy,r,a1,a2,a3,a4,a5⟩=>⟨dy,r,(Yn nrl) _ _ a1,(Yn nrl) _ _ a2,a3,a4,a5⟩) ?_ (ke.free nrl) rlrd hasl fun H' x k' h1 h2=>?_
     ·unfold yt
      rw [z5,ed2,erow,show q+1+m.toNat - (q+1)=m.toNat by omega]
     ·refine ⟨q+1+m.toNat,some (.int p),some (.int num),some (.ref rl),some (.int ((q+1+m.toNat:Nat):Int)),as++[x],by omega,hl2,ed3,?_,k',h1,by rw [ecd];exact h2⟩
      rfl
    ·have hh2:¬GF.contains p=true:=hh2
     rw [if_neg hh2] at hrow
     obtain ⟨erow,et⟩:=hrow
     refine z1y (K:=K) (row:=row) ke nrd hrd2 hA2 (by rw [erow];exact z5) (k1.free ne) erd hasl fun H' x k' h1 h2=>?_
     exact ⟨q,_,_,_,_,as++[x],lpq,lq,by rw [ed,et],rfl,k',h1,by rw [ecd];exact h2⟩
  ·have h:¬(pl:Int)<((l.map V.int).length:Int):=fun y=>h (decide_eq_true y)
   rw [z0] at h
   have e:pl=l.length:=by omega
   subst e
   rw [Vu] at hcalls
   have er:Z2=[]:=by
    cases fu with
    | zero=>unfold YV at hcalls;cases hcalls;rfl
    | succ fu=>unfold YV at hcalls;cases hcalls;rfl
   subst er
   rw [jn] at eraw
   subst eraw
   exact ⟨_,rfl,hq H1 rd as k1 nrd hrd (hA.imp fun y c ⟨dy,rl,a1,a2,a3,a4,_⟩=>⟨dy,rl,jR a3 a1,jR a4 a2⟩)⟩
end
abbrev Qu:Stmt:=top 101
abbrev z12:Stmt:=top 102
def zbe (p n:Int)(row:List Int):WM→Prop
 | .table l=>p=0∧l=row
 | .question l=>p=1∧l=row
 | .index u l=>p=2∧u=n∧l=row
 | .room r=>p=3∧r=n
 | .costs q=>p=4∧q=n
 | .cost l=>p=5∧l=row
 | .least=>p=6
 | .kth k=>p=7∧k=n
 | .with_ i=>p=8∧i=n
 | .dominated=>p=9
 | .prove=>p=10
 | .check c l=>p=11∧c=n∧l=row
 | .frontier=>p=12
def z0p:WM→Bool
 | .question _=>true
 | .index _ _=>true
 | .room _=>true
 | _=>false
def z1Y:WM→Bool
 | .table _=>true
 | _=>false
theorem z9f {s:State}{c:WM}(h:s.table=none)(n:z1Y c=false):yu s c=(s,[-8]):=by
 cases c with
 | table l=>cases n
 | question l=>show zX s _=_;unfold zX;rw [h]
 | index u l=>show zX s _=_;unfold zX;rw [h]
 | room r=>show zX s _=_;unfold zX;rw [h]
 | costs q=>show zX s _=_;unfold zX;rw [h]
 | cost l=>show zX s _=_;unfold zX;rw [h]
 | least=>show zX s _=_;unfold zX;rw [h]
 | kth q=>show zX s _=_;unfold zX;rw [h]
 | with_ q=>show zX s _=_;unfold zX;rw [h]
 | dominated=>show zX s _=_;unfold zX;rw [h]
 | prove=>show zX s _=_;unfold zX;rw [h]
 | check q l=>show zX s _=_;unfold zX;rw [h]
 | frontier=>show zX s _=_;unfold zX;rw [h]
theorem Ans.kp {L:List LT}{C:Adr}{H H1:Hp}{gi a ql ol:Addr}{Q:VK}{x:State×List Int}(h:Ans L C gi a ql ol H Q x)(k:Kp L H H1):Ans L C gi a ql ol H1 Q x:=
 fun H' ql' ol' p kA A hq ho hp np=>h H' ql' ol' p ((kpA k).trans kA) A (hq.imp id fun z=>k.free z) (ho.imp id fun z=>k.free z) hp (k.free np)
section
variable (L:List LT)(C:Adr)
inductive spAns (g:State→WM→Prop)(vs:List V)(H:Hp)(Q:VK)(_E:XK):Prop | mk (gi a ql ol b:Addr) (s:State) (p n:Int) (row:List Int) (c:WM) (_:vs=[.ref a,.ref b]) (_:Zj C gi H a ql ol s) (_:z3d C (hid gi a ql ol H) b (p,n,row)) (_:zbe p n row c) (_:row.length≤1000) (_:JC L H) (_:g s c) (_:Ans L C gi a ql ol H Q (yu s c))
abbrev Uf:Sp:=spAns L C fun s c=>s.table.isSome=true∧z0p c=true
abbrev Q9:Sp:=spAns L C fun s c=>s.table.isSome=true∧z0p c=false∧z1Y c=false
abbrev Q8:Sp:=spAns L C fun _ _=>True
end
theorem Ye {a b:Int}{A B:Prop}(h:B)(n:¬a=b:=by first | decide | simp):if decide (V.int a=V.int b)=true then A else B:=GV (fun z=>n (V.int.inj (of_decide_eq_true z))) h
theorem z2b {a:Int}{A B:Prop}(h:A):if decide (V.int a=V.int a)=true then A else B:=Uw (decide_eq_true rfl) h
section
variable {P:Program}{w:World}{K:z4}{mg:Str→Option Value}{base:Heap}{L:List LT}{C:Adr}{k:Nat}{f:Addr}{fd:FuncData}
theorem z4o:zy ["advisor","call"] ["advisor","call"] (zh Qu):=scp
theorem z51 (T:Txt K mg C)(F:Fun K "answer_to_change" "answer_to_change" Qu f fd)(tq:zD P w K mg base k C.adv "take_question" ["self","told"] (VN L C))(ti:zD P w K mg base k C.adv "take_index" ["self","upkeep","told"] (U8 L C))
  (tr:zD P w K mg base k C.adv "take_room" ["self","room"] (Q4 L C)):yT P w K mg base (k+1) ["advisor","call"] (Uf L C) f:=by
 refine F.okN z4o (fun cdv A outer s H vs Q E hr h=>?_)
 ·obtain ⟨gi,a,ql,ol,b,st,p,n,row,c,rfl,hA,⟨dc,rl,hb,hrl⟩,his,hlen,tabs,⟨hso,hch⟩,hq⟩:=h
  obtain ⟨t,ht⟩:=jI.mp hso
  obtain ⟨_,_,_,_,hb⟩:=WG hb
  have hb:H b=some (.ins C.cal dc (QE p n rl)):=hb
  obtain ⟨_,_,rq,ro,hrl⟩:=WG hrl
  have hrl:yt H rl row:=hrl
  obtain ⟨dx,tv,ha,_⟩:=id hA.at_
  refine ⟨_,z6 (jb (zZ Zz (zm (pv 1) rfl) (yx rfl (T.n (n:=1))) (yj _)) (z9 (zA (jv tq hr zL (pv 0) (z3 (zm (pv 1) rfl) z7)))) yp)
   (z6 (jb (zZ Zz (zm (pv 1) rfl) (yx rfl (T.n (n:=2))) (yj _)) (z9 (zA (jv ti hr zL (pv 0) (z3 (zm (pv 1) rfl) (z3 (zm (pv 1) rfl) z7))))) yp)
   (z9 (zA (jv tr hr zL (pv 0) (z3 (zm (pv 1) rfl) z7))))),?_⟩
  cases c with
  | question l=>
   obtain ⟨rfl,rfl⟩:=his
   exact ⟨_,rfl,⟨_,_,_,_,_,rfl,hb,T.cal.cl,T.cal.nn,zU,⟨rfl,_,rfl,z2b ⟨_,rfl,a,dx,_,rfl,ha,(by kernel_rfl),_,rfl,⟨_,_,_,_,_,rfl,hb,T.cal.cl,T.cal.nn,UE,⟨gi,a,ql,ol,rl,st,t,_,rfl,hA,ht,tabs,hrl,hlen,rq,ro,hq⟩⟩⟩⟩⟩⟩
  | index u l=>
   obtain ⟨rfl,rfl,rfl⟩:=his
   exact ⟨_,rfl,⟨_,_,_,_,_,rfl,hb,T.cal.cl,T.cal.nn,zU,⟨rfl,_,rfl,Ye ⟨_,rfl,⟨_,_,_,_,_,rfl,hb,T.cal.cl,T.cal.nn,zU,⟨rfl,_,rfl,z2b ⟨_,rfl,a,dx,_,rfl,ha,(by kernel_rfl),_,rfl,⟨_,_,_,_,_,rfl,hb,T.cal.cl,T.cal.nn,Jh,⟨_,rfl,⟨_,_,_,_,_,rfl,hb,T.cal.cl,T.cal.nn,UE,⟨gi,a,ql,ol,rl,st,t,_,_,rfl,hA,ht,tabs,hrl,hlen,hq⟩⟩⟩⟩⟩⟩⟩⟩⟩⟩⟩
  | room r=>
   obtain ⟨rfl,rfl⟩:=his
   exact ⟨_,rfl,⟨_,_,_,_,_,rfl,hb,T.cal.cl,T.cal.nn,zU,⟨rfl,_,rfl,Ye ⟨_,rfl,⟨_,_,_,_,_,rfl,hb,T.cal.cl,T.cal.nn,zU,⟨rfl,_,rfl,Ye ⟨_,rfl,a,dx,_,rfl,ha,(by kernel_rfl),_,rfl,⟨_,_,_,_,_,rfl,hb,T.cal.cl,T.cal.nn,Jh,⟨gi,a,ql,ol,st,t,_,rfl,hA,ht,tabs,hq⟩⟩⟩⟩⟩⟩⟩⟩⟩
  | _=>cases hch
theorem z5J:zy ["advisor","call"] ["advisor","call"] (zh z12):=scp
theorem z6b (T:Txt K mg C)(F:Fun K "answer_to_other" "answer_to_other" z12 f fd)(m4:zD P w K mg base k C.adv "tell_costs" ["self","number"] (U5 L C))(m5:zD P w K mg base k C.adv "tell_cost" ["self","chosen"] (Q3 L C))
  (m6:zD P w K mg base k C.adv "tell_least" ["self"] (U4 L C)) (m7:zD P w K mg base k C.adv "tell_kth" ["self","place"] (z0G L C)) (m8:zD P w K mg base k C.adv "tell_with" ["self","number"] (Q2 L C)) (m9:zD P w K mg base k C.adv "tell_dominated" ["self"] (Vn L C))
  (m10:zD P w K mg base k C.adv "tell_proof" ["self"] (U3 L C)) (m11:zD P w K mg base k C.adv "tell_check" ["self","cost","told"] (U6 L C)) (m12:zD P w K mg base k C.adv "tell_frontier" ["self"] (VM L C)) :
  yT P w K mg base (k+1) ["advisor","call"] (Q9 L C) f:=by
 refine F.okN z5J (fun cdv A outer s H vs Q E hr h=>?_)
 ·obtain ⟨gi,a,ql,ol,b,st,p,n,row,c,rfl,hA,⟨dc,rl,hb,hrl⟩,his,hlen,tabs,⟨hso,hch,htb⟩,hq⟩:=h
  obtain ⟨t,ht⟩:=jI.mp hso
  obtain ⟨_,_,_,_,hb⟩:=WG hb
  have hb:H b=some (.ins C.cal dc (QE p n rl)):=hb
  obtain ⟨_,_,rq,ro,hrl⟩:=WG hrl
  have hrl:yt H rl row:=hrl
  obtain ⟨dx,tv,ha,_⟩:=id hA.at_
  refine ⟨_,z6 (jb (zZ Zz (zm (pv 1) rfl) (yx rfl (T.n (n:=4))) (yj _)) (z9 (zA (jv m4 hr zL (pv 0) (z3 (zm (pv 1) rfl) z7)))) yp)
   (z6 (jb (zZ Zz (zm (pv 1) rfl) (yx rfl (T.n (n:=5))) (yj _)) (z9 (zA (jv m5 hr zL (pv 0) (z3 (zm (pv 1) rfl) z7)))) yp)
   (z6 (jb (zZ Zz (zm (pv 1) rfl) (yx rfl (T.n (n:=6))) (yj _)) (z9 (zA (jQ m6 hr zL (pv 0)))) yp)
   (z6 (jb (zZ Zz (zm (pv 1) rfl) (yx rfl (T.n (n:=7))) (yj _)) (z9 (zA (jv m7 hr zL (pv 0) (z3 (zm (pv 1) rfl) z7)))) yp)
   (z6 (jb (zZ Zz (zm (pv 1) rfl) (yx rfl (T.n (n:=8))) (yj _)) (z9 (zA (jv m8 hr zL (pv 0) (z3 (zm (pv 1) rfl) z7)))) yp)
   (z6 (jb (zZ Zz (zm (pv 1) rfl) (yx rfl (T.n (n:=9))) (yj _)) (z9 (zA (jQ m9 hr zL (pv 0)))) yp)
   (z6 (jb (zZ Zz (zm (pv 1) rfl) (yx rfl (T.n (n:=10))) (yj _)) (z9 (zA (jQ m10 hr zL (pv 0)))) yp)
   (z6 (jb (zZ Zz (zm (pv 1) rfl) (yx rfl (T.n (n:=11))) (yj _)) (z9 (zA (jv m11 hr zL (pv 0) (z3 (zm (pv 1) rfl) (z3 (zm (pv 1) rfl) z7))))) yp)
   (z9 (zA (jQ m12 hr zL (pv 0))))))))))),?_⟩
  cases c with
  | costs q=>
   obtain ⟨rfl,rfl⟩:=his
   exact ⟨_,rfl,⟨_,_,_,_,_,rfl,hb,T.cal.cl,T.cal.nn,zU,⟨rfl,_,rfl,z2b ⟨_,rfl,a,dx,_,rfl,ha,(by kernel_rfl),_,rfl,⟨_,_,_,_,_,rfl,hb,T.cal.cl,T.cal.nn,Jh,⟨gi,a,ql,ol,st,t,_,rfl,hA,ht,tabs,hq⟩⟩⟩⟩⟩⟩
  | cost l=>
   obtain ⟨rfl,rfl⟩:=his
   exact ⟨_,rfl,⟨_,_,_,_,_,rfl,hb,T.cal.cl,T.cal.nn,zU,⟨rfl,_,rfl,Ye ⟨_,rfl,⟨_,_,_,_,_,rfl,hb,T.cal.cl,T.cal.nn,zU,⟨rfl,_,rfl,z2b ⟨_,rfl,a,dx,_,rfl,ha,(by kernel_rfl),_,rfl,⟨_,_,_,_,_,rfl,hb,T.cal.cl,T.cal.nn,UE,⟨gi,a,ql,ol,rl,st,t,_,rfl,hA,ht,tabs,hrl,hlen,hq⟩⟩⟩⟩⟩⟩⟩⟩⟩
  | least=>
   have e:p=6:=his
   subst e
   exact ⟨_,rfl,⟨_,_,_,_,_,rfl,hb,T.cal.cl,T.cal.nn,zU,⟨rfl,_,rfl,Ye ⟨_,rfl,⟨_,_,_,_,_,rfl,hb,T.cal.cl,T.cal.nn,zU,⟨rfl,_,rfl,Ye ⟨_,rfl,⟨_,_,_,_,_,rfl,hb,T.cal.cl,T.cal.nn,zU,⟨rfl,_,rfl,z2b ⟨_,rfl,a,dx,_,rfl,ha,(by kernel_rfl),gi,a,ql,ol,st,t,rfl,hA,ht,tabs,hq⟩⟩⟩⟩⟩⟩⟩⟩⟩⟩
  | kth q=>
   obtain ⟨rfl,rfl⟩:=his
   exact ⟨_,rfl,⟨_,_,_,_,_,rfl,hb,T.cal.cl,T.cal.nn,zU,⟨rfl,_,rfl,Ye ⟨_,rfl,⟨_,_,_,_,_,rfl,hb,T.cal.cl,T.cal.nn,zU,⟨rfl,_,rfl,Ye ⟨_,rfl,⟨_,_,_,_,_,rfl,hb,T.cal.cl,T.cal.nn,zU,⟨rfl,_,rfl,Ye ⟨_,rfl,⟨_,_,_,_,_,rfl,hb,T.cal.cl,T.cal.nn,zU,⟨rfl,_,rfl,z2b ⟨_,rfl,a,dx,_,rfl,ha,(by kernel_rfl),_,rfl,⟨_,_,_,_,_,rfl,hb,T.cal.cl,T.cal.nn,Jh,⟨gi,a,ql,ol,st,t,_,rfl,hA,ht,tabs,hq⟩⟩⟩⟩⟩⟩⟩⟩⟩⟩⟩⟩⟩⟩⟩
  | with_ q=>
   obtain ⟨rfl,rfl⟩:=his
   exact ⟨_,rfl,⟨_,_,_,_,_,rfl,hb,T.cal.cl,T.cal.nn,zU,⟨rfl,_,rfl,Ye ⟨_,rfl,⟨_,_,_,_,_,rfl,hb,T.cal.cl,T.cal.nn,zU,⟨rfl,_,rfl,Ye ⟨_,rfl,⟨_,_,_,_,_,rfl,hb,T.cal.cl,T.cal.nn,zU,⟨rfl,_,rfl,Ye ⟨_,rfl,⟨_,_,_,_,_,rfl,hb,T.cal.cl,T.cal.nn,zU,⟨rfl,_,rfl,Ye ⟨_,rfl,⟨_,_,_,_,_,rfl,hb,T.cal.cl,T.cal.nn,zU,⟨rfl,_,rfl,z2b ⟨_,rfl,a,dx,_,rfl,ha,(by kernel_rfl),_,rfl,⟨_,_,_,_,_,rfl,hb,T.cal.cl,T.cal.nn,Jh,⟨gi,a,ql,ol,st,t,_,rfl,hA,ht,tabs,hq⟩⟩⟩⟩⟩⟩⟩⟩⟩⟩⟩⟩⟩⟩⟩⟩⟩⟩
  | dominated=>
   have e:p=9:=his
   subst e
   exact ⟨_,rfl,⟨_,_,_,_,_,rfl,hb,T.cal.cl,T.cal.nn,zU,⟨rfl,_,rfl,Ye ⟨_,rfl,⟨_,_,_,_,_,rfl,hb,T.cal.cl,T.cal.nn,zU,⟨rfl,_,rfl,Ye ⟨_,rfl,⟨_,_,_,_,_,rfl,hb,T.cal.cl,T.cal.nn,zU,⟨rfl,_,rfl,Ye ⟨_,rfl,⟨_,_,_,_,_,rfl,hb,T.cal.cl,T.cal.nn,zU,⟨rfl,_,rfl,Ye ⟨_,rfl,⟨_,_,_,_,_,rfl,hb,T.cal.cl,T.cal.nn,zU,⟨rfl,_,rfl,Ye ⟨_,rfl,⟨_,_,_,_,_,rfl,hb,T.cal.cl,T.cal.nn,zU,⟨rfl,_,rfl,z2b ⟨_,rfl,a,dx,_,rfl,ha,(by kernel_rfl),gi,a,ql,ol,st,t,rfl,hA,ht,tabs,hq⟩⟩⟩⟩⟩⟩⟩⟩⟩⟩⟩⟩⟩⟩⟩⟩⟩⟩⟩
  | prove=>
   have e:p=10:=his
   subst e
   exact ⟨_,rfl,⟨_,_,_,_,_,rfl,hb,T.cal.cl,T.cal.nn,zU,⟨rfl,_,rfl,Ye ⟨_,rfl,⟨_,_,_,_,_,rfl,hb,T.cal.cl,T.cal.nn,zU,⟨rfl,_,rfl,Ye ⟨_,rfl,⟨_,_,_,_,_,rfl,hb,T.cal.cl,T.cal.nn,zU,⟨rfl,_,rfl,Ye ⟨_,rfl,⟨_,_,_,_,_,rfl,hb,T.cal.cl,T.cal.nn,zU,⟨rfl,_,rfl,Ye ⟨_,rfl,⟨_,_,_,_,_,rfl,hb,T.cal.cl,T.cal.nn,zU,⟨rfl,_,rfl,Ye ⟨_,rfl,⟨_,_,_,_,_,rfl,hb,T.cal.cl,T.cal.nn,zU,⟨rfl,_,rfl,Ye ⟨_,rfl,⟨_,_,_,_,_,rfl,hb,T.cal.cl,T.cal.nn,zU,⟨rfl,_,rfl,z2b ⟨_,rfl,a,dx,_,rfl,ha,(by kernel_rfl),gi,a,ql,ol,st,t,rfl,hA,ht,tabs,hq⟩⟩⟩⟩⟩⟩⟩⟩⟩⟩⟩⟩⟩⟩⟩⟩⟩⟩⟩⟩⟩⟩
  | check q l=>
   obtain ⟨rfl,rfl,rfl⟩:=his
   exact ⟨_,rfl,⟨_,_,_,_,_,rfl,hb,T.cal.cl,T.cal.nn,zU,⟨rfl,_,rfl,Ye ⟨_,rfl,⟨_,_,_,_,_,rfl,hb,T.cal.cl,T.cal.nn,zU,⟨rfl,_,rfl,Ye ⟨_,rfl,⟨_,_,_,_,_,rfl,hb,T.cal.cl,T.cal.nn,zU,⟨rfl,_,rfl,Ye ⟨_,rfl,⟨_,_,_,_,_,rfl,hb,T.cal.cl,T.cal.nn,zU,⟨rfl,_,rfl,Ye ⟨_,rfl,⟨_,_,_,_,_,rfl,hb,T.cal.cl,T.cal.nn,zU,⟨rfl,_,rfl,Ye ⟨_,rfl,⟨_,_,_,_,_,rfl,hb,T.cal.cl,T.cal.nn,zU,⟨rfl,_,rfl,Ye ⟨_,rfl,⟨_,_,_,_,_,rfl,hb,T.cal.cl,T.cal.nn,zU,⟨rfl,_,rfl,Ye ⟨_,rfl,⟨_,_,_,_,_,rfl,hb,T.cal.cl,T.cal.nn,zU,⟨rfl,_,rfl,z2b ⟨_,rfl,a,dx,_,rfl,ha,(by kernel_rfl),_,rfl,⟨_,_,_,_,_,rfl,hb,T.cal.cl,T.cal.nn,Jh,⟨_,rfl,⟨_,_,_,_,_,rfl,hb,T.cal.cl,T.cal.nn,UE,⟨gi,a,ql,ol,rl,st,t,_,_,rfl,hA,ht,tabs,hrl,hlen,hq⟩⟩⟩⟩⟩⟩⟩⟩⟩⟩⟩⟩⟩⟩⟩⟩⟩⟩⟩⟩⟩⟩⟩⟩⟩⟩⟩⟩⟩
  | frontier=>
   have e:p=12:=his
   subst e
   exact ⟨_,rfl,⟨_,_,_,_,_,rfl,hb,T.cal.cl,T.cal.nn,zU,⟨rfl,_,rfl,Ye ⟨_,rfl,⟨_,_,_,_,_,rfl,hb,T.cal.cl,T.cal.nn,zU,⟨rfl,_,rfl,Ye ⟨_,rfl,⟨_,_,_,_,_,rfl,hb,T.cal.cl,T.cal.nn,zU,⟨rfl,_,rfl,Ye ⟨_,rfl,⟨_,_,_,_,_,rfl,hb,T.cal.cl,T.cal.nn,zU,⟨rfl,_,rfl,Ye ⟨_,rfl,⟨_,_,_,_,_,rfl,hb,T.cal.cl,T.cal.nn,zU,⟨rfl,_,rfl,Ye ⟨_,rfl,⟨_,_,_,_,_,rfl,hb,T.cal.cl,T.cal.nn,zU,⟨rfl,_,rfl,Ye ⟨_,rfl,⟨_,_,_,_,_,rfl,hb,T.cal.cl,T.cal.nn,zU,⟨rfl,_,rfl,Ye ⟨_,rfl,⟨_,_,_,_,_,rfl,hb,T.cal.cl,T.cal.nn,zU,⟨rfl,_,rfl,Ye ⟨_,rfl,a,dx,_,rfl,ha,(by kernel_rfl),gi,a,ql,ol,st,t,rfl,hA,ht,tabs,hq⟩⟩⟩⟩⟩⟩⟩⟩⟩⟩⟩⟩⟩⟩⟩⟩⟩⟩⟩⟩⟩⟩⟩⟩⟩
  | table l=>cases htb
  | question l=>cases hch
  | index u l=>cases hch
  | room r=>cases hch
theorem z5I:zy ["advisor","call"] ["advisor","call"] (zh z11):=scp
theorem z6a (T:Txt K mg C)(F:Fun K "answer_to" "answer_to" z11 f fd)(tt:zD P w K mg base k C.adv "take_table" ["self","told"] (U7 L C))(ht:zD P w K mg base k C.adv "has_table" ["self"] (Q7 C))
  (ch:ya P w K mg base k "answer_to_change" ["advisor","call"] (Uf L C)) (ot:ya P w K mg base k "answer_to_other" ["advisor","call"] (Q9 L C)):yT P w K mg base (k+1) ["advisor","call"] (Q8 L C) f:=by
 refine F.okN z5I (fun cdv A outer s H vs Q E hr h=>?_)
 ·obtain ⟨gi,a,ql,ol,b,st,p,n,row,c,rfl,hA,hC,his,hlen,tabs,_,hq⟩:=h
  obtain ⟨dc,rl,hb,hrl⟩:=id hC
  obtain ⟨_,_,_,_,hb⟩:=WG hb
  have hb:H b=some (.ins C.cal dc (QE p n rl)):=hb
  obtain ⟨_,_,rq,ro,hrl⟩:=WG hrl
  have hrl:yt H rl row:=hrl
  obtain ⟨dx,tv,ha,_⟩:=id hA.at_
  refine ⟨_,z6 (jb (zZ Zz (zm (pv 1) rfl) (yx rfl (T.n (n:=0))) (yj _)) (z9 (zA (jv tt hr zL (pv 0) (z3 (zm (pv 1) rfl) z7)))) yp)
   (z6 (jb (z16 (ZW (jQ ht hr zL (pv 0)))) (z9 (zA (yy (z3 (yx rfl (T.n (n:=-8))) z7)))) yp)
   (z6 (jb (zZ YM (zm (pv 1) rfl) (z4D (z3 (yx rfl (T.n (n:=1))) (z3 (yx rfl (T.n (n:=2))) (z3 (yx rfl (T.n (n:=3))) z7)))) (by with_unfolding_all rfl)) (z9 (zA (yH ch hr rfl zL (z3 (pv 0) (z3 (pv 1) z7))))) yp)
   (z9 (zA (yH ot hr rfl zL (z3 (pv 0) (z3 (pv 1) z7))))))),?_⟩
  by_cases hT:z1Y c=true
  ·cases c with
   | table l=>
    obtain ⟨rfl,rfl⟩:=his
    exact ⟨_,rfl,⟨_,_,_,_,_,rfl,hb,T.cal.cl,T.cal.nn,zU,⟨rfl,_,rfl,z2b ⟨_,rfl,a,dx,_,rfl,ha,(by kernel_rfl),_,rfl,⟨_,_,_,_,_,rfl,hb,T.cal.cl,T.cal.nn,UE,⟨gi,a,ql,ol,rl,st,_,rfl,hA,tabs,hrl,hlen,hq⟩⟩⟩⟩⟩⟩
   | _=>cases hT
  have hT:z1Y c=false:=by simpa using hT
  have p0:¬(decide (V.int p=V.int 0)=true):=fun y=>by
   have y:p=0:=V.int.inj (of_decide_eq_true y)
   subst y
   cases c with
   | table l=>cases hT
   | question l=>exact absurd his.1 (by decide)
   | index u l=>exact absurd his.1 (by decide)
   | room r=>exact absurd his.1 (by decide)
   | costs q=>exact absurd his.1 (by decide)
   | cost l=>exact absurd his.1 (by decide)
   | least=>exact absurd (show (0:Int)=6 from his) (by decide)
   | kth q=>exact absurd his.1 (by decide)
   | with_ q=>exact absurd his.1 (by decide)
   | dominated=>exact absurd (show (0:Int)=9 from his) (by decide)
   | prove=>exact absurd (show (0:Int)=10 from his) (by decide)
   | check q l=>exact absurd his.1 (by decide)
   | frontier=>exact absurd (show (0:Int)=12 from his) (by decide)
  refine ⟨_,rfl,⟨_,_,_,_,_,rfl,hb,T.cal.cl,T.cal.nn,zU,⟨rfl,_,rfl,GV p0 ⟨_,rfl,a,dx,_,rfl,ha,(by kernel_rfl),gi,a,ql,ol,st,rfl,hA,_,rfl,?_⟩⟩⟩⟩
  cases hso:st.table.isSome with
  | false=>
   have hn:st.table=none:=by simpa using hso
   rw [z9f hn hT] at hq
   exact Uw rfl ⟨(by show 1≤sizeLine;decide),fun q hp=>hq.same hA (Kp.refl.new hp) hp Jd⟩
  | true=>
   refine GV (by decide) ⟨_,rfl,⟨_,_,_,_,_,rfl,hb,T.cal.cl,T.cal.nn,zU,⟨(by show 3≤sizeLine;decide),fun tp ntp=>?_⟩⟩⟩
   have k1:Kp L H (upd H tp (.tup [.int 1,.int 2,.int 3])):=Kp.refl.new ntp
   have h1:(upd H tp (.tup [.int 1,.int 2,.int 3])) tp=some (.tup [.int 1,.int 2,.int 3]):=z5
   generalize upd H tp (.tup [.int 1,.int 2,.int 3])=H1 at k1 h1
   refine ⟨tp,_,rfl,.inr (SqT.of h1),rfl,rfl,_,rfl,?_⟩
   have hc1:=hC.sub (z0g (g:=gi) (a:=a) (ql:=ql) (ol:=ol) k1.obj)
   have yes:z0p c=true→inV (.int p) [.int 1,.int 2,.int 3]=true:=fun h=>by
    cases c with
    | question l=>obtain ⟨rfl,_⟩:=his;rfl
    | index u l=>obtain ⟨rfl,_⟩:=his;rfl
    | room r=>obtain ⟨rfl,_⟩:=his;rfl
    | _=>cases h
   have no:z0p c=false→inV (.int p) [.int 1,.int 2,.int 3]=false:=fun h=>by
    cases c with
    | table l=>cases hT
    | question l=>cases h
    | index u l=>cases h
    | room r=>cases h
    | costs q=>obtain ⟨rfl,_⟩:=his;rfl
    | cost l=>obtain ⟨rfl,_⟩:=his;rfl
    | least=>have e:p=6:=his;subst e;rfl
    | kth q=>obtain ⟨rfl,_⟩:=his;rfl
    | with_ q=>obtain ⟨rfl,_⟩:=his;rfl
    | dominated=>have e:p=9:=his;subst e;rfl
    | prove=>have e:p=10:=his;subst e;rfl
    | check q l=>obtain ⟨rfl,_⟩:=his;rfl
    | frontier=>have e:p=12:=his;subst e;rfl
   cases hch:z0p c with
   | true=>
    rw [yes hch]
    exact Uw rfl ⟨_,rfl,_,rfl,gi,a,ql,ol,b,st,p,n,row,c,rfl,hA.kp k1,hc1,his,hlen,tabs.kp k1,⟨hso,hch⟩,hq.kp k1⟩
   | false=>
    rw [no hch]
    exact GV (by decide) ⟨_,rfl,_,rfl,gi,a,ql,ol,b,st,p,n,row,c,rfl,hA.kp k1,hc1,his,hlen,tabs.kp k1,⟨hso,hch,hT⟩,hq.kp k1⟩
end
inductive Shp:List (List Int)→Prop
 | a0 (l):Shp [[0],l]
 | a1 (l):Shp [[1],l]
 | a2 (u l):Shp [[2,u],l]
 | a3 (u):Shp [[3,u]]
 | a4 (u):Shp [[4,u]]
 | a5 (l):Shp [[5],l]
 | a6:Shp [[6]]
 | a7 (u):Shp [[7,u]]
 | a8 (u):Shp [[8,u]]
 | a9:Shp [[9]]
 | b0:Shp [[10]]
 | b1 (u l):Shp [[11,u],l]
 | b2:Shp [[12]]
 | no (c) (_:UK c=c) (_:Gb c=false):Shp c
theorem shp (c:List (List Int)):Shp c:=by
 rcases c with _ | ⟨a,t⟩
 ·exact .no _ rfl rfl
 rcases a with _ | ⟨p,u⟩
 ·exact .no _ rfl rfl
 rcases p with n | n
 rcases n with _|_|_|_|_|_|_|_|_|_|_|_|_|n
 all_goals rcases u with _ | ⟨x,_ | ⟨y,v⟩⟩ <;> rcases t with _ | ⟨r,_ | ⟨s,w⟩⟩ <;> first | exact .no _ rfl rfl | exact .a0 _ | exact .a1 _ | exact .a2 _ _ | exact .a3 _ | exact .a4 _ | exact .a5 _ | exact .a6 | exact .a7 _ | exact .a8 _ | exact .a9 | exact .b0 | exact .b1 _ _ | exact .b2
theorem za8 (c:List (List Int)):UK c=c:=by
 cases shp c <;> first | rfl | assumption
theorem JB {a:List Int}{n:Nat}(h:J5 a n=true)(k:n≤1000):a.length≤1000:=by
 unfold J5 at h
 rw [ye] at h
 have:=of_decide_eq_true h.2
 omega
theorem z8g {c:List (List Int)}(h:Gb c=true):∃k,VaidxdNeutral.callOf c=some k∧zbe (Zd c).1 (Zd c).2.1 (Zd c).2.2 k∧(Zd c).2.2.length≤1000:=by
 have s:∀{a:Bool} {l n},(a&&J5 l n)=true→J5 l n=true:=fun h=>(QK.mp h).2
 cases shp c
 ·exact ⟨_,rfl,⟨rfl,rfl⟩,JB (n:=80) h (by decide)⟩
 ·exact ⟨_,rfl,⟨rfl,rfl⟩,JB (n:=40) h (by decide)⟩
 ·exact ⟨_,rfl,⟨rfl,rfl,rfl⟩,JB (n:=20) (s h) (by decide)⟩
 ·exact ⟨_,rfl,⟨rfl,rfl⟩,zk _⟩
 ·exact ⟨_,rfl,⟨rfl,rfl⟩,zk _⟩
 ·exact ⟨_,rfl,⟨rfl,rfl⟩,JB (n:=10) h (by decide)⟩
 ·exact ⟨_,rfl,rfl,zk _⟩
 ·exact ⟨_,rfl,⟨rfl,rfl⟩,zk _⟩
 ·exact ⟨_,rfl,⟨rfl,rfl⟩,zk _⟩
 ·exact ⟨_,rfl,rfl,zk _⟩
 ·exact ⟨_,rfl,rfl,zk _⟩
 ·exact ⟨_,rfl,⟨rfl,rfl,rfl⟩,JB (n:=600) (s h) (by decide)⟩
 ·exact ⟨_,rfl,rfl,zk _⟩
 ·rw [h] at *;contradiction
theorem z6A {l:List Int}(h:GO l=true):∃raw,YV Zf l.length l=some raw∧(∀c∈raw,Gb c=true)∧(Y1 l).length≤10000000∧Y1 l=qG (G9 jz VaidxdNeutral.start raw):=by
 unfold GO at h
 cases q:YV Zf l.length l with
 | none=>rw [q] at h;cases h
 | some raw=>
  rw [q] at h
  simp only [ye] at h
  obtain ⟨⟨⟨⟨_,_⟩,_⟩,h1⟩,h2⟩:=h
  have e:raw.map UK=raw:=by
   conv=>rhs;rw [←List.map_id raw]
   exact W3 fun c _=>za8 c
  rw [e] at h1
  refine ⟨raw,rfl,fun c hc=>?_,of_decide_eq_true h2,?_⟩
  ·unfold VaidxdNeutral.asked at h1
   rw [ye] at h1
   exact j4.mp h1.1 c hc
  ·unfold Y1 PyVaidxd.calls
   rw [q]
   show qG (G9 _ _ (raw.map UK))=_
   rw [e]
section
variable {L:List LT}{C:Adr}{H H':Hp}{gi a ql ol ql' ol':Addr}{s:State}{ys:List V}
theorem Zj.putg (h:Zj C gi H a ql ol s):Zj C gi (upd H gi (.lst ys)) a ql ol s:=by
 obtain ⟨⟨xs,g1⟩,g2,g3⟩:=h.gv
 obtain ⟨dx,tv,h1,h2⟩:=h.at_
 have ag:a≠gi:=Zg h1 g1 (by intro z;cases z)
 have e:hid gi a ql ol (upd H gi (.lst ys))=hid gi a ql ol H:=GD (.inl rfl)
 obtain ⟨as,q1,q2⟩:=h.qs
 obtain ⟨os,o1,o2,o3⟩:=h.os
 refine ⟨⟨dx,tv,by rw [zl ag];exact h1,?_⟩,⟨as,by rw [zl g2];exact q1,by rw [e];exact q2⟩,⟨os,by rw [zl g3];exact o1,o2,by rw [e];exact o3⟩,h.ne,⟨ys,z5⟩,g2,g3⟩
 rw [e]
 exact h2
theorem hid_kpA (k:KpA L a ql ol H H')(hq:ql'=ql∨H ql'=none)(ho:ol'=ol∨H ol'=none):Sub (hid gi a ql ol H) (hid gi a ql' ol' H'):=fun b o e n=>by
 obtain ⟨n0,n1,n2,n3,h⟩:=WG e
 refine z57 n0 n1 (fun z=>?_) (fun z=>?_) (k.obj b o h n1 n2 n3 n)
 ·rcases hq with q | q
  ·exact n2 (z.trans q)
  ·rw [←z,h] at q;cases q
 ·rcases ho with q | q
  ·exact n3 (z.trans q)
  ·rw [←z,h] at q;cases q
theorem z5v {xs:List V}(t:JC L H)(h:H gi=some (.lst xs)):JC L (upd H gi (.lst ys)):=
 (KpA.put (L:=L) (a:=gi) (ql:=gi) (ol:=gi) (o:=.lst ys) (.inl rfl) h (by intro _ z;cases z) (by intro _ z;cases z)).tab t
end
section
variable (L:List LT)(K:z4)
inductive z0R (vs:List V)(H:Hp)(Q:VK)(_E:XK):Prop | mk (cl:Addr) (l:List Int) (_:vs=[.ref cl]) (_:SqL K H cl (l.map V.int)) (_:l.length≤17000) (_:GO l=true) (_:JC L H) (_:∀H' p,yt H' p (Y1 l)→Q (.ref p) H')
end
section
variable {P:Program}{w:World}{K:z4}{mg:Str→Option Value}{base:Heap}{L:List LT}{C:Adr}{k:Nat}{f:Addr}{fd:FuncData}
theorem okNd {x qual:Str}{st:Stmt}{N ps:List Str}{sp:Sp}(F:Fun K x qual st f fd)(S:zy N ps (zh st))(len:∀vs H Q E,sp vs H Q E→vs.length=ps.length)
  (hbody:∀(cdv:Value) (A:Around) (outer:List Env) (s:Shared) (H:Hp) (vs:List V) (Q:VK) (E:XK),Yu k (A.deeper (envOfC qual (zh st) s.heap.objs.size f cdv))→sp vs H Q E→
   ∃t,PSs (GW (CX1 P w) P w K mg base N qual (zh st) f cdv A outer s H E).nox (ZS st) t∧t { nx:=fun _ H'=>Q .non H',rt:=Q } (start N vs) H):GX P w K mg base (CX1 P w) (k+1) f fd ps sp:=by
 obtain ⟨oc,od,kV,doc,pm,an,cdv,ct,osl,rfl,lk,hcd⟩:=F.ex
 refine z8P lk hcd S len fun A outer s H vs Q E hr hsp=>?_
 obtain ⟨t,h,q⟩:=hbody cdv A outer s H vs Q E hr hsp
 exact ⟨t,h.nox,q⟩
theorem VQ:zy ["calls","advisor","given","call","answer"] ["calls"] (zh z2D):=scp
theorem z7Y (T:Txt K mg C)(F:Fun K "answers" "answers" z2D f fd)(ma:ju P w K mg base k "Advisor" C.adv ["self"] (z0S L C))(rc:ya P w K mg base k "read_calls" ["calls"] (Ua L K C))
  (an:ya P w K mg base k "answer_to" ["advisor","call"] (Q8 L C)):GX P w K mg base (CX1 P w) (k+1) f fd ["calls"] (z0R L K):=by
 refine okNd F VQ (fun vs H Q E h=>?_) (fun cdv A outer s H vs Q E hr h=>?_)
 ·obtain ⟨cl,l,rfl,_⟩:=h;rfl
 ·obtain ⟨cl,l,rfl,hS,hlen,hask,tabs,hq⟩:=h
  obtain ⟨raw,hraw,hall,hshort,hans⟩:=z6A hask
  refine ⟨_,z6 (zK (i:=1) VQ.nd rfl loc (pe_mk0 ma hr rfl zL))
   (z6 (zK (i:=2) VQ.nd rfl loc (yy z7))
   (z6 (Vo ji rfl (j7 (yH rc hr rfl zL (z3 (pv 0) z7))) (yB (i:=3) VQ.nd rfl loc)
    (z6 (zK (i:=4) VQ.nd rfl loc (yH an hr rfl zL (z3 (pv 1) (z3 (pv 3) z7))))
    (z6 (Z4 (Ju zF yL yK ZX (pv 2) (z3 (yq y6 rfl T.bl jt (z3 (pv 4) z7)) z7)))
    (z9 (Z4 (Ju zF jE jD JY (pv 2) (z3 (pv 4) z7)))))))
   (z9 (zA (pv 2))))),?_⟩
  refine fun a dx na nd ne=>⟨a,dx,rfl,z5,fun H1 ql ol k1 nql nol hql hol qo=>⟨rfl,?_⟩⟩
  have k01:Kp L H H1:=(Zn (C:=C.adv) (o:=.ins C.adv dx (Yt .non ql ol 0)) na nd ne).trans k1
  have ha1:H1 a=some (.ins C.adv dx (Yt .non ql ol 0)):=k1.ins z5
  refine ⟨zk _,fun g ng=>?_⟩
  have k2:Kp L H1 (upd H1 g (.lst [])):=Kp.refl.new ng
  have hg2:(upd H1 g (.lst [])) g=some (.lst []):=z5
  have hA2:Zj C g (upd H1 g (.lst [])) a ql ol Vaidxd.start:=⟨⟨dx,.non,k2.ins ha1,rfl,rfl,rfl⟩,⟨[],k2.lst hql,.nil⟩,⟨[],k2.lst hol,rfl,fun t e=>by cases e⟩,qo,⟨[],hg2⟩,zT hql ng,zT hol ng⟩
  generalize upd H1 g (.lst [])=H2 at k2 hg2 hA2
  have k02:=k01.trans k2
  refine ⟨_,rfl,cl,l,raw,rfl,k02.seq hS,hlen,hraw,fun H3 rd as k3 nrd hrd hAs=>?_⟩
  have hA3:=hA2.kp k3
  obtain ⟨dx',tv',ha2,_⟩:=id hA2.at_
  obtain ⟨as0,hq0,_⟩:=id hA2.qs
  obtain ⟨os0,ho0,_⟩:=id hA2.os
  have sb:Sub (VU H2 H3) (hid g a ql ol H3):=qd (by rw [hg2];simp) (by rw [ha2];simp) (by rw [hq0];simp) (by rw [ho0];simp)
  have hrd3:hid g a ql ol H3 rd=some (.lst (as.map V.ref)):=sb rd _ (jR nrd hrd) (by intro _ z;cases z)
  have hAs3:Ats (z3d C (hid g a ql ol H3)) as (raw.map Zd):=hAs.imp fun _ _ r=>r.sub sb
  have big:(10000100:Nat)≤sizeLine:=by rw [sizeLine_eq];decide
  refine ⟨rd,rfl,⟨_,SqL.of hrd⟩,Vd (K:=K) (a:=rd) (xs:=as.map V.ref) (fun i σ H'=>∃(ql ol:Addr) (s:State) (v3 v4:Option V) (xs:List Int),σ=[some (.ref cl),some (.ref a),some (.ref g),v3,v4]∧Zj C g H' a ql ol s∧yt H' g xs∧
   hid g a ql ol H' rd=some (.lst (as.map V.ref))∧Ats (z3d C (hid g a ql ol H')) as (raw.map Zd)∧JC L H'∧xs++qG (G9 jz s (raw.drop i))=Y1 l)
   ⟨ql,ol,Vaidxd.start,none,none,[],rfl,hA3,k3.lst hg2,hrd3,hAs3,(tabs.kp k02).kp k3,by rw [hans,WK];rfl⟩ (fun i σ H' _ ⟨_,_,_,_,_,_,_,_,_,h,_⟩=>SqL.of (WG h).2.2.2.2) ?_ ?_⟩
  ·rintro i x σ H' hx ⟨ql,ol,st,v3,v4,xs,rfl,hA,hg,hrd,hCs,tb,hrest⟩
   obtain ⟨b,d,rfl,hb,hd,rb⟩:=hCs.get hx
   rw [zB] at hd
   cases hc:raw[i]? with
   | none=>rw [hc] at hd;cases hd
   | some c=>
    rw [hc] at hd
    have ed:d=Zd c:=(zG hd).symm
    subst ed
    have lti:=(zo.mp hc).1
    obtain ⟨kc,hk,his,hrl⟩:=z8g (hall c (zt hc))
    have edr:raw.drop i=c::raw.drop (i+1):=by
     rw [jj lti]
     rw [z8 lti] at hc
     rw [zG hc]
    have estep:jz st c=yu st kc:=by unfold jz;rw [hk]
    rw [edr] at hrest
    have hrest:xs++(((yu st kc).2.length:Int)::(yu st kc).2++qG (G9 jz (yu st kc).1 (raw.drop (i+1))))=Y1 l:=by
     rw [←hrest]
     show _=xs++(((jz st c).2.length:Int)::(jz st c).2++qG (G9 jz (jz st c).1 (raw.drop (i+1))))
     rw [estep]
    have htl:=congrArg JK hrest
    rw [za,za,zu] at htl
    refine ⟨_,rfl,_,rfl,g,a,ql,ol,b,st,(Zd c).1,(Zd c).2.1,(Zd c).2.2,kc,rfl,hA,rb,his,hrl,tb,trivial,fun H4 ql' ol' p kA hA4 hq' ho' hp np=>?_⟩
    obtain ⟨⟨gx,g1⟩,g2,g3⟩:=hA.gv
    obtain ⟨da,ta,haa,_⟩:=id hA.at_
    have ga:g≠a:=Zg g1 haa (by intro z;cases z)
    have hg4:yt H4 g xs:=kA.obj g _ hg ga (j1 g2) (j1 g3) (by intro _ z;cases z)
    have sb4:Sub (hid g a ql ol H') (hid g a ql' ol' H4):=hid_kpA kA hq' ho'
    have tb4:=kA.tab tb
    have hpg:p≠g:=j1 (zT hg np)
    refine ⟨_,rfl,.inl ⟨rfl,_,SqL.of hg4⟩,_,rfl,p,_,rfl,.inl (SqL.of hp),g,_,_,rfl,rfl,hg4,?_,?_⟩
    ·rw [z0];omega
    have e5:hid g a ql' ol' (upd H4 g (.lst (xs.map V.int++[.int (((yu st kc).2.map V.int).length:Int)])))=hid g a ql' ol' H4:=GD (.inl rfl)
    have hp5:(upd H4 g (.lst (xs.map V.int++[.int (((yu st kc).2.map V.int).length:Int)]))) p=some (.lst ((yu st kc).2.map V.int)):=by rw [zl hpg];exact hp
    have hA5:=hA4.putg (ys:=xs.map V.int++[.int (((yu st kc).2.map V.int).length:Int)])
    have tb5:=z5v (ys:=xs.map V.int++[.int (((yu st kc).2.map V.int).length:Int)]) tb4 hg4
    refine ⟨_,rfl,.inl ⟨rfl,_,SqL.of z5⟩,_,rfl,g,p,_,_,rfl,rfl,z5,hp5,?_,?_⟩
    ·rw [za,z0,z0]
     show xs.length+1+_≤sizeLine
     omega
    ·refine ⟨ql',ol',(yu st kc).1,_,_,xs++(((yu st kc).2.length:Int)::(yu st kc).2),rfl,hA5.putg,?_,?_,?_,z5v tb5 z5,?_⟩
     ·unfold yt
      rw [z5,z0]
      simp
     ·rw [GD (.inl rfl),e5]
      exact sb4 rd _ hrd (by intro _ z;cases z)
     ·rw [GD (.inl rfl),e5]
      exact hCs.imp fun _ _ r=>r.sub sb4
     ·rw [jq];exact hrest
  ·rintro σ H' ⟨ql,ol,st,v3,v4,xs,rfl,hA,hg,hrd,hCs,tb,hrest⟩
   have hl:=hCs.len
   rw [z0] at hl
   rw [z0,hl,Vu] at hrest
   have hrest:xs++[]=Y1 l:=hrest
   rw [jn] at hrest
   refine ⟨_,rfl,hq H' g ?_⟩
   rw [←hrest]
   exact hg
end
end LI
namespace LI
open PySem PySem.Spec PyProof.Rows L2
open PySem.W (nsIn findIn isFn keepIn makesIn plainGet hasDictIn plainOver excIn Frag)
structure ZZ (K:Frag)(x:Str)(st:Stmt):Prop where
 ex:∃f fd,nsIn K mainGlobals x=some (some (.ref f))∧Fun K x x st f fd
structure TopC (K:Frag)(x:Str)(st:Stmt)(c0:Addr):Prop where
 ex:∃f fd,nsIn K mainGlobals x=some (some (.ref f))∧FunC K x x st f fd c0
structure Y3 (K:Frag)(C:Addr)(m qual:Str)(st:Stmt):Prop where
 ex:∃f fd,findIn K (.ref C) m=some (some (.ref f))∧isFn K (.ref f)=true∧Fun K m qual st f fd
structure z1J (K:Frag)(C:Addr)(x qual:Str)(st:Stmt):Prop where
 ex:∃f fd,nsIn K mainGlobals x=some (some (.ref C))∧makesIn K C=true∧findIn K (.ref C) "__init__"=some (some (.ref f))∧isFn K (.ref f)=true∧keepIn K (.ref C)=true∧Fun K "__init__" qual st f fd
section
variable {K:Frag}{x m qual:Str}{st:Stmt}{f C c0:Addr}{oc kV doc pm cdv ct:Value}{od an:Option Addr}{osl:Array (Option Value)}
theorem yP (a:nsIn K mainGlobals x=some (some (.ref f)))(l:K.lookup f=some ⟨oc,od,.func (jU x x (JA st) (ZS st) (zh st) .none kV doc pm an cdv ct),osl⟩)(c:Y2 K cdv x=true)(k:keepIn K (.ref f)=true):ZZ K x st:=⟨f,_,a,z89 l c k⟩
theorem topC_of (a:nsIn K mainGlobals x=some (some (.ref f)))(l:K.lookup f=some ⟨oc,od,.func (jU x x (JA st) (ZS st) (zh st) .none kV doc pm an (.ref c0) ct),osl⟩)(c:Y2 K (.ref c0) x=true)(k:keepIn K (.ref f)=true):TopC K x st c0:=
 ⟨f,_,a,⟨⟨oc,od,kV,doc,pm,an,ct,osl,rfl,l,c⟩,k⟩⟩
theorem yS (a:findIn K (.ref C) m=some (some (.ref f)))(i:isFn K (.ref f)=true)(l:K.lookup f=some ⟨oc,od,.func (jU m qual (JA st) (ZS st) (zh st) .none kV doc pm an cdv ct),osl⟩)(c:Y2 K cdv qual=true)(k:keepIn K (.ref f)=true):Y3 K C m qual st:=⟨f,_,a,i,z89 l c k⟩
theorem Jw (n:nsIn K mainGlobals x=some (some (.ref C)))(m:makesIn K C=true)(a:findIn K (.ref C) "__init__"=some (some (.ref f)))(i:isFn K (.ref f)=true)(kc:keepIn K (.ref C)=true)(l:K.lookup f=some ⟨oc,od,.func (jU "__init__" qual (JA st) (ZS st) (zh st) .none kV doc pm an cdv ct),osl⟩)(c:Y2 K cdv qual=true)(k:keepIn K (.ref f)=true):z1J K C x qual st:=
 ⟨f,_,n,m,a,i,kc,z89 l c k⟩
end
def setB (K:Frag)(C:Addr):Bool:=match findIn K (.ref C) "__setattr__" with
 | some (some (.builtin n))=>n=="object.__setattr__"
 | _=>false
def noB (K:Frag)(C:Addr)(f:Str):Bool:=match findIn K (.ref C) f with
 | some none=>true
 | _=>false
def z1j (K:Frag)(C:Addr)(fs:List Str):Bool:=plainGet K C Str.empty&&hasDictIn K C&&plainOver K C&&setB K C&&fs.all (noB K C)
theorem VY {K:Frag}{C:Addr}{fs:List Str}(h:z1j K C fs=true):z0u K C fs:=by
 unfold z1j at h
 simp only [ye] at h
 obtain ⟨⟨⟨⟨h1,h2⟩,h3⟩,h4⟩,h5⟩:=h
 refine ⟨⟨h1,h2,h3,?_⟩,fun f hf=>?_⟩
 ·unfold setB at h4
  split at h4
  ·rename_i n e
   rw [e,eq_of_beq h4]
  ·cases h4
 ·have h6:=j4.mp h5 f hf
  unfold noB at h6
  split at h6
  ·rename_i e;exact e
  ·cases h6
def numB (K:Frag)(p:Str×Int):Bool:=match nsIn K mainGlobals p.1 with
 | some (some (.int n _))=>n==p.2
 | _=>false
def bltB (K:Frag)(x:Str):Bool:=match nsIn K mainGlobals x with
 | some none=>true
 | _=>false
theorem num_of {K:Frag}{h:Heap}{mg:Str→Option Value}(X:K.In h)(G:h.Ns mainGlobals mg){p:Str×Int}(e:numB K p=true):Num mg p.1 p.2:=by
 unfold numB at e
 split at e
 ·rename_i n t q
  exact ⟨t,by rw [zp X G q,eq_of_beq e]⟩
 ·cases e
theorem blt_of {K:Frag}{h:Heap}{mg:Str→Option Value}(X:K.In h)(G:h.Ns mainGlobals mg){x:Str}(e:bltB K x=true):mg x=none:=by
 unfold bltB at e
 split at e
 ·rename_i q;exact PySem.W.mg_none_of X G q
 ·cases e
theorem zae {K:Frag}{h:Heap}{mg:Str→Option Value}{x:Str}{l:List Int}{a:Addr}{od:Option Addr}{its:Array Value}{n:Nat}{sl:Array (Option Value)}(X:K.In h)(G:h.Ns mainGlobals mg)(e:nsIn K mainGlobals x=some (some (.ref a)))
  (q:K.lookup a=some ⟨.type "tuple",od,.seq its n,sl⟩) (z:its.size≤sizeLine) (v:yO (l.map V.int) its.toList):TupN K mg x l:=
 ⟨a,zp X G e,fun H=>.inr ⟨_,its,n,q,rfl,rfl,z,v⟩⟩
def blts:List Str:=["all","any","sum","len","min","list","reversed","sorted","range","enumerate","zip"]
abbrev lts (P0:Addr):List LT:=[⟨P0,z55,z0f⟩]
theorem chain {P:Program}{w:World}{K:Frag}{h:Heap}{mg:Str→Option Value}{fa c0 P0:Addr}{fil grp tbl qst idx off rdr err adv cal plc prv:Addr}(X:K.In h)(G:h.Ns mainGlobals mg)
  (b_fil:z1j K fil ["column","low","high"]=true)
  (b_grp:z1j K grp ["cells","rows"]=true)
  (b_tbl:z1j K tbl ["width","groups"]=true)
  (b_qst:z1j K qst ["filters","order","backwards","wanted","limit","asked"]=true)
  (b_idx:z1j K idx ["key_columns","included","condition"]=true)
  (b_off:z1j K off ["index","upkeep","room"]=true)
  (b_rdr:z1j K rdr ["told","place"]=true)
  (b_adv:z1j K adv ["table","questions","offers","room"]=true)
  (b_cal:z1j K cal ["kind","number","row"]=true)
  (b_plc:z1j K plc ["looked_at","chosen"]=true)
  (b_prv:z1j K prv ["costs","offers","room"]=true)
  (aE:nsIn K mainGlobals "NotWhole"=some (some (.ref err))) (bE:excIn K err excBm "Exception.__new__"=true) (bN:nums.all (numB K)=true) (bB:blts.all (bltB K)=true)
  (tn:TupN K mg "HAVE_NUMBER" Wl) (tr:TupN K mg "HAVE_ROW" GF) (hC:∀h,K.In h→qC h c0 P0)
  (h1:z1J K fil "Filter" "Filter.__init__" (J4 0))
  (h2:Y3 K fil "passes" "Filter.passes" (J4 1))
  (h3:Y3 K fil "is_equal" "Filter.is_equal" (J4 2))
  (h4:Y3 K fil "is_within" "Filter.is_within" (J4 3))
  (h5:ZZ K "passes_all" Qp)
  (h6:ZZ K "without" z2u)
  (h7:z1J K grp "Group" "Group.__init__" (z7n 0))
  (h8:z1J K tbl "Table" "Table.__init__" (z7j 0))
  (h9:z1J K idx "Index" "Index.__init__" (Zl 0))
  (h10:z1J K qst "Question" "Question.__init__" (jy 0))
  (h11:ZZ K "count_rows" Qt)
  (h12:Y3 K qst "finds" "Question.finds" (jy 1))
  (h13:Y3 K qst "equal_columns" "Question.equal_columns" (jy 2))
  (h14:Y3 K qst "needed_columns" "Question.needed_columns" (jy 3))
  (h15:Y3 K qst "filters_of" "Question.filters_of" (jy 4))
  (h16:Y3 K qst "unsettled_order" "Question.unsettled_order" (jy 5))
  (h17:Y3 K idx "own_columns" "Index.own_columns" (Zl 1))
  (h18:Y3 K idx "has_entry" "Index.has_entry" (Zl 2))
  (h19:Y3 K idx "room_for" "Index.room_for" (Zl 3))
  (h20:Y3 K idx "serves" "Index.serves" (Zl 4))
  (h21:Y3 K idx "covers" "Index.covers" (Zl 5))
  (h22:Y3 K idx "frees_order_of" "Index.frees_order_of" (Zl 6))
  (h23:Y3 K idx "range_filters" "Index.range_filters" (Zl 7))
  (h24:ZZ K "touched_groups" z2v)
  (h25:ZZ K "sorting_cost" z2w)
  (h26:ZZ K "look_up_cost" z4s)
  (h27:TopC K "entries_in_range" z05 c0)
  (h28:ZZ K "cost_by_table" z2A)
  (h29:ZZ K "cost_by_index" z2B)
  (h30:z1J K off "Offer" "Offer.__init__" (z7k 0))
  (h31:ZZ K "offer_cost" Qq)
  (h32:ZZ K "question_costs" z4q)
  (h33:ZZ K "cheapest_way" z10)
  (h34:ZZ K "asking_cost" z2C)
  (h35:ZZ K "set_upkeep" Qk)
  (h36:ZZ K "set_cost" z2y)
  (h37:ZZ K "set_room" z2x)
  (h38:ZZ K "is_set" z7l)
  (h39:ZZ K "grown_sets" z7m)
  (h40:ZZ K "sets_in_order" z2z)
  (h41:ZZ K "sets_within" z4p)
  (h42:ZZ K "least_sets" Qr)
  (h43:ZZ K "least_steps" Ui)
  (h44:ZZ K "costs_no_more" z4r)
  (h45:ZZ K "is_as_good" z4u)
  (h46:ZZ K "dominates" Qs)
  (h47:ZZ K "dominating" Uj)
  (h48:ZZ K "is_idle" z4t)
  (h49:z1J K rdr "Reader" "Reader.__init__" (VD 0))
  (h50:Y3 K rdr "take" "Reader.take" (VD 1))
  (h51:Y3 K rdr "finish" "Reader.finish" (VD 2))
  (h52:ZZ K "take_filter" Uh)
  (h53:ZZ K "take_columns" Gv)
  (h54:ZZ K "take_filters" Gu)
  (h55:ZZ K "take_condition" VR)
  (h56:ZZ K "take_group" Qj)
  (h57:ZZ K "read_index" Qn)
  (h58:ZZ K "read_question" WC)
  (h59:ZZ K "read_table" Ql)
  (h60:ZZ K "read_proof" Qm)
  (h61:z1J K plc "Place" "Place.__init__" (z0Z 0))
  (h62:z1J K prv "Prover" "Prover.__init__" (Zv 0))
  (h63:Y3 K plc "parts" "Place.parts" (z0Z 1))
  (h64:Y3 K prv "lowest_cost" "Prover.lowest_cost" (Zv 1))
  (h65:Y3 K prv "holds" "Prover.holds" (Zv 2))
  (h66:Y3 K prv "made_step" "Prover.made_step" (Zv 3))
  (h67:Y3 K prv "made_proof" "Prover.made_proof" (Zv 4))
  (h68:Y3 K prv "accepts" "Prover.accepts" (Zv 5))
  (h69:Y3 K adv "take_question" "Advisor.take_question" (yf 3))
  (h70:Y3 K adv "take_room" "Advisor.take_room" (yf 5))
  (h71:Y3 K adv "take_index" "Advisor.take_index" (yf 4))
  (h72:Y3 K adv "has_table" "Advisor.has_table" (yf 1))
  (h73:z1J K adv "Advisor" "Advisor.__init__" (yf 0))
  (h74:Y3 K adv "take_table" "Advisor.take_table" (yf 2))
  (h75:Y3 K adv "all_costs" "Advisor.all_costs" (yf 15))
  (h76:Y3 K adv "tell_costs" "Advisor.tell_costs" (yf 6))
  (h77:Y3 K adv "tell_cost" "Advisor.tell_cost" (yf 7))
  (h78:Y3 K adv "tell_least" "Advisor.tell_least" (yf 8))
  (h79:Y3 K adv "tell_kth" "Advisor.tell_kth" (yf 9))
  (h80:Y3 K adv "tell_with" "Advisor.tell_with" (yf 10))
  (h81:Y3 K adv "standing" "Advisor.standing" (yf 16))
  (h82:Y3 K adv "tell_dominated" "Advisor.tell_dominated" (yf 11))
  (h83:Y3 K adv "tell_proof" "Advisor.tell_proof" (yf 12))
  (h84:Y3 K adv "tell_check" "Advisor.tell_check" (yf 13))
  (h85:Y3 K adv "tell_frontier" "Advisor.tell_frontier" (yf 14))
  (h86:z1J K cal "Call" "Call.__init__" (sCall 0))
  (h87:ZZ K "read_calls" Qo)
  (h88:ZZ K "answer_to_change" Qu)
  (h89:ZZ K "answer_to_other" z12)
  (h90:ZZ K "answer_to" z11)
  (hfa:mg "answers"=some (.ref fa)) (h_answers:ZZ K "answers" z2D) :
  ∃fd:FuncData,(∀(s:Shared) (us:List Value),us.length=(["calls"]:List Str).length→BindsTo s fd ⟨us,[]⟩ ((["calls"]:List Str).zip us))∧
   ∀base:Heap,K.In base→base.Ns mainGlobals mg→base.BuiltinsAt mg P0→GX P w K mg base (CX1 P w) 60 fa fd ["calls"] (z0R (lts P0) K):=by
 have T:Txt K mg ⟨fil,grp,tbl,qst,idx,off,rdr,err,adv,cal,plc,prv⟩:=⟨VY b_fil,VY b_grp,VY b_tbl,VY b_qst,VY b_idx,VY b_off,VY b_rdr,⟨zp X G aE,bE⟩,VY b_adv,VY b_cal,VY b_plc,VY b_prv,fun p hp=>num_of X G (j4.mp bN p hp),fun x hx=>blt_of X G (j4.mp bB x hx)⟩
 obtain ⟨f,fd,a,F⟩:=h_answers.ex
 have e:=hfa.symm.trans (zp X G a)
 cases e
 refine ⟨fd,?_,fun base KB NB hB=>?_⟩
 ·obtain ⟨oc,od,kV,doc,pm,an,cdv,ct,osl,rfl,_⟩:=F.ex
  exact fun s us hu=>match us,hu with | [_],_=>.of_eq rfl
 have lok:LamOk (lts P0) P0:=⟨zi.mpr rfl,fun t ht=>.inl (zi.mp ht)⟩
 have d1:ju P w K mg base 2 "Filter" fil ["self","column","low","high"] (z0N ⟨fil,grp,tbl,qst,idx,off,rdr,err,adv,cal,plc,prv⟩):=by
  obtain ⟨f,fd,a0,m,a,i,kc,F⟩:=h1.ex
  exact ⟨f,1,zp X G a0,⟨m,a,i,kc⟩,by decide,z7S T F⟩
 have d2:zD P w K mg base 1 fil "passes" ["self","cells"] (QW ⟨fil,grp,tbl,qst,idx,off,rdr,err,adv,cal,plc,prv⟩):=by
  obtain ⟨f,fd,a,i,F⟩:=h2.ex
  exact ⟨f,T.fil.cl,⟨a,i,F.kp⟩,z9t T F⟩
 have d3:zD P w K mg base 1 fil "is_equal" ["self"] (z0L ⟨fil,grp,tbl,qst,idx,off,rdr,err,adv,cal,plc,prv⟩):=by
  obtain ⟨f,fd,a,i,F⟩:=h3.ex
  exact ⟨f,T.fil.cl,⟨a,i,F.kp⟩,z7O T F⟩
 have d4:zD P w K mg base 1 fil "is_within" ["self","other"] (Gg ⟨fil,grp,tbl,qst,idx,off,rdr,err,adv,cal,plc,prv⟩):=by
  obtain ⟨f,fd,a,i,F⟩:=h4.ex
  exact ⟨f,T.fil.cl,⟨a,i,F.kp⟩,z66 T F⟩
 have d5:ya P w K mg base 2 "passes_all" ["filters","cells"] (YC (lts P0) ⟨fil,grp,tbl,qst,idx,off,rdr,err,adv,cal,plc,prv⟩):=by
  obtain ⟨f,fd,a,F⟩:=h5.ex
  exact ⟨f,zp X G a,F.kp,z4U (k:=1) T F (d2.mono (by decide))⟩
 have d6:ya P w K mg base 1 "without" ["columns","left_out"] (WU (lts P0)):=by
  obtain ⟨f,fd,a,F⟩:=h6.ex
  exact ⟨f,zp X G a,F.kp,z7A F⟩
 have d7:ju P w K mg base 2 "Group" grp ["self","cells","rows"] (US ⟨fil,grp,tbl,qst,idx,off,rdr,err,adv,cal,plc,prv⟩):=by
  obtain ⟨f,fd,a0,m,a,i,kc,F⟩:=h7.ex
  exact ⟨f,1,zp X G a0,⟨m,a,i,kc⟩,by decide,z7R T F⟩
 have d8:ju P w K mg base 2 "Table" tbl ["self","width","groups"] (z0H ⟨fil,grp,tbl,qst,idx,off,rdr,err,adv,cal,plc,prv⟩):=by
  obtain ⟨f,fd,a0,m,a,i,kc,F⟩:=h8.ex
  exact ⟨f,1,zp X G a0,⟨m,a,i,kc⟩,by decide,z7D T F⟩
 have d9:ju P w K mg base 2 "Index" idx ["self","key_columns","included","condition"] (z0M ⟨fil,grp,tbl,qst,idx,off,rdr,err,adv,cal,plc,prv⟩):=by
  obtain ⟨f,fd,a0,m,a,i,kc,F⟩:=h9.ex
  exact ⟨f,1,zp X G a0,⟨m,a,i,kc⟩,by decide,z7Q T F⟩
 have d10:ju P w K mg base 2 "Question" qst ["self","filters","order","backwards","wanted","limit","asked"] (z0J ⟨fil,grp,tbl,qst,idx,off,rdr,err,adv,cal,plc,prv⟩):=by
  obtain ⟨f,fd,a0,m,a,i,kc,F⟩:=h10.ex
  exact ⟨f,1,zp X G a0,⟨m,a,i,kc⟩,by decide,z7J T F⟩
 have d11:ya P w K mg base 1 "count_rows" ["groups"] (Y6 (lts P0) ⟨fil,grp,tbl,qst,idx,off,rdr,err,adv,cal,plc,prv⟩):=by
  obtain ⟨f,fd,a,F⟩:=h11.ex
  exact ⟨f,zp X G a,F.kp,z50 T F⟩
 have d12:zD P w K mg base 3 qst "finds" ["self","cells"] (QY (lts P0) ⟨fil,grp,tbl,qst,idx,off,rdr,err,adv,cal,plc,prv⟩):=by
  obtain ⟨f,fd,a,i,F⟩:=h12.ex
  exact ⟨f,T.qst.cl,⟨a,i,F.kp⟩,zaE (k:=2) T F (d5.mono (by decide))⟩
 have d13:zD P w K mg base 2 qst "equal_columns" ["self"] (Ue (lts P0) ⟨fil,grp,tbl,qst,idx,off,rdr,err,adv,cal,plc,prv⟩):=by
  obtain ⟨f,fd,a,i,F⟩:=h13.ex
  exact ⟨f,T.qst.cl,⟨a,i,F.kp⟩,z9A (k:=1) T F (d3.mono (by decide))⟩
 have d14:zD P w K mg base 1 qst "needed_columns" ["self"] (z2k (lts P0) ⟨fil,grp,tbl,qst,idx,off,rdr,err,adv,cal,plc,prv⟩):=by
  obtain ⟨f,fd,a,i,F⟩:=h14.ex
  exact ⟨f,T.qst.cl,⟨a,i,F.kp⟩,z9v T F⟩
 have d15:zD P w K mg base 1 qst "filters_of" ["self","columns"] (V7 (lts P0) ⟨fil,grp,tbl,qst,idx,off,rdr,err,adv,cal,plc,prv⟩):=by
  obtain ⟨f,fd,a,i,F⟩:=h15.ex
  exact ⟨f,T.qst.cl,⟨a,i,F.kp⟩,z4Y T F⟩
 have d16:zD P w K mg base 3 qst "unsettled_order" ["self"] (Wb (lts P0) ⟨fil,grp,tbl,qst,idx,off,rdr,err,adv,cal,plc,prv⟩):=by
  obtain ⟨f,fd,a,i,F⟩:=h16.ex
  exact ⟨f,T.qst.cl,⟨a,i,F.kp⟩,z4H (k:=2) T F (d6.mono (by decide)) (d13.mono (by decide))⟩
 have d17:zD P w K mg base 1 idx "own_columns" ["self"] (WW (lts P0) ⟨fil,grp,tbl,qst,idx,off,rdr,err,adv,cal,plc,prv⟩):=by
  obtain ⟨f,fd,a,i,F⟩:=h17.ex
  exact ⟨f,T.idx.cl,⟨a,i,F.kp⟩,z7M T F⟩
 have d18:zD P w K mg base 2 idx "has_entry" ["self","cells"] (JT ⟨fil,grp,tbl,qst,idx,off,rdr,err,adv,cal,plc,prv⟩):=by
  obtain ⟨f,fd,a,i,F⟩:=h18.ex
  exact ⟨f,T.idx.cl,⟨a,i,F.kp⟩,z68 (k:=1) T F (d2.mono (by decide))⟩
 have d19:zD P w K mg base 3 idx "room_for" ["self","table"] (z0I (lts P0) ⟨fil,grp,tbl,qst,idx,off,rdr,err,adv,cal,plc,prv⟩):=by
  obtain ⟨f,fd,a,i,F⟩:=h19.ex
  exact ⟨f,T.idx.cl,⟨a,i,F.kp⟩,z7H (k:=2) T F (d18.mono (by decide)) (d11.mono (by decide)) (d17.mono (by decide))⟩
 have d20:zD P w K mg base 2 idx "serves" ["self","question"] (z2j (lts P0) ⟨fil,grp,tbl,qst,idx,off,rdr,err,adv,cal,plc,prv⟩):=by
  obtain ⟨f,fd,a,i,F⟩:=h20.ex
  exact ⟨f,T.idx.cl,⟨a,i,F.kp⟩,z9r (k:=1) T F (d4.mono (by decide))⟩
 have d21:zD P w K mg base 2 idx "covers" ["self","question"] (z2o (lts P0) ⟨fil,grp,tbl,qst,idx,off,rdr,err,adv,cal,plc,prv⟩):=by
  obtain ⟨f,fd,a,i,F⟩:=h21.ex
  exact ⟨f,T.idx.cl,⟨a,i,F.kp⟩,z9B (k:=1) F (d6.mono (by decide)) (d14.mono (by decide)) (d17.mono (by decide))⟩
 have d22:zD P w K mg base 4 idx "frees_order_of" ["self","question"] (z4h (lts P0) ⟨fil,grp,tbl,qst,idx,off,rdr,err,adv,cal,plc,prv⟩):=by
  obtain ⟨f,fd,a,i,F⟩:=h22.ex
  exact ⟨f,T.idx.cl,⟨a,i,F.kp⟩,zaD (k:=3) T F (d6.mono (by decide)) (d16.mono (by decide)) (d13.mono (by decide))⟩
 have d23:zD P w K mg base 3 idx "range_filters" ["self","question"] (z4e (lts P0) ⟨fil,grp,tbl,qst,idx,off,rdr,err,adv,cal,plc,prv⟩):=by
  obtain ⟨f,fd,a,i,F⟩:=h23.ex
  exact ⟨f,T.idx.cl,⟨a,i,F.kp⟩,zay (k:=2) T F (d15.mono (by decide)) (d13.mono (by decide))⟩
 have d24:ya P w K mg base 4 "touched_groups" ["groups","question","free"] (UO (lts P0) ⟨fil,grp,tbl,qst,idx,off,rdr,err,adv,cal,plc,prv⟩):=by
  obtain ⟨f,fd,a,F⟩:=h24.ex
  exact ⟨f,zp X G a,F.kp,z7B (k:=3) T F (d12.mono (by decide)) (d7.mono (by decide))⟩
 have d25:ya P w K mg base 4 "sorting_cost" ["touched","question","free"] (UP (lts P0) ⟨fil,grp,tbl,qst,idx,off,rdr,err,adv,cal,plc,prv⟩):=by
  obtain ⟨f,fd,a,F⟩:=h25.ex
  exact ⟨f,zp X G a,F.kp,z7E (k:=3) T F (d12.mono (by decide)) (d11.mono (by decide))⟩
 have d26:ya P w K mg base 3 "look_up_cost" ["touched","question","index"] (z2m (lts P0) ⟨fil,grp,tbl,qst,idx,off,rdr,err,adv,cal,plc,prv⟩):=by
  obtain ⟨f,fd,a,F⟩:=h26.ex
  exact ⟨f,zp X G a,F.kp,z9x (k:=2) T F (d21.mono (by decide)) (d15.mono (by decide)) (d17.mono (by decide)) (d5.mono (by decide)) (d11.mono (by decide))⟩
 have d27:ya P w K mg base 4 "entries_in_range" ["table","question","index"] (z0O (lts P0) ⟨fil,grp,tbl,qst,idx,off,rdr,err,adv,cal,plc,prv⟩):=by
  obtain ⟨f,fd,a,F⟩:=h27.ex
  exact ⟨f,zp X G a,F.kp,z7T (k:=3) T F hC hB lok (d23.mono (by decide)) (d18.mono (by decide)) (d5.mono (by decide))⟩
 have d28:ya P w K mg base 5 "cost_by_table" ["table","question"] (z0P (lts P0) ⟨fil,grp,tbl,qst,idx,off,rdr,err,adv,cal,plc,prv⟩):=by
  obtain ⟨f,fd,a,F⟩:=h28.ex
  exact ⟨f,zp X G a,F.kp,z7V (k:=4) T F (d16.mono (by decide)) (d24.mono (by decide)) (d11.mono (by decide)) (d25.mono (by decide))⟩
 have d29:ya P w K mg base 5 "cost_by_index" ["table","question","index"] (z0Q (lts P0) ⟨fil,grp,tbl,qst,idx,off,rdr,err,adv,cal,plc,prv⟩):=by
  obtain ⟨f,fd,a,F⟩:=h29.ex
  exact ⟨f,zp X G a,F.kp,z7W (k:=4) T F (d22.mono (by decide)) (d24.mono (by decide)) (d27.mono (by decide)) (d11.mono (by decide)) (d25.mono (by decide)) (d26.mono (by decide))⟩
 have d30:ju P w K mg base 2 "Offer" off ["self","index","upkeep","room"] (z0K ⟨fil,grp,tbl,qst,idx,off,rdr,err,adv,cal,plc,prv⟩):=by
  obtain ⟨f,fd,a0,m,a,i,kc,F⟩:=h30.ex
  exact ⟨f,1,zp X G a0,⟨m,a,i,kc⟩,by decide,z7N T F⟩
 have d31:ya P w K mg base 6 "offer_cost" ["table","question","offer"] (Uc (lts P0) ⟨fil,grp,tbl,qst,idx,off,rdr,err,adv,cal,plc,prv⟩):=by
  obtain ⟨f,fd,a,F⟩:=h31.ex
  exact ⟨f,zp X G a,F.kp,z4V (k:=5) T F (d20.mono (by decide)) (d29.mono (by decide))⟩
 have d32:ya P w K mg base 7 "question_costs" ["table","question","offers"] (Ub (lts P0) ⟨fil,grp,tbl,qst,idx,off,rdr,err,adv,cal,plc,prv⟩):=by
  obtain ⟨f,fd,a,F⟩:=h32.ex
  exact ⟨f,zp X G a,F.kp,z9s (k:=6) T F (d28.mono (by decide)) (d31.mono (by decide))⟩
 have d33:ya P w K mg base 1 "cheapest_way" ["ways","chosen"] VO:=by
  obtain ⟨f,fd,a,F⟩:=h33.ex
  exact ⟨f,zp X G a,F.kp,z69 T F⟩
 have d34:ya P w K mg base 2 "asking_cost" ["costs","chosen"] (WY (lts P0)):=by
  obtain ⟨f,fd,a,F⟩:=h34.ex
  exact ⟨f,zp X G a,F.kp,z7X (k:=1) T F (d33.mono (by decide))⟩
 have d35:ya P w K mg base 1 "set_upkeep" ["offers","chosen"] (Wc (lts P0) ⟨fil,grp,tbl,qst,idx,off,rdr,err,adv,cal,plc,prv⟩):=by
  obtain ⟨f,fd,a,F⟩:=h35.ex
  exact ⟨f,zp X G a,F.kp,z4P T F⟩
 have d36:ya P w K mg base 3 "set_cost" ["costs","offers","chosen"] (ZC (lts P0) ⟨fil,grp,tbl,qst,idx,off,rdr,err,adv,cal,plc,prv⟩):=by
  obtain ⟨f,fd,a,F⟩:=h36.ex
  exact ⟨f,zp X G a,F.kp,z7G (k:=2) F (d34.mono (by decide)) (d35.mono (by decide))⟩
 have d37:ya P w K mg base 1 "set_room" ["offers","chosen"] (JS (lts P0) ⟨fil,grp,tbl,qst,idx,off,rdr,err,adv,cal,plc,prv⟩):=by
  obtain ⟨f,fd,a,F⟩:=h37.ex
  exact ⟨f,zp X G a,F.kp,z7F T F⟩
 have d38:ya P w K mg base 1 "is_set" ["numbers","count"] z4f:=by
  obtain ⟨f,fd,a,F⟩:=h38.ex
  exact ⟨f,zp X G a,F.kp,zaA F⟩
 have d39:ya P w K mg base 1 "grown_sets" ["chosen","count"] (z4g (lts P0)):=by
  obtain ⟨f,fd,a,F⟩:=h39.ex
  exact ⟨f,zp X G a,F.kp,zaC T F⟩
 have d40:ya P w K mg base 2 "sets_in_order" ["count"] (UR (lts P0)):=by
  obtain ⟨f,fd,a,F⟩:=h40.ex
  exact ⟨f,zp X G a,F.kp,z7P (k:=1) T F (d39.mono (by decide))⟩
 have d41:ya P w K mg base 3 "sets_within" ["offers","room"] (QV (lts P0) ⟨fil,grp,tbl,qst,idx,off,rdr,err,adv,cal,plc,prv⟩):=by
  obtain ⟨f,fd,a,F⟩:=h41.ex
  exact ⟨f,zp X G a,F.kp,z9q (k:=2) T F (d40.mono (by decide)) (d37.mono (by decide))⟩
 have d42:ya P w K mg base 4 "least_sets" ["costs","offers","room"] (V6 (lts P0) ⟨fil,grp,tbl,qst,idx,off,rdr,err,adv,cal,plc,prv⟩):=by
  obtain ⟨f,fd,a,F⟩:=h42.ex
  exact ⟨f,zp X G a,F.kp,z4X (k:=3) T F (d41.mono (by decide)) (d36.mono (by decide))⟩
 have d43:ya P w K mg base 4 "least_steps" ["costs","offers"] (Gf (lts P0) ⟨fil,grp,tbl,qst,idx,off,rdr,err,adv,cal,plc,prv⟩):=by
  obtain ⟨f,fd,a,F⟩:=h43.ex
  exact ⟨f,zp X G a,F.kp,z3q (k:=3) T F (d40.mono (by decide)) (d37.mono (by decide)) (d36.mono (by decide))⟩
 have d44:ya P w K mg base 1 "costs_no_more" ["cost","other"] QX:=by
  obtain ⟨f,fd,a,F⟩:=h44.ex
  exact ⟨f,zp X G a,F.kp,z9u T F⟩
 have d45:ya P w K mg base 2 "is_as_good" ["costs","offers","one","other"] (z2p (lts P0) ⟨fil,grp,tbl,qst,idx,off,rdr,err,adv,cal,plc,prv⟩):=by
  obtain ⟨f,fd,a,F⟩:=h45.ex
  exact ⟨f,zp X G a,F.kp,z9C (k:=1) T F (d44.mono (by decide))⟩
 have d46:ya P w K mg base 3 "dominates" ["costs","offers","one","other"] (Wg (lts P0) ⟨fil,grp,tbl,qst,idx,off,rdr,err,adv,cal,plc,prv⟩):=by
  obtain ⟨f,fd,a,F⟩:=h46.ex
  exact ⟨f,zp X G a,F.kp,z4Z (k:=2) F (d45.mono (by decide))⟩
 have d47:ya P w K mg base 4 "dominating" ["costs","offers","number"] (Gh (lts P0) ⟨fil,grp,tbl,qst,idx,off,rdr,err,adv,cal,plc,prv⟩):=by
  obtain ⟨f,fd,a,F⟩:=h47.ex
  exact ⟨f,zp X G a,F.kp,z3r (k:=3) T F (d46.mono (by decide))⟩
 have d48:ya P w K mg base 3 "is_idle" ["costs","offers","number"] (z2n (lts P0) ⟨fil,grp,tbl,qst,idx,off,rdr,err,adv,cal,plc,prv⟩):=by
  obtain ⟨f,fd,a,F⟩:=h48.ex
  exact ⟨f,zp X G a,F.kp,z9y (k:=2) T F (d34.mono (by decide))⟩
 have d49:ju P w K mg base 2 "Reader" rdr ["self","told"] (VG ⟨fil,grp,tbl,qst,idx,off,rdr,err,adv,cal,plc,prv⟩):=by
  obtain ⟨f,fd,a0,m,a,i,kc,F⟩:=h49.ex
  exact ⟨f,1,zp X G a0,⟨m,a,i,kc⟩,by decide,z7I T F⟩
 have d50:zD P w K mg base 1 rdr "take" ["self","lowest","highest"] (Wz (lts P0) ⟨fil,grp,tbl,qst,idx,off,rdr,err,adv,cal,plc,prv⟩):=by
  obtain ⟨f,fd,a,i,F⟩:=h50.ex
  exact ⟨f,T.rdr.cl,⟨a,i,F.kp⟩,ok_take (k:=0) T F⟩
 have d51:zD P w K mg base 1 rdr "finish" ["self"] (WX ⟨fil,grp,tbl,qst,idx,off,rdr,err,adv,cal,plc,prv⟩):=by
  obtain ⟨f,fd,a,i,F⟩:=h51.ex
  exact ⟨f,T.rdr.cl,⟨a,i,F.kp⟩,z9z (k:=0) T F⟩
 have d52:ya P w K mg base 3 "take_filter" ["reader","width"] (VC (lts P0) ⟨fil,grp,tbl,qst,idx,off,rdr,err,adv,cal,plc,prv⟩):=by
  obtain ⟨f,fd,a,F⟩:=h52.ex
  exact ⟨f,zp X G a,F.kp,z3p (k:=2) T F (d50.mono (by decide)) (d1.mono (by decide))⟩
 have d53:ya P w K mg base 2 "take_columns" ["reader","width","fewest","taken"] (Gd (lts P0) ⟨fil,grp,tbl,qst,idx,off,rdr,err,adv,cal,plc,prv⟩):=by
  obtain ⟨f,fd,a,F⟩:=h53.ex
  exact ⟨f,zp X G a,F.kp,z63 (k:=1) T F (d50.mono (by decide))⟩
 have d54:ya P w K mg base 4 "take_filters" ["reader","width"] (Wy (lts P0) ⟨fil,grp,tbl,qst,idx,off,rdr,err,adv,cal,plc,prv⟩):=by
  obtain ⟨f,fd,a,F⟩:=h54.ex
  exact ⟨f,zp X G a,F.kp,z2O (k:=3) T F (d50.mono (by decide)) (d52.mono (by decide))⟩
 have d55:ya P w K mg base 4 "take_condition" ["reader","width"] (Q5 (lts P0) ⟨fil,grp,tbl,qst,idx,off,rdr,err,adv,cal,plc,prv⟩):=by
  obtain ⟨f,fd,a,F⟩:=h55.ex
  exact ⟨f,zp X G a,F.kp,z62 (k:=3) F (d50.mono (by decide)) (d52.mono (by decide))⟩
 have d56:ya P w K mg base 3 "take_group" ["reader","width"] (U9 (lts P0) ⟨fil,grp,tbl,qst,idx,off,rdr,err,adv,cal,plc,prv⟩):=by
  obtain ⟨f,fd,a,F⟩:=h56.ex
  exact ⟨f,zp X G a,F.kp,z4O (k:=2) T F (d50.mono (by decide)) (d7.mono (by decide))⟩
 have d57:ya P w K mg base 5 "read_index" ["told","width"] (Wf (lts P0) ⟨fil,grp,tbl,qst,idx,off,rdr,err,adv,cal,plc,prv⟩):=by
  obtain ⟨f,fd,a,F⟩:=h57.ex
  exact ⟨f,zp X G a,F.kp,z4S (k:=4) T F (d49.mono (by decide)) (d53.mono (by decide)) (d55.mono (by decide)) (d51.mono (by decide)) (d9.mono (by decide))⟩
 have d58:ya P w K mg base 5 "read_question" ["told","width"] (Jo (lts P0) ⟨fil,grp,tbl,qst,idx,off,rdr,err,adv,cal,plc,prv⟩):=by
  obtain ⟨f,fd,a,F⟩:=h58.ex
  exact ⟨f,zp X G a,F.kp,z1H (k:=4) T F (d49.mono (by decide)) (d50.mono (by decide)) (d54.mono (by decide)) (d53.mono (by decide)) (d51.mono (by decide)) (d10.mono (by decide))⟩
 have d59:ya P w K mg base 4 "read_table" ["told"] (Wd (lts P0) ⟨fil,grp,tbl,qst,idx,off,rdr,err,adv,cal,plc,prv⟩):=by
  obtain ⟨f,fd,a,F⟩:=h59.ex
  exact ⟨f,zp X G a,F.kp,z4Q (k:=3) T F (d49.mono (by decide)) (d50.mono (by decide)) (d56.mono (by decide)) (d51.mono (by decide)) (d8.mono (by decide))⟩
 have d60:ya P w K mg base 3 "read_proof" ["told"] (We (lts P0) ⟨fil,grp,tbl,qst,idx,off,rdr,err,adv,cal,plc,prv⟩):=by
  obtain ⟨f,fd,a,F⟩:=h60.ex
  exact ⟨f,zp X G a,F.kp,z4R (k:=2) T F (d49.mono (by decide)) (d50.mono (by decide)) (d51.mono (by decide))⟩
 have d61:ju P w K mg base 2 "Place" plc ["self","looked_at","chosen"] (WV ⟨fil,grp,tbl,qst,idx,off,rdr,err,adv,cal,plc,prv⟩):=by
  obtain ⟨f,fd,a0,m,a,i,kc,F⟩:=h61.ex
  exact ⟨f,1,zp X G a0,⟨m,a,i,kc⟩,by decide,z7L T F⟩
 have d62:ju P w K mg base 2 "Prover" prv ["self","costs","offers","room"] (UQ ⟨fil,grp,tbl,qst,idx,off,rdr,err,adv,cal,plc,prv⟩):=by
  obtain ⟨f,fd,a0,m,a,i,kc,F⟩:=h62.ex
  exact ⟨f,1,zp X G a0,⟨m,a,i,kc⟩,by decide,z7K T F⟩
 have d63:zD P w K mg base 3 plc "parts" ["self"] (z1R (lts P0) ⟨fil,grp,tbl,qst,idx,off,rdr,err,adv,cal,plc,prv⟩):=by
  obtain ⟨f,fd,a,i,F⟩:=h63.ex
  exact ⟨f,T.plc.cl,⟨a,i,F.kp⟩,zaz (k:=2) T F (d61.mono (by decide))⟩
 have d64:zD P w K mg base 3 prv "lowest_cost" ["self","place"] (z2l (lts P0) ⟨fil,grp,tbl,qst,idx,off,rdr,err,adv,cal,plc,prv⟩):=by
  obtain ⟨f,fd,a,i,F⟩:=h64.ex
  exact ⟨f,T.prv.cl,⟨a,i,F.kp⟩,z9w (k:=2) T F (d34.mono (by decide)) (d35.mono (by decide))⟩
 have d65:zD P w K mg base 4 prv "holds" ["self","step","place","cost"] (z1S (lts P0) ⟨fil,grp,tbl,qst,idx,off,rdr,err,adv,cal,plc,prv⟩):=by
  obtain ⟨f,fd,a,i,F⟩:=h65.ex
  exact ⟨f,T.prv.cl,⟨a,i,F.kp⟩,zaB (k:=3) T F (d64.mono (by decide)) (d37.mono (by decide))⟩
 have d66:zD P w K mg base 5 prv "made_step" ["self","place","cost"] (Q6 (lts P0) ⟨fil,grp,tbl,qst,idx,off,rdr,err,adv,cal,plc,prv⟩):=by
  obtain ⟨f,fd,a,i,F⟩:=h66.ex
  exact ⟨f,T.prv.cl,⟨a,i,F.kp⟩,z65 (k:=4) T F (d65.mono (by decide))⟩
 have d67:zD P w K mg base 6 prv "made_proof" ["self","least"] (Ud (lts P0) ⟨fil,grp,tbl,qst,idx,off,rdr,err,adv,cal,plc,prv⟩):=by
  obtain ⟨f,fd,a,i,F⟩:=h67.ex
  exact ⟨f,T.prv.cl,⟨a,i,F.kp⟩,z4W (k:=5) T F (d61.mono (by decide)) (d66.mono (by decide)) (d63.mono (by decide))⟩
 have d68:zD P w K mg base 5 prv "accepts" ["self","steps","cost"] (z0T (lts P0) ⟨fil,grp,tbl,qst,idx,off,rdr,err,adv,cal,plc,prv⟩):=by
  obtain ⟨f,fd,a,i,F⟩:=h68.ex
  exact ⟨f,T.prv.cl,⟨a,i,F.kp⟩,z80 (k:=4) T F (d61.mono (by decide)) (d65.mono (by decide)) (d63.mono (by decide))⟩
 have d69:zD P w K mg base 6 adv "take_question" ["self","told"] (VN (lts P0) ⟨fil,grp,tbl,qst,idx,off,rdr,err,adv,cal,plc,prv⟩):=by
  obtain ⟨f,fd,a,i,F⟩:=h69.ex
  exact ⟨f,T.adv.cl,⟨a,i,F.kp⟩,z1G (k:=5) T F (d58.mono (by decide))⟩
 have d70:zD P w K mg base 1 adv "take_room" ["self","room"] (Q4 (lts P0) ⟨fil,grp,tbl,qst,idx,off,rdr,err,adv,cal,plc,prv⟩):=by
  obtain ⟨f,fd,a,i,F⟩:=h70.ex
  exact ⟨f,T.adv.cl,⟨a,i,F.kp⟩,z61 T F⟩
 have d71:zD P w K mg base 6 adv "take_index" ["self","upkeep","told"] (U8 (lts P0) ⟨fil,grp,tbl,qst,idx,off,rdr,err,adv,cal,plc,prv⟩):=by
  obtain ⟨f,fd,a,i,F⟩:=h71.ex
  exact ⟨f,T.adv.cl,⟨a,i,F.kp⟩,z4N (k:=5) T F (d57.mono (by decide)) (d19.mono (by decide)) (d30.mono (by decide))⟩
 have d72:zD P w K mg base 1 adv "has_table" ["self"] (Q7 ⟨fil,grp,tbl,qst,idx,off,rdr,err,adv,cal,plc,prv⟩):=by
  obtain ⟨f,fd,a,i,F⟩:=h72.ex
  exact ⟨f,T.adv.cl,⟨a,i,F.kp⟩,z67 T F⟩
 have d73:ju P w K mg base 2 "Advisor" adv ["self"] (z0S (lts P0) ⟨fil,grp,tbl,qst,idx,off,rdr,err,adv,cal,plc,prv⟩):=by
  obtain ⟨f,fd,a0,m,a,i,kc,F⟩:=h73.ex
  exact ⟨f,1,zp X G a0,⟨m,a,i,kc⟩,by decide,z7Z T F⟩
 have d74:zD P w K mg base 5 adv "take_table" ["self","told"] (U7 (lts P0) ⟨fil,grp,tbl,qst,idx,off,rdr,err,adv,cal,plc,prv⟩):=by
  obtain ⟨f,fd,a,i,F⟩:=h74.ex
  exact ⟨f,T.adv.cl,⟨a,i,F.kp⟩,z4M (k:=4) T F (d59.mono (by decide)) (d11.mono (by decide))⟩
 have d75:zD P w K mg base 8 adv "all_costs" ["self"] (ZO (lts P0) ⟨fil,grp,tbl,qst,idx,off,rdr,err,adv,cal,plc,prv⟩):=by
  obtain ⟨f,fd,a,i,F⟩:=h75.ex
  exact ⟨f,T.adv.cl,⟨a,i,F.kp⟩,z6c (k:=7) T F (d32.mono (by decide))⟩
 have d76:zD P w K mg base 8 adv "tell_costs" ["self","number"] (U5 (lts P0) ⟨fil,grp,tbl,qst,idx,off,rdr,err,adv,cal,plc,prv⟩):=by
  obtain ⟨f,fd,a,i,F⟩:=h76.ex
  exact ⟨f,T.adv.cl,⟨a,i,F.kp⟩,z4K (k:=7) T F (d32.mono (by decide))⟩
 have d77:zD P w K mg base 9 adv "tell_cost" ["self","chosen"] (Q3 (lts P0) ⟨fil,grp,tbl,qst,idx,off,rdr,err,adv,cal,plc,prv⟩):=by
  obtain ⟨f,fd,a,i,F⟩:=h77.ex
  exact ⟨f,T.adv.cl,⟨a,i,F.kp⟩,z60 (k:=8) T F (d38.mono (by decide)) (d75.mono (by decide)) (d36.mono (by decide)) (d37.mono (by decide)) (d33.mono (by decide))⟩
 have d78:zD P w K mg base 9 adv "tell_least" ["self"] (U4 (lts P0) ⟨fil,grp,tbl,qst,idx,off,rdr,err,adv,cal,plc,prv⟩):=by
  obtain ⟨f,fd,a,i,F⟩:=h78.ex
  exact ⟨f,T.adv.cl,⟨a,i,F.kp⟩,z4J (k:=8) T F (d75.mono (by decide)) (d42.mono (by decide)) (d36.mono (by decide))⟩
 have d79:zD P w K mg base 9 adv "tell_kth" ["self","place"] (z0G (lts P0) ⟨fil,grp,tbl,qst,idx,off,rdr,err,adv,cal,plc,prv⟩):=by
  obtain ⟨f,fd,a,i,F⟩:=h79.ex
  exact ⟨f,T.adv.cl,⟨a,i,F.kp⟩,z7C (k:=8) T F (d75.mono (by decide)) (d42.mono (by decide))⟩
 have d80:zD P w K mg base 9 adv "tell_with" ["self","number"] (Q2 (lts P0) ⟨fil,grp,tbl,qst,idx,off,rdr,err,adv,cal,plc,prv⟩):=by
  obtain ⟨f,fd,a,i,F⟩:=h80.ex
  exact ⟨f,T.adv.cl,⟨a,i,F.kp⟩,z5Z (k:=8) T F (d75.mono (by decide)) (d41.mono (by decide)) (d36.mono (by decide))⟩
 have d81:zD P w K mg base 5 adv "standing" ["self","costs","number"] (Ge (lts P0) ⟨fil,grp,tbl,qst,idx,off,rdr,err,adv,cal,plc,prv⟩):=by
  obtain ⟨f,fd,a,i,F⟩:=h81.ex
  exact ⟨f,T.adv.cl,⟨a,i,F.kp⟩,z64 (k:=4) T F (d47.mono (by decide)) (d48.mono (by decide))⟩
 have d82:zD P w K mg base 9 adv "tell_dominated" ["self"] (Vn (lts P0) ⟨fil,grp,tbl,qst,idx,off,rdr,err,adv,cal,plc,prv⟩):=by
  obtain ⟨f,fd,a,i,F⟩:=h82.ex
  exact ⟨f,T.adv.cl,⟨a,i,F.kp⟩,z19 (k:=8) T F (d75.mono (by decide)) (d81.mono (by decide))⟩
 have d83:zD P w K mg base 9 adv "tell_proof" ["self"] (U3 (lts P0) ⟨fil,grp,tbl,qst,idx,off,rdr,err,adv,cal,plc,prv⟩):=by
  obtain ⟨f,fd,a,i,F⟩:=h83.ex
  exact ⟨f,T.adv.cl,⟨a,i,F.kp⟩,z4I (k:=8) T F (d75.mono (by decide)) (d42.mono (by decide)) (d36.mono (by decide)) (d62.mono (by decide)) (d67.mono (by decide))⟩
 have d84:zD P w K mg base 9 adv "tell_check" ["self","cost","told"] (U6 (lts P0) ⟨fil,grp,tbl,qst,idx,off,rdr,err,adv,cal,plc,prv⟩):=by
  obtain ⟨f,fd,a,i,F⟩:=h84.ex
  exact ⟨f,T.adv.cl,⟨a,i,F.kp⟩,z4L (k:=8) T F (d60.mono (by decide)) (d75.mono (by decide)) (d62.mono (by decide)) (d68.mono (by decide))⟩
 have d85:zD P w K mg base 9 adv "tell_frontier" ["self"] (VM (lts P0) ⟨fil,grp,tbl,qst,idx,off,rdr,err,adv,cal,plc,prv⟩):=by
  obtain ⟨f,fd,a,i,F⟩:=h85.ex
  exact ⟨f,T.adv.cl,⟨a,i,F.kp⟩,z1F (k:=8) T F (d75.mono (by decide)) (d43.mono (by decide))⟩
 have d86:ju P w K mg base 2 "Call" cal ["self","kind","number","row"] (UT ⟨fil,grp,tbl,qst,idx,off,rdr,err,adv,cal,plc,prv⟩):=by
  obtain ⟨f,fd,a0,m,a,i,kc,F⟩:=h86.ex
  exact ⟨f,1,zp X G a0,⟨m,a,i,kc⟩,by decide,z7U T F⟩
 have d87:ya P w K mg base 3 "read_calls" ["calls"] (Ua (lts P0) K ⟨fil,grp,tbl,qst,idx,off,rdr,err,adv,cal,plc,prv⟩):=by
  obtain ⟨f,fd,a,F⟩:=h87.ex
  exact ⟨f,zp X G a,F.kp,z4T (k:=2) T F tn tr (d86.mono (by decide))⟩
 have d88:ya P w K mg base 7 "answer_to_change" ["advisor","call"] (Uf (lts P0) ⟨fil,grp,tbl,qst,idx,off,rdr,err,adv,cal,plc,prv⟩):=by
  obtain ⟨f,fd,a,F⟩:=h88.ex
  exact ⟨f,zp X G a,F.kp,z51 (k:=6) T F (d69.mono (by decide)) (d71.mono (by decide)) (d70.mono (by decide))⟩
 have d89:ya P w K mg base 10 "answer_to_other" ["advisor","call"] (Q9 (lts P0) ⟨fil,grp,tbl,qst,idx,off,rdr,err,adv,cal,plc,prv⟩):=by
  obtain ⟨f,fd,a,F⟩:=h89.ex
  exact ⟨f,zp X G a,F.kp,z6b (k:=9) T F (d76.mono (by decide)) (d77.mono (by decide)) (d78.mono (by decide)) (d79.mono (by decide)) (d80.mono (by decide)) (d82.mono (by decide)) (d83.mono (by decide)) (d84.mono (by decide)) (d85.mono (by decide))⟩
 have d90:ya P w K mg base 11 "answer_to" ["advisor","call"] (Q8 (lts P0) ⟨fil,grp,tbl,qst,idx,off,rdr,err,adv,cal,plc,prv⟩):=by
  obtain ⟨f,fd,a,F⟩:=h90.ex
  exact ⟨f,zp X G a,F.kp,z6a (k:=10) T F (d74.mono (by decide)) (d72.mono (by decide)) (d88.mono (by decide)) (d89.mono (by decide))⟩
 exact (z7Y (k:=11) T F (d73.mono (by decide)) (d87.mono (by decide)) (d90.mono (by decide))).mono (by decide)
end LI
theorem PySem.W.Fast.te13052408679150730464:True:=trivial
theorem PySem.W.Fast.te4110290226886642065:True:=trivial
theorem PySem.W.Fast.te5369427470323729400:True:=trivial
theorem PySem.W.Fast.te5452508617037859911:True:=trivial
open PySem PySem.W PyProof.Rows
set_option maxRecDepth 100000 in
set_option maxHeartbeats 0 in
theorem PySem.Challenge.cw_leastindexes_s01_answers_holds : PySem.Challenge.rw_leastindexes_s01_answers.Holds := by
 w_on;k_headS;(case hw=>exact ⟨[.list [.int 9]],by decide +kernel,by decide +kernel⟩)
 k_fillS
 refine' L2.z6V (r:=PySem.Challenge.rw_leastindexes_s01_answers) (k:=60) (x0:="entries_in_range") (ps:=["calls"]) (sp:=LI.z0R (LI.lts 248)) 250 248 (by decide +kernel) rfl rfl ⟨rfl,by decide,by decide⟩ ?hrec (fun w h Y=>PySem.W.kIn_of Y) ?htab ?hKP ?hKc ?F ?S
 case hrec=>kernel_rfl
 case htab=>intro Pm;kernel_rfl
 case hKP=>intro Pm;kernel_rfl
 case hKc=>intro Pm;kernel_rfl
 case F=>
  intro w mg fa h Y KX G hmg hC
  refine' LI.chain KX G ?b1 ?b2 ?b3 ?b4 ?b5 ?b6 ?b7 ?b8 ?b9 ?b10 ?b11 ?aE ?bE ?bN ?bB ?tn ?tr hC ?h1 ?h2 ?h3 ?h4 ?h5 ?h6 ?h7 ?h8 ?h9 ?h10 ?h11 ?h12 ?h13 ?h14 ?h15 ?h16 ?h17 ?h18 ?h19 ?h20 ?h21 ?h22 ?h23 ?h24 ?h25 ?h26 ?h27 ?h28 ?h29 ?h30 ?h31 ?h32 ?h33 ?h34 ?h35 ?h36 ?h37 ?h38 ?h39 ?h40 ?h41 ?h42 ?h43 ?h44 ?h45 ?h46 ?h47 ?h48 ?h49 ?h50 ?h51 ?h52 ?h53 ?h54 ?h55 ?h56 ?h57 ?h58 ?h59 ?h60 ?h61 ?h62 ?h63 ?h64 ?h65 ?h66 ?h67 ?h68 ?h69 ?h70 ?h71 ?h72 ?h73 ?h74 ?h75 ?h76 ?h77 ?h78 ?h79 ?h80 ?h81 ?h82 ?h83 ?h84 ?h85 ?h86 ?h87 ?h88 ?h89 ?h90 hmg ?ha
  (case h1=>refine' LI.Jw ?_ ?_ ?_ ?_ ?_ ?_ ?_ ?_ <;> try k_is)
  (case h7=>refine' LI.Jw ?_ ?_ ?_ ?_ ?_ ?_ ?_ ?_ <;> try k_is)
  (case h8=>refine' LI.Jw ?_ ?_ ?_ ?_ ?_ ?_ ?_ ?_ <;> try k_is)
  (case h9=>refine' LI.Jw ?_ ?_ ?_ ?_ ?_ ?_ ?_ ?_ <;> try k_is)
  (case h10=>refine' LI.Jw ?_ ?_ ?_ ?_ ?_ ?_ ?_ ?_ <;> try k_is)
  (case h30=>refine' LI.Jw ?_ ?_ ?_ ?_ ?_ ?_ ?_ ?_ <;> try k_is)
  (case h49=>refine' LI.Jw ?_ ?_ ?_ ?_ ?_ ?_ ?_ ?_ <;> try k_is)
  (case h61=>refine' LI.Jw ?_ ?_ ?_ ?_ ?_ ?_ ?_ ?_ <;> try k_is)
  (case h62=>refine' LI.Jw ?_ ?_ ?_ ?_ ?_ ?_ ?_ ?_ <;> try k_is)
  (case h73=>refine' LI.Jw ?_ ?_ ?_ ?_ ?_ ?_ ?_ ?_ <;> try k_is)
  (case h86=>refine' LI.Jw ?_ ?_ ?_ ?_ ?_ ?_ ?_ ?_ <;> try k_is)
  (case aE=>k_is);(case bE=>kernel_rfl);(case bN=>kernel_rfl);(case bB=>kernel_rfl)
  (case b1=>kernel_rfl);(case b2=>kernel_rfl);(case b3=>kernel_rfl);(case b4=>kernel_rfl);(case b5=>kernel_rfl);(case b6=>kernel_rfl);(case b7=>kernel_rfl);(case b8=>kernel_rfl);(case b9=>kernel_rfl);(case b10=>kernel_rfl);(case b11=>kernel_rfl)
  (case tn=>refine' LI.zae KX G ?y1 ?y2 ?y3 ?y4;(case y1=>k_is);(case y2=>k_is);(case y3=>decide +kernel);(case y4=>repeat first | exact .nil | refine .cons ⟨_,rfl⟩ ?_))
  (case tr=>refine' LI.zae KX G ?x1 ?x2 ?x3 ?x4;(case x1=>k_is);(case x2=>k_is);(case x3=>decide +kernel);(case x4=>repeat first | exact .nil | refine .cons ⟨_,rfl⟩ ?_))
  (case h2=>refine' LI.yS ?_ ?_ ?_ ?_ ?_ <;> try k_is)
  (case h3=>refine' LI.yS ?_ ?_ ?_ ?_ ?_ <;> try k_is)
  (case h4=>refine' LI.yS ?_ ?_ ?_ ?_ ?_ <;> try k_is)
  (case h5=>refine' LI.yP ?_ ?_ ?_ ?_ <;> try k_is)
  (case h6=>refine' LI.yP ?_ ?_ ?_ ?_ <;> try k_is)
  (case h11=>refine' LI.yP ?_ ?_ ?_ ?_ <;> try k_is)
  (case h12=>refine' LI.yS ?_ ?_ ?_ ?_ ?_ <;> try k_is)
  (case h13=>refine' LI.yS ?_ ?_ ?_ ?_ ?_ <;> try k_is)
  (case h14=>refine' LI.yS ?_ ?_ ?_ ?_ ?_ <;> try k_is)
  (case h15=>refine' LI.yS ?_ ?_ ?_ ?_ ?_ <;> try k_is)
  (case h16=>refine' LI.yS ?_ ?_ ?_ ?_ ?_ <;> try k_is)
  (case h17=>refine' LI.yS ?_ ?_ ?_ ?_ ?_ <;> try k_is)
  (case h18=>refine' LI.yS ?_ ?_ ?_ ?_ ?_ <;> try k_is)
  (case h19=>refine' LI.yS ?_ ?_ ?_ ?_ ?_ <;> try k_is)
  (case h20=>refine' LI.yS ?_ ?_ ?_ ?_ ?_ <;> try k_is)
  (case h21=>refine' LI.yS ?_ ?_ ?_ ?_ ?_ <;> try k_is)
  (case h22=>refine' LI.yS ?_ ?_ ?_ ?_ ?_ <;> try k_is)
  (case h23=>refine' LI.yS ?_ ?_ ?_ ?_ ?_ <;> try k_is)
  (case h24=>refine' LI.yP ?_ ?_ ?_ ?_ <;> try k_is)
  (case h25=>refine' LI.yP ?_ ?_ ?_ ?_ <;> try k_is)
  (case h26=>refine' LI.yP ?_ ?_ ?_ ?_ <;> try k_is)
  (case h27=>refine' LI.topC_of ?_ ?_ ?_ ?_ <;> try k_is)
  (case h28=>refine' LI.yP ?_ ?_ ?_ ?_ <;> try k_is)
  (case h29=>refine' LI.yP ?_ ?_ ?_ ?_ <;> try k_is)
  (case h31=>refine' LI.yP ?_ ?_ ?_ ?_ <;> try k_is)
  (case h32=>refine' LI.yP ?_ ?_ ?_ ?_ <;> try k_is)
  (case h33=>refine' LI.yP ?_ ?_ ?_ ?_ <;> try k_is)
  (case h34=>refine' LI.yP ?_ ?_ ?_ ?_ <;> try k_is)
  (case h35=>refine' LI.yP ?_ ?_ ?_ ?_ <;> try k_is)
  (case h36=>refine' LI.yP ?_ ?_ ?_ ?_ <;> try k_is)
  (case h37=>refine' LI.yP ?_ ?_ ?_ ?_ <;> try k_is)
  (case h38=>refine' LI.yP ?_ ?_ ?_ ?_ <;> try k_is)
  (case h39=>refine' LI.yP ?_ ?_ ?_ ?_ <;> try k_is)
  (case h40=>refine' LI.yP ?_ ?_ ?_ ?_ <;> try k_is)
  (case h41=>refine' LI.yP ?_ ?_ ?_ ?_ <;> try k_is)
  (case h42=>refine' LI.yP ?_ ?_ ?_ ?_ <;> try k_is)
  (case h43=>refine' LI.yP ?_ ?_ ?_ ?_ <;> try k_is)
  (case h44=>refine' LI.yP ?_ ?_ ?_ ?_ <;> try k_is)
  (case h45=>refine' LI.yP ?_ ?_ ?_ ?_ <;> try k_is)
  (case h46=>refine' LI.yP ?_ ?_ ?_ ?_ <;> try k_is)
  (case h47=>refine' LI.yP ?_ ?_ ?_ ?_ <;> try k_is)
  (case h48=>refine' LI.yP ?_ ?_ ?_ ?_ <;> try k_is)
  (case h50=>refine' LI.yS ?_ ?_ ?_ ?_ ?_ <;> try k_is)
  (case h51=>refine' LI.yS ?_ ?_ ?_ ?_ ?_ <;> try k_is)
  (case h52=>refine' LI.yP ?_ ?_ ?_ ?_ <;> try k_is)
  (case h53=>refine' LI.yP ?_ ?_ ?_ ?_ <;> try k_is)
  (case h54=>refine' LI.yP ?_ ?_ ?_ ?_ <;> try k_is)
  (case h55=>refine' LI.yP ?_ ?_ ?_ ?_ <;> try k_is)
  (case h56=>refine' LI.yP ?_ ?_ ?_ ?_ <;> try k_is)
  (case h57=>refine' LI.yP ?_ ?_ ?_ ?_ <;> try k_is)
  (case h58=>refine' LI.yP ?_ ?_ ?_ ?_ <;> try k_is)
  (case h59=>refine' LI.yP ?_ ?_ ?_ ?_ <;> try k_is)
  (case h60=>refine' LI.yP ?_ ?_ ?_ ?_ <;> try k_is)
  (case h63=>refine' LI.yS ?_ ?_ ?_ ?_ ?_ <;> try k_is)
  (case h64=>refine' LI.yS ?_ ?_ ?_ ?_ ?_ <;> try k_is)
  (case h65=>refine' LI.yS ?_ ?_ ?_ ?_ ?_ <;> try k_is)
  (case h66=>refine' LI.yS ?_ ?_ ?_ ?_ ?_ <;> try k_is)
  (case h67=>refine' LI.yS ?_ ?_ ?_ ?_ ?_ <;> try k_is)
  (case h68=>refine' LI.yS ?_ ?_ ?_ ?_ ?_ <;> try k_is)
  (case h69=>refine' LI.yS ?_ ?_ ?_ ?_ ?_ <;> try k_is)
  (case h70=>refine' LI.yS ?_ ?_ ?_ ?_ ?_ <;> try k_is)
  (case h71=>refine' LI.yS ?_ ?_ ?_ ?_ ?_ <;> try k_is)
  (case h72=>refine' LI.yS ?_ ?_ ?_ ?_ ?_ <;> try k_is)
  (case h74=>refine' LI.yS ?_ ?_ ?_ ?_ ?_ <;> try k_is)
  (case h75=>refine' LI.yS ?_ ?_ ?_ ?_ ?_ <;> try k_is)
  (case h76=>refine' LI.yS ?_ ?_ ?_ ?_ ?_ <;> try k_is)
  (case h77=>refine' LI.yS ?_ ?_ ?_ ?_ ?_ <;> try k_is)
  (case h78=>refine' LI.yS ?_ ?_ ?_ ?_ ?_ <;> try k_is)
  (case h79=>refine' LI.yS ?_ ?_ ?_ ?_ ?_ <;> try k_is)
  (case h80=>refine' LI.yS ?_ ?_ ?_ ?_ ?_ <;> try k_is)
  (case h81=>refine' LI.yS ?_ ?_ ?_ ?_ ?_ <;> try k_is)
  (case h82=>refine' LI.yS ?_ ?_ ?_ ?_ ?_ <;> try k_is)
  (case h83=>refine' LI.yS ?_ ?_ ?_ ?_ ?_ <;> try k_is)
  (case h84=>refine' LI.yS ?_ ?_ ?_ ?_ ?_ <;> try k_is)
  (case h85=>refine' LI.yS ?_ ?_ ?_ ?_ ?_ <;> try k_is)
  (case h87=>refine' LI.yP ?_ ?_ ?_ ?_ <;> try k_is)
  (case h88=>refine' LI.yP ?_ ?_ ?_ ?_ <;> try k_is)
  (case h89=>refine' LI.yP ?_ ?_ ?_ ?_ <;> try k_is)
  (case h90=>refine' LI.yP ?_ ?_ ?_ ?_ <;> try k_is)
  (case ha=>refine' LI.yP ?_ ?_ ?_ ?_ <;> try k_is)
 case S=>
  intro K H xs a hO hwi hask hx
  cases hx with
  | cons h1 h2=>
   cases h2
   cases h1 with
   | lst hs ha=>
    have e:=L2.z8N a.1 _ ha
    subst e
    have q:((Codec.inLen 0 17000 a.1&&a.1.all (Codec.inInt (-1000000000000000000) 1000000000000000000))&&true)=true:=hwi
    rw [ye,ye] at q
    refine ⟨_,a.1,rfl,hs,(Codec.inNat_iff.mp q.1.1).2,hask,fun t ht=>?_,fun H' p hp=>.lst (L2.SqL.of hp) (L2.z8R _)⟩
    rw [zi.mp ht]
    exact ⟨_,hO.tab,.inl rfl⟩
