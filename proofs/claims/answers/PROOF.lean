import PyProof.Rows.All
import Wide.All
import OpenK.AllK
import Wide.FinOn
import PyProof.EqAt
import PyProof.EqKinds
import PyProof.TupleCall
import KE.BitLaws
import KE.KDictSum
import KE.KSortKeySt
import KE.KLam
import KE.KSortTupG
import KE.KMinKey
import KE.KDictLaws
import Open.SpecLaws
import KE.OsHead
import KE.OsGo
import VasnpbSpec
import PySem.Challenge.RW_whokeepsdesk_s01_answers
set_option Elab.async false
set_option linter.all false
set_option maxRecDepth 100000
set_option maxHeartbeats 2000000
open PySem renaming Value → aq, Shared → a9, wpAny → bV, wpAny_bind → cE, sizeLine → cJ, FuncData → dn, sizeLine_eq → eE, World → eJ, Program → eS, Around → gc, wpAny_pure → ij, starEach → iP, Scope → jP, boot_len → lW, mainGlobals → nG, wpAny_mono → ou, mem_of_lookup → oW, DictEntry → qD, NameKind → rV, wpAny_holding → yq, wpAny_Call_Name_kw → zR, wpAny_seqItems → zV, wpAny_truthy_bool → BA, wpAny_field → BE, wpAny_letGo → BF, wpAny_passesOwn → Dv, codeAny_mono → Dx, wpAny_execs_nil → FQ, wpAny_pyIter_list → FR, wpAny_tryCatch → FZ, call_meets → JA, wpAny_updateSeq → JE, wpAny_setField_rec → JF, PassesOwn → NT, wpAny_call → NW, wpAny_loadPart' → NY, pushCells_keeps → N1, tupleKind_room_in1 → N5, wpAny_newList → N6, wpAny_onRaise → N7, plainId_quiet → Ob, wpAny_Name → VJ, wpAny_execs_cons → VL, wpAny_standAt → VM, seqIndex_of → VS, seqIndex_neg → VT, wpAny_call_entry → V4, wpAny_rule → Wd, wpAny_nextOf_list_item → We, wpAny_attempt → Wf, codeAny_builtin → Wi, wpAny_loadName_local → agM, wpAny_loadName_cell → agN, wpAny_isTrue_Compare1 → agP, wpAny_assign_Name → agQ, wpAny_Assign_Name → agR, slot_list_getitem → ag6, evalArgs_none → aha, wpAny_getItem_of → ahk, wpAny_Dict_empty → ahm, wpAny_Call_method → ahn, wpAny_pyIter_enum → ahp, wpAny_callSpecial?_slot → ahz, wpAny_pyIter_zip → ahC
open Vasnpa renaming holdsOf → bh, Graph → bp, Field → ja, goodGraph → kP, Obj → lj, sizeOf → lX, byRound → pY
open List renaming length_map → bt, mem_cons → f6, getElem?_map → gp, getElem?_eq_some_iff → gq, length_append → gR, mem_filter → gT, mem_of_getElem? → iy, length_cons → iz, getElem?_eq_getElem → iN, map_append → iO, size_toArray → i9, mem_map → js, map_cons → jx, range → jO, take_length → jY, foldl_cons → kz, mem_append → kN, filter_cons → kO, getD_eq_getElem?_getD → lT, mem_cons_of_mem → lU, length_take → mB, length_filter_le → mL, mem_cons_self → m4, append_nil → nZ, map_map → n9, replicate → oV, mem_zipIdx_iff_getElem? → pz, filter_congr → qC, getElem?_of_mem → rj, any_eq_true → sY, flatMap_append → sZ, all_eq_true → tZ, nodup_cons → t8, find?_cons → t9, append_assoc → uS, mem_append_right → uT, filter_append → vJ, mem_append_left → vL, nodup_append → wZ, filter_filter → w8, length_range → xc, length_set → yn, map_congr_left → yo, sum_cons → yp, length_zipIdx → yt, all_cons → zN, length_nil → zS, drop_eq_nil_of_le → zT, nodup_nil → Bu, contains_eq_mem → Bv, getElem_mem → Bw, pairwise_cons → Bx, getElem?_append_left → By, getElem?_range → BC, filter_eq_self → Dr, mem_filterMap → Ds, mem_map_of_mem → Dt, map_nil → Dy, length_singleton → Dz, lookup_cons → DA, mem_of_find?_eq_some → FN, getElem?_eq_none → FO, take_append_drop → FP, any_cons → FU, getElem?_cons_zero → FW, getElem?_cons_succ → FX, length_eq_zero_iff → Jm, getElem?_set_self → Jn, getElem?_set_ne → Jo, find?_eq_none → Jp, filter_sublist → Jq, zipIdx_cons → Jr, filter_eq_nil_iff → Js, drop_eq_getElem_cons → Jt, mem_iff_getElem → Jv, filterMap_cons → Jw, length_drop → Jz, filter_map → JC, flatMap_cons → JD, pairwise_map → JG, mem_range → NM, not_mem_nil → NN, mem_flatMap → NO, getElem?_append_right → NQ, getElem?_eq_none_iff → NR, take_sublist → NX, forIn_nil → N0, getElem?_zipIdx → Oa, pairwise_lt_range → VC, find?_some → VD, foldl_append → VF, foldl_map → VG, range_succ → VH, getElem?_replicate → VI, of_mem_zip → VQ, take_of_length_le → VX, all_map → VZ, forIn_cons → V0, zipIdx_append → V2, zipIdx_map → V5, filterMap_append → V6, length_take_le' → V7, map_id → Wa, zipIdx_map_fst → Wc, getElem?_zip_eq_some → Wg, ext_getElem? → Wh, set_set → Wl, nil_append → agv, find?_append → agw, take_add_one → agz, drop_length → agA, foldl_filter → agB, getElem_inj → agL, length_replicate → agZ, zip_cons_cons → ag4, reverse_cons → ahc, replicate_succ → ahd, flatten_cons → ahe, length_filterMap_le → ahs, take_eq_take_iff → aht, map_take → ahw, perm_ext_iff_of_nodup → ahx, zipIdx_nil → ahy, length_zip → ahF, map_flatMap → ahJ, mem_singleton → ahK, drop_drop → ahN
open Vasnpb renaming fromPlace → bN, toPlace → dD, isFound → dY, keepTable → fE, ofKind → jz, step → lp, keepersIn → mz, liveHolds → nF, toldWays → ow, depthIn → qE, Call → DC
open PySem.W renaming Frag → cB, keepIn → pZ, fnOf → ua, findIn → uU, mg_of → F0, callWith_K → Jx, hideAll_get → NS, plainGet_of → VN, callWith_K0 → VP, of_hideAll → agI, hideAll_none → agJ, methodCall_KW → agU, cellsFrom_some → agW, length_le_weightAllW → ahO
open Nat renaming le_refl → dR, zero_le → dU, le_trans → gN, ne_of_lt → kg, lt_of_lt_of_le → pA, zero_add → vK, lt_irrefl → w9, ne_of_gt → yr, lt_or_ge → zO, le_of_lt → Du, mul_le_mul_right → DD, lt_succ_self → FT, succ_le_succ → FV, le_of_eq → NV, le_of_succ_le → N2, lt_succ_of_lt → N3, min_eq_left → V3, le_succ → agV, lt_of_le_of_lt → ahq, le_total → ahu, min_eq_right → ahv
open Option.some renaming inj → gE, injEq → JB
open PySem.Heap renaming get?_push_of_some → gF, lt_size → iK, get?_push_size → lV, size_push → p7, get?_none_of_le → agK, get?_update_self → ag7, get?_update_other → ag8
open Bool renaming false_ne_true → jt, and_eq_true → jN, eq_iff_iff → n4, not_eq_true' → rh, or_eq_true → FK, and_comm → NP, false_eq_true → V1, true_and → agu, and_true → agC, eq_false_iff → agE, false_and → agS, and_false → ahf, or_false → ahL, and_eq_true_iff → ahP
open PyProof.Rows renaming seqObj → jy, get?_update_seq → DE, callWith_type1 → NU, listUpdate_at → N9, Subscript_ → VR, boot_sorted → V9, subscriptTail_builtinR → ag5, entry_list_sort → ahr, callWith_builtin_kwB → ahH
open PySem.PassesOwn renaming never → jW
open PySem.F renaming plainAttrs_list → jX, slot_list_append → n6, type_list_append → n8, slot_list_extend → xb, type_list_extend → zU, plain_min_loop → DF, slot_zip_next → N8, entry_min_loop → Wj, entry_list_extend → ahg, args_list_extend_2 → ahh, slot_dict_getitem → ahl, slot_dict_items → aho, entry_zip_next → ahA, args_zip_next_1 → ahB, slot_dict_setdefault → ahI
open PySem.Obj renaming mapSeq → m5
open VasnpbNeutral renaming callOf → m6
open PyVasnpb renaming shape → uV
open PySem.Paired renaming snoc → vM, length → zQ
open Ne renaming symm → xa
open Sum.inl renaming inj → zP
open List.cons renaming inj → Bz
open Array renaming length_toList → BB, append_assoc → agH, getElem?_toList → ahi, getElem?_eq_getElem → ahG
open PySem.Heap.SameBut renaming update → BD
open Option renaming map_some → DB, isSome_map → N4, map_eq_some_iff → VY, getD_some → Wb, isSome_iff_exists → agX, getD_none → ag9, isSome_some → ahj
open Int renaming toNat_of_nonneg → FY, toNat_natCast → Jy, add_mul → agy, one_mul → agD
open PySem.Walks renaming list → NZ
open Classical renaming em → VB, not_not → ahM
open List.Sublist renaming map → VE
open PySem.Calls renaming spliced_cons → VO, callWith_builtin → VU, Name_function_global → agO, spliced_nil → agT, evalArgs_plain → ahb
open List.Perm renaming eq_of_pairwise → V8
open PySem.Around renaming under_plainId → Wk, frames_deeper → agY
open List.Nodup renaming sublist → agx
open PySem.SeqAt.EqAt renaming int_str → agF, str_int → agG, int_int → ag0
open PySem.AutoSeq1 renaming sub_tuple_tuple → ag3
open Array.Perm renaming refl → ahD
open PyProof.Rows.Stable renaming refl → ahE
open PySem.Value.type renaming inj → ahQ
namespace WK
open Vasnpa (Graph Hold holdsOf holdsLeft liveWithout sizeOf put leadBy byRound byIn)
theorem ahR{l:List Nat}{n x:Nat}:x∈put l n↔x∈l∨x=n:=by
 unfold put
 split
 .rename_i h;have h':n∈l:=by simpa using h
  constructor
  .exact fun q=>.inl q
  .rintro (q|rfl)
   .exact q
   .exact h'
 .simp
theorem ahS{l:List Nat}{n:Nat}(h:l.Nodup):(put l n).Nodup:=by
 unfold put
 split
 .exact h
 .rename_i q;have q':n∉l:=by simpa using q
  rw[wZ];refine ⟨h,by simp,?_⟩;intro a ha b hb e;simp at hb;subst hb e;exact q' ha
theorem ahT(l:List Nat)(n:Nat):∃r,put l n=l++r:=by
 unfold put
 split
 .exact ⟨[],by simp⟩
 .exact ⟨[n],rfl⟩
theorem F1:∀{r l:List Nat}{x:Nat},x∈r.foldl put l↔x∈l∨x∈r
 | [],l,x=>by simp
 |a::r,l,x=>by
  rw[kz,F1,ahR];simp only[f6];constructor
  .rintro ((h|h)|h)
   .exact .inl h
   .exact .inr (.inl h)
   .exact .inr (.inr h)
  .rintro (h|h|h)
   .exact .inl (.inl h)
   .exact .inl (.inr h)
   .exact .inr h
theorem Oc:∀{r l:List Nat},l.Nodup->(r.foldl put l).Nodup
 | [],_,h=>h
 |_::r,_,h=>Oc (r:=r) (ahS h)
theorem Wm:∀(r l:List Nat),∃t,r.foldl put l=l++t
 | [],l=>⟨[],by simp⟩
 |a::r,l=>by
  obtain ⟨t1,U⟩:=ahT l a;obtain ⟨t2,h2⟩:=Wm r (put l a);refine ⟨t1++t2,?_⟩;rw[kz,h2,U,uS]
theorem Wn{hs:List Hold}:∀{r l:List Nat}{x:Nat},x∈r.foldl (fun m o=>(leadBy hs (some o)).foldl put m) l↔x∈l∨∃o∈r,x∈leadBy hs (some o)
 | [],l,x=>by simp
 |a::r,l,x=>by
  rw[kz,Wn,F1];constructor
  .rintro ((h|h)|⟨o,ho,h⟩)
   .exact .inl h
   .exact .inr ⟨a,by simp,h⟩
   .exact .inr ⟨o,by simp[ho],h⟩
  .rintro (h|⟨o,ho,h⟩)
   .exact .inl (.inl h)
   .rcases f6.mp ho with rfl|ho
    .exact .inl (.inr h)
    .exact .inr ⟨o,ho,h⟩
theorem Wo{hs:List Hold}:∀{r l:List Nat},l.Nodup->(r.foldl (fun m o=>(leadBy hs (some o)).foldl put m) l).Nodup
 | [],_,h=>h
 |_::r,_,h=>Wo (r:=r) (Oc h)
theorem Od{hs:List Hold}:∀(r l:List Nat),∃t,r.foldl (fun m o=>(leadBy hs (some o)).foldl put m) l=l++t
 | [],l=>⟨[],by simp⟩
 |a::r,l=>by
  obtain ⟨t1,U⟩:=Wm (leadBy hs (some a)) l;obtain ⟨t2,h2⟩:=Od (hs:=hs) r ((leadBy hs (some a)).foldl put l);refine ⟨t1++t2,?_⟩;rw[kz,h2,U,uS]
theorem JH{hs:List Hold}{l:List Nat}{x:Nat}:x∈pY hs l↔x∈l∨∃o∈l,x∈leadBy hs (some o):=Wn
theorem ahU{hs:List Hold}{l:List Nat}(h:(pY hs l).length=l.length):pY hs l=l:=by
 obtain ⟨t,ht⟩:=Od (hs:=hs) l l;have e:pY hs l=l++t:=ht;rw[e]at h ⊢;have:t=[]:=by
  rw[gR]at h;exact Jm.mp (by omega)
 rw[this,nZ]
theorem Wq{hs:List Hold}{l:List Nat}:l.length<=(pY hs l).length:=by
 obtain ⟨t,ht⟩:=Od (hs:=hs) l l;have e:pY hs l=l++t:=ht;rw[e,gR];omega
theorem DG{hs:List Hold}{o:Option Nat}{x:Nat}:x∈leadBy hs o↔∃h∈hs,h.src=o/\h.to=x:=by
 unfold leadBy;simp only[js,gT,beq_iff_eq];constructor
 .rintro ⟨h,⟨U,h2⟩,h3⟩;exact ⟨h,U,h2,h3⟩
 .rintro ⟨h,U,h2,h3⟩;exact ⟨h,⟨U,h2⟩,h3⟩
inductive ub(hs:List Hold):Nat->Nat->Prop
 |root {k:Nat} {h:Hold}:h∈hs->h.src=none->ub hs (k+1) h.to
 |step {k o:Nat} {h:Hold}:h∈hs->h.src=some o->ub hs k o->ub hs (k+1) h.to
inductive zW(hs:List Hold):Nat->Prop
 |root {h:Hold}:h∈hs->h.src=none->zW hs h.to
 |step {o:Nat} {h:Hold}:h∈hs->h.src=some o->zW hs o->zW hs h.to
theorem ub.mono{hs:List Hold}{k o:Nat}(h:ub hs k o):∀{j:Nat},k<=j->ub hs j o:=by
 induction h with
 | @root k h U h2=>
  intro j hj;obtain ⟨i,rfl⟩:∃i,j=i+1:=⟨j-1,by omega⟩;exact .root U h2
 | @step k o h U h2 _ ih=>
  intro j hj;obtain ⟨i,rfl⟩:∃i,j=i+1:=⟨j-1,by omega⟩;exact .step U h2 (ih (by omega))
theorem ub.live{hs:List Hold}{k o:Nat}(h:ub hs k o):zW hs o:=by
 induction h with
 |root U h2=>exact .root U h2
 |step U h2 _ ih=>exact .step U h2 ih
theorem zX:∀{N:Nat}{l:List Nat},l.Nodup->(∀x∈l,x<N)->l.length<=N
 |0,l,_,hl=>by
  cases l with
  |nil=>exact dR _
  |cons a r=>exact absurd (hl a (by simp)) (by omega)
 |N+1,l,h,hl=>by
  have U:(l.erase N).Nodup:=h.erase N;have h2:∀x∈l.erase N,x<N:=by
   intro x hx;have:=(List.Nodup.mem_erase_iff h).mp hx;have:=hl x this.2;omega
  have h3:=zX U h2;have h4:l.length<=(l.erase N).length+1:=by
   rw[List.length_erase]
   split<;>omega
  omega
structure Good(hs:List Hold)(N:Nat)(l:List Nat):Prop where
 nd:l.Nodup
 lt:∀x∈l,x<N
 lv:∀x∈l,ub hs l.length x
 rt:∀h∈hs,h.src=none->h.to∈l
theorem Good.round{hs:List Hold}{N:Nat}{l:List Nat}(hN:∀h∈hs,h.to<N)(g:Good hs N l)(q:¬(pY hs l).length=l.length):Good hs N (pY hs l):=by
 have ql:=Wq (hs:=hs) (l:=l);refine ⟨Wo g.nd,?_,?_,?_⟩
 .intro x hx;rcases JH.mp hx with h|⟨o,ho,h⟩
  .exact g.lt x h
  .obtain ⟨k,U,h2,rfl⟩:=DG.mp h;exact hN k U
 .intro x hx;rcases JH.mp hx with h|⟨o,ho,h⟩
  .exact (g.lv x h).mono ql
  .obtain ⟨k,U,h2,rfl⟩:=DG.mp h;exact (ub.step U h2 (g.lv o ho)).mono (by omega)
 .intro h U h2;exact JH.mpr (.inl (g.rt h U h2))
theorem Ws{hs:List Hold}{N:Nat}(hN:∀h∈hs,h.to<N):∀(n:Nat)(l:List Nat),Good hs N l->Good hs N (byIn hs n l)/\(pY hs (byIn hs n l)=byIn hs n l∨l.length+n<=(byIn hs n l).length)
 |0,l,g=>⟨g,.inr (by show l.length+0<=l.length;omega)⟩
 |n+1,l,g=>by
  show Good hs N (if ((pY hs l).length==l.length)=true then l else byIn hs n (pY hs l))/\_;by_cases q:(pY hs l).length=l.length
  .have e:byIn hs (n+1) l=l:=by
    show (if ((pY hs l).length==l.length)=true then l else byIn hs n (pY hs l))=l;rw[if_pos (by simpa using q)]
   rw[e];rw[if_pos (by simpa using q)];exact ⟨g,.inl (ahU q)⟩
  .have e:byIn hs (n+1) l=byIn hs n (pY hs l):=by
    show (if ((pY hs l).length==l.length)=true then l else byIn hs n (pY hs l))=_;rw[if_neg (by simpa using q)]
   rw[e,if_neg (by simpa using q)];obtain ⟨a,b⟩:=Ws hN n (pY hs l) (g.round hN q);refine ⟨a,?_⟩;rcases b with b|b
   .exact .inl b
   .have:=Wq (hs:=hs) (l:=l);exact .inr (by omega)
theorem ahV{hs:List Hold}{N:Nat}(hN:∀h∈hs,h.to<N):Good hs N ((leadBy hs none).foldl put []):=by
 refine ⟨Oc Bu,?_,?_,?_⟩
 .intro x hx;rcases F1.mp hx with h|h
  .simp at h
  .obtain ⟨k,U,h2,rfl⟩:=DG.mp h;exact hN k U
 .intro x hx;have Oe:0<((leadBy hs none).foldl put []).length:=List.length_pos_of_mem hx;rcases F1.mp hx with h|h
  .simp at h
  .obtain ⟨k,U,h2,rfl⟩:=DG.mp h;exact (ub.root (k:=0) U h2).mono (by omega)
 .intro h U h2;exact F1.mpr (.inr (DG.mpr ⟨h,U,h2,rfl⟩))
theorem Wt{hs:List Hold}{N:Nat}(hN:∀h∈hs,h.to<N):Good hs N (byIn hs N ((leadBy hs none).foldl put []))/\pY hs (byIn hs N ((leadBy hs none).foldl put []))=byIn hs N ((leadBy hs none).foldl put []):=by
 have g0:=ahV hN;obtain ⟨a,b⟩:=Ws hN N _ g0;refine ⟨a,?_⟩;rcases b with b|b
 .exact b
 .have U:=zX a.nd a.lt;cases e:(leadBy hs none).foldl put [] with
  |nil=>
   have:∀n,byIn hs n []=[]:=by
    intro n;cases n with
    |zero=>rfl
    |succ n=>rfl
   rw[this];rfl
  |cons y r=>
   rw[e]at b;rw[e]at U;simp at b;omega
theorem Wu{hs:List Hold}{N:Nat}(hN:∀h∈hs,h.to<N){o:Nat}:o∈byIn hs N ((leadBy hs none).foldl put [])↔zW hs o:=by
 obtain ⟨a,b⟩:=Wt hN;constructor
 .intro h;exact (a.lv o h).live
 .intro h
  induction h with
  |root U h2=>exact a.rt _ U h2
  | @step o h U h2 _ ih=>
   rw[<-b];exact JH.mpr (.inr ⟨o,ih,DG.mpr ⟨h,U,h2,rfl⟩⟩)
theorem zW.inK{hs:List Hold}{N:Nat}(hN:∀h∈hs,h.to<N){o:Nat}(h:zW hs o):ub hs N o:=by
 obtain ⟨a,_⟩:=Wt hN;have:=(Wu hN).mpr h;exact (a.lv o this).mono (zX a.nd a.lt)
inductive hX(g:bp)(out cut:List Nat):Nat->Prop
 |root {i:Nat} {h:Hold}:(bh g)[i]? =some h->i∉cut->h.to∉out->h.src=none->hX g out cut h.to
 |step {i o:Nat} {h:Hold}:(bh g)[i]? =some h->i∉cut->h.to∉out->h.src=some o->hX g out cut o->hX g out cut h.to
theorem hX.Wv{g:bp}{out cut:List Nat}{o:Nat}(h:hX g out cut o):o∉out:=by
 cases h<;>assumption
theorem BH{g:bp}{out cut:List Nat}{h:Hold}:h∈holdsLeft g out cut↔∃i,(bh g)[i]? =some h/\i∉cut/\h.to∉out/\∀o,h.src=some o->o∉out:=by
 unfold holdsLeft;simp only[js,gT,Prod.exists,pz];constructor
 .rintro ⟨k,i,⟨U,h2⟩,rfl⟩;simp only[jN,rh,Bv,decide_eq_false_iff_not]at h2;refine ⟨i,U,h2.1.1,h2.1.2,?_⟩;intro o ho;have:=h2.2;rw[ho]at this
  simpa using this
 .rintro ⟨i,U,h2,h3,h4⟩;refine ⟨h,i,⟨U,?_⟩,rfl⟩;simp only[jN,rh,Bv,decide_eq_false_iff_not];refine ⟨⟨h2,h3⟩,?_⟩;cases e:h.src with
  |none=>rfl
  |some o=>simpa using h4 o e
theorem Of{g:bp}{out cut:List Nat}{o:Nat}:zW (holdsLeft g out cut) o↔hX g out cut o:=by
 constructor
 .intro h
  induction h with
  |root U h2=>
   obtain ⟨i,a,b,c,_⟩:=BH.mp U;exact .root a b c h2
  |step U h2 _ ih=>
   obtain ⟨i,a,b,c,_⟩:=BH.mp U;exact .step a b c h2 ih
 .intro h
  induction h with
  |root a b c h2=>
   refine .root (BH.mpr ⟨_,a,b,c,?_⟩) h2;intro o ho;rw[h2]at ho;cases ho
  |step a b c h2 hl ih=>
   refine .step (BH.mpr ⟨_,a,b,c,?_⟩) h2 ih;intro o ho;rw[h2]at ho;cases ho;exact hl.Wv
structure iF(g:bp):Prop where
 uX:∀h∈bh g,h.to<g.objs.length
 Ww:∀h∈bh g,∀o,h.src=some o->o<g.objs.length
theorem hX.lt{g:bp}(ok:iF g){out cut:List Nat}{o:Nat}(h:hX g out cut o):o<g.objs.length:=by
 cases h with
 |root a=>exact ok.uX _ (iy a)
 |step a=>exact ok.uX _ (iy a)
theorem Wx{g:bp}(ok:iF g){out cut:List Nat}:∀h∈holdsLeft g out cut,h.to<g.objs.length:=by
 intro h hh;obtain ⟨i,a,_⟩:=BH.mp hh;exact ok.uX _ (iy a)
theorem JI{g:bp}(ok:iF g){out cut:List Nat}{o:Nat}:o∈liveWithout g out cut↔hX g out cut o:=by
 rw[<-Of];exact Wu (Wx ok)
theorem tj{g:bp}(ok:iF g){out cut:List Nat}{o:Nat}:o∈Vasnpb.alive g out cut↔hX g out cut o:=by
 show o∈(jO g.objs.length).filter (fun o=>(liveWithout g out cut).contains o)↔_;rw[gT,NM,Bv,decide_eq_true_iff,JI ok];exact ⟨fun h=>h.2,fun h=>⟨h.lt ok,h⟩⟩
theorem hX.mono{g:bp}{out cut Wy Wz:List Nat}{o:Nat}(h:hX g out cut o)(ho:∀x∈Wy,x∈out)(hc:∀x∈Wz,x∈cut):hX g Wy Wz o:=by
 induction h with
 |root a b c d=>exact .root a (fun q=>b (hc _ q)) (fun q=>c (ho _ q)) d
 |step a b c d _ ih=>exact .step a (fun q=>b (hc _ q)) (fun q=>c (ho _ q)) d ih
theorem hX.plain{g:bp}{out cut:List Nat}{o:Nat}(h:hX g out cut o):hX g [] [] o:=
 h.mono (fun _ q=>by cases q) (fun _ q=>by cases q)
theorem Og{g:bp}(ok:iF g){out cut:List Nat}{o:Nat}:o∈Vasnpb.gone g out cut↔hX g [] [] o/\¬hX g out cut o:=by
 show o∈(Vasnpb.alive g [] []).filter (fun o=>!(liveWithout g out cut).contains o)↔_;rw[gT,tj ok];simp only[Bv,rh,decide_eq_false_iff_not,JI ok]
end WK
namespace WK
open Vasnpa (Graph Hold holdsOf holdsLeft liveWithout sizeOf put leadBy byRound byIn)
open Vasnpb (Mask both liveHolds keepRound keepIn keepTable keptBy alive objects)
def rounds(g:bp)(hs:List (Hold×Nat)):Nat->List Mask->List Mask
 |0,t=>t
 |n+1,t=>rounds g hs n (keepRound g hs t)
theorem WA{g:bp}{hs:List (Hold×Nat)}{t:List Mask}(h:keepRound g hs t=t):∀n,rounds g hs n t=t
 |0=>rfl
 |n+1=>by
  show rounds g hs n (keepRound g hs t)=t;rw[h,WA h n]
theorem WB{g:bp}{hs:List (Hold×Nat)}:∀(n:Nat)(t:List Mask),keepIn g hs n t=rounds g hs n t
 |0,_=>rfl
 |n+1,t=>by
  show (if (keepRound g hs t==t)=true then t else keepIn g hs n (keepRound g hs t))=rounds g hs n (keepRound g hs t);by_cases q:keepRound g hs t=t
  .rw[if_pos (by simpa using q),q,WA q]
  .rw[if_neg (by simpa using q),WB n]
theorem ahX(a b:Mask)(x:Nat):(both a b).getD x false=(a.getD x false&&b.getD x false):=by
 unfold both;simp only[lT,List.getElem?_zipWith];cases a[x]? with
 |none=>simp
 |some u=>
  cases b[x]? with
  |none=>simp
  |some v=>simp
structure Tab(N:Nat)(t:List Mask):Prop where
 len:t.length=N
 each:∀m∈t,m.length=N
theorem Tab.get{N:Nat}{t:List Mask}(h:Tab N t){o:Nat}(ho:o<N):(t.getD o []).length=N:=by
 rw[lT,iN (by rw[h.len];exact ho)];exact h.each _ (Bw _)
def vO(N:Nat)(t:List Mask)(h:Hold×Nat):Mask:=match h.1.src with
 |none=>oV N false
 |some o=>t.getD o []
theorem WC{N:Nat}{t:List Mask}:∀(ks:List (Hold×Nat))(m:Mask)(x:Nat),(ks.foldl (fun m h=>both m (vO N t h)) m).getD x false=(m.getD x false&&ks.all fun h=>(vO N t h).getD x false)
 | [],m,x=>by simp
 |k::ks,m,x=>by
  rw[kz,WC,ahX,zN,Bool.and_assoc]
theorem Oh{N:Nat}{t:List Mask}:∀(ks:List (Hold×Nat))(m:Mask),m.length=N->(∀h∈ks,(vO N t h).length=N)->(ks.foldl (fun m h=>both m (vO N t h)) m).length=N
 | [],m,h,_=>h
 |k::ks,m,h,hk=>by
  rw[kz];apply Oh
  .unfold both;rw[List.length_zipWith,h,hk k (by simp)];omega
  .intro j hj;exact hk j (by simp[hj])
def row(g:bp)(hs:List (Hold×Nat))(t:List Mask)(y:Nat):Mask:=
 ((hs.filter fun h=>h.1.to==y).foldl (fun m h=>both m (vO g.objs.length t h)) (oV g.objs.length true)).set y true
theorem WE(g:bp)(hs:List (Hold×Nat))(t:List Mask):keepRound g hs t=(objects g).map (row g hs t):=by
 unfold keepRound row vO;rfl
def F2(N:Nat)(hs:List (Hold×Nat)):Prop:=∀h∈hs,∀o,h.1.src=some o->o<N
theorem WG{N:Nat}{t:List Mask}(ht:Tab N t){hs:List (Hold×Nat)}(hl:F2 N hs):∀h∈hs,(vO N t h).length=N:=by
 intro h hh;unfold vO;cases e:h.1.src with
 |none=>simp
 |some o=>exact ht.get (hl h hh o e)
theorem ahY{g:bp}{hs:List (Hold×Nat)}{t:List Mask}(ht:Tab g.objs.length t)(hl:F2 g.objs.length hs)(y:Nat):(row g hs t y).length=g.objs.length:=by
 unfold row;rw[yn];apply Oh _ _ (by simp);intro h hh;exact WG ht hl h (gT.mp hh).1
theorem Tab.next{g:bp}{hs:List (Hold×Nat)}{t:List Mask}(ht:Tab g.objs.length t)(hl:F2 g.objs.length hs):Tab g.objs.length (keepRound g hs t):=by
 rw[WE];refine ⟨by simp[objects],?_⟩;intro m hm;obtain ⟨y,_,rfl⟩:=js.mp hm;exact ahY ht hl y
theorem Oi{g:bp}{hs:List (Hold×Nat)}{t:List Mask}(ht:Tab g.objs.length t)(hl:F2 g.objs.length hs){x y:Nat}(hx:x<g.objs.length)(hy:y<g.objs.length):
  keptBy (keepRound g hs t) x y=true↔x=y∨∀h∈hs,h.1.to=y->∃o,h.1.src=some o/\keptBy t x o=true:=by
 have e1:(keepRound g hs t).getD y []=row g hs t y:=by
  rw[WE,lT,gp];simp[objects,hy]
 unfold keptBy;rw[e1];have hlen:((hs.filter fun h=>h.1.to==y).foldl (fun m h=>both m (vO g.objs.length t h)) (oV g.objs.length true)).length=g.objs.length:=by
  apply Oh _ _ (by simp);intro h hh;exact WG ht hl h (gT.mp hh).1
 by_cases q:x=y
 .subst q;simp only[true_or,iff_true];unfold row;rw[lT,Jn (by rw[hlen];exact hx)];rfl
 .unfold row;rw[lT,Jo (fun z=>q z.symm),<-lT,WC];have e2:(oV g.objs.length true).getD x false=true:=by
   rw[lT];simp[hx]
  rw[e2,agu,tZ];constructor
  .intro h;refine .inr ?_;intro k hk DH;have:=h k (gT.mpr ⟨hk,by simpa using DH⟩);unfold vO at this;cases e:k.1.src with
   |none=>
    rw[e]at this;simp[hx]at this
   |some o=>
    rw[e]at this;exact ⟨o,rfl,this⟩
  .rintro (h|h)
   .exact absurd h q
   .intro k hk;obtain ⟨U,h2⟩:=gT.mp hk;obtain ⟨o,ho,h3⟩:=h k U (by simpa using h2);unfold vO;rw[ho];exact h3
theorem xg{g:bp}(ok:iF g){h:Hold×Nat}:h∈nF g↔(bh g)[h.2]? =some h.1/\∀o,h.1.src=some o->hX g [] [] o:=by
 obtain ⟨h,i⟩:=h;unfold nF;simp only[gT,pz];constructor
 .rintro ⟨U,h2⟩;refine ⟨U,?_⟩;intro o ho;rw[ho]at h2;rw[<-tj ok]
  simpa using h2
 .rintro ⟨U,h2⟩;refine ⟨U,?_⟩;cases e:h.src with
  |none=>rfl
  |some o=>
   have:=(tj ok).mpr (h2 o e)
   simpa using this
theorem F3{g:bp}(ok:iF g):F2 g.objs.length (nF g):=by
 intro h hh o ho;exact ok.Ww _ (iy ((xg ok).mp hh).1) o ho
theorem ahZ{g:bp}(ok:iF g){h:Hold×Nat}(hh:h∈nF g):hX g [] [] h.1.to:=by
 obtain ⟨a,b⟩:=(xg ok).mp hh;cases e:h.1.src with
 |none=>exact .root a (by simp) (by simp) e
 |some o=>exact .step a (by simp) (by simp) e (b o e)
def allTrue(N:Nat):List Mask:=oV N (oV N true)
theorem Oj(N:Nat):Tab N (allTrue N):=by
 refine ⟨by simp[allTrue],?_⟩;intro m hm;rw[List.eq_of_mem_replicate hm];simp
def Keeps(g:bp)(x y:Nat):Prop:=hX g [] [] y/\¬hX g [x] [] y
theorem WH{g:bp}(ok:iF g){x:Nat}(hx:x<g.objs.length):∀(n:Nat)(t:List Mask),Tab g.objs.length t->(∀y,Keeps g x y->keptBy t x y=true)->∀y,Keeps g x y->keptBy (rounds g (nF g) n t) x y=true
 |0,_,_,h=>h
 |n+1,t,ht,h=>by
  apply WH ok hx n (keepRound g (nF g) t) (ht.next (F3 ok));intro y hy;rw[Oi ht (F3 ok) hx (hy.1.lt ok)];by_cases q:x=y
  .exact .inl q
  .refine .inr ?_;intro k hk DH;obtain ⟨a,b⟩:=(xg ok).mp hk;cases e:k.1.src with
   |none=>
    exfalso
    apply hy.2;rw[<-DH];exact .root a (by simp) (by simp;rw[DH];exact fun z=>q z.symm) e
   |some o=>
    refine ⟨o,rfl,h o ⟨b o e,?_⟩⟩;intro hl;apply hy.2;rw[<-DH];exact .step a (by simp) (by simp;rw[DH];exact fun z=>q z.symm) e hl
theorem Ol{g:bp}(ok:iF g){x:Nat}(hx:x<g.objs.length):∀(n:Nat)(t:List Mask),Tab g.objs.length t->Tab g.objs.length (rounds g (nF g) n t)
 |0,_,h=>h
 |n+1,t,h=>Ol ok hx n _ (h.next (F3 ok))
theorem Om{g:bp}{hs:List (Hold×Nat)}:∀(n:Nat)(t:List Mask),rounds g hs (n+1) t=keepRound g hs (rounds g hs n t)
 |0,_=>rfl
 |n+1,t=>by
  show rounds g hs (n+1) (keepRound g hs t)=keepRound g hs (rounds g hs n (keepRound g hs t));exact Om n _
theorem ah0{g:bp}(ok:iF g){x:Nat}(hx:x<g.objs.length){k y:Nat}(h:ub (holdsLeft g [x] []) k y):¬keptBy (rounds g (nF g) k (allTrue g.objs.length)) x y=true:=by
 induction h with
 | @root k h U h2=>
  obtain ⟨i,a,b,c,d⟩:=BH.mp U;rw[Om];intro z;have tk:=Ol ok hx k _ (Oj g.objs.length);rcases (Oi tk (F3 ok) hx (ok.uX _ (iy a))).mp z with z|z
  .rw[z]at c;simp at c
  .obtain ⟨o,ho,_⟩:=z (h,i) ((xg ok).mpr ⟨a,fun o ho=>by rw[h2]at ho;cases ho⟩) rfl;rw[h2]at ho;cases ho
 | @step k o h U h2 hl ih=>
  obtain ⟨i,a,b,c,d⟩:=BH.mp U;rw[Om];intro z;have tk:=Ol ok hx k _ (Oj g.objs.length);rcases (Oi tk (F3 ok) hx (ok.uX _ (iy a))).mp z with z|z
  .rw[z]at c;simp at c
  .obtain ⟨o',ho,h3⟩:=z (h,i) ((xg ok).mpr ⟨a,fun o' p8=>by
    have:h.src=some o':=p8;rw[h2]at this;cases this;exact (Of.mp hl.live).plain⟩) rfl
   rw[h2]at ho;cases ho;exact ih h3
theorem F4{g:bp}(ok:iF g){x y:Nat}(hx:x<g.objs.length)(hy:hX g [] [] y):keptBy (fE g) x y=true↔¬hX g [x] [] y:=by
 have e:fE g=rounds g (nF g) g.objs.length (allTrue g.objs.length):=WB _ _;rw[e];constructor
 .intro h hl;exact ah0 ok hx ((Of.mpr hl).inK (Wx ok)) h
 .intro h;refine WH ok hx _ _ (Oj _) ?_ y ⟨hy,h⟩;intro z hz;have:=hz.1.lt ok;unfold keptBy allTrue;simp[lT,hx,this]
theorem ah1{g:bp}{x y:Nat}(hx:¬hX g [] [] x)(hy:hX g [] [] y):hX g [x] [] y:=by
 induction hy with
 | @root i h a b c d=>
  refine .root a b ?_ d;intro z;simp at z;rw[<-z]at hx;exact hx (.root a b c d)
 | @step i o h a b c d hl ih=>
  refine .step a b ?_ d ih;intro z;simp at z;rw[<-z]at hx;exact hx (.step a b c d hl)
theorem ah2{g:bp}{x:Nat}{cut:List Nat}:¬hX g [x] cut x:=fun h=>h.Wv (by simp)
end WK
namespace WK
open Vasnpa (Graph Hold holdsOf holdsLeft liveWithout sizeOf)
open Vasnpb (Mask liveHolds keepTable keptBy alive objects gone kept freed keepersIn depthIn chainIn keeperIn weight putBySize sizes frees Best better best)
theorem Oo{g:bp}(ok:iF g){out cut:List Nat}{p:Nat->Bool}(h:∀y,hX g [] [] y->(p y=true↔¬hX g out cut y)):gone g out cut=(alive g [] []).filter p:=by
 show (alive g [] []).filter (fun o=>!(liveWithout g out cut).contains o)=_;apply qC;intro y hy;have hl:=(tj ok).mp hy;rw[n4,h y hl];simp only[Bv,rh,decide_eq_false_iff_not,JI ok]
theorem ah3{g:bp}(ok:iF g){x:Nat}(hx:x<g.objs.length):kept g [x]=(alive g [] []).filter fun y=>keptBy (fE g) x y:=
 Oo ok fun _ hy=>F4 ok hx hy
theorem ah4{g:bp}(ok:iF g){x:Nat}(hx:x<g.objs.length):weight g (fE g) (alive g [] []) x=sizeOf g (kept g [x]):=by
 unfold weight;rw[ah3 ok hx]
theorem ah5{g:bp}{i:Nat}{h:Hold}(hi:(bh g)[i]? =some h)(hl:hX g [] [i] h.to){y:Nat}(hy:hX g [] [] y):hX g [] [i] y:=by
 induction hy with
 | @root j k a b c d=>
  by_cases q:j=i
  .subst q;rw[hi]at a;cases a;exact hl
  .exact .root a (by simpa using q) c d
 | @step j o k a b c d _ ih=>
  by_cases q:j=i
  .subst q;rw[hi]at a;cases a;exact hl
  .exact .step a (by simpa using q) c d ih
theorem WI{g:bp}{i:Nat}{h:Hold}(hi:(bh g)[i]? =some h)(hl:¬hX g [] [i] h.to){y:Nat}:hX g [] [i] y↔hX g [h.to] [] y:=by
 constructor
 .intro hy
  induction hy with
  | @root j k a b c d=>
   refine .root a (by simp) ?_ d;intro z;simp at z;rw[<-z]at hl;exact hl (.root a b c d)
  | @step j o k a b c d e ih=>
   refine .step a (by simp) ?_ d ih;intro z;simp at z;rw[<-z]at hl;exact hl (.step a b c d e)
 .intro hy
  induction hy with
  | @root j k a b c d=>
   refine .root a ?_ (by simp) d;intro z;simp at z;subst z;rw[hi]at a;cases a;simp at c
  | @step j o k a b c d e ih=>
   refine .step a ?_ (by simp) d ih;intro z;simp at z;subst z;rw[hi]at a;cases a;simp at c
theorem ah6{g:bp}{i:Nat}{h:Hold}{o:Nat}(hi:(bh g)[i]? =some h)(hs:h.src=some o)(ho:¬hX g [] [] o){y:Nat}(hy:hX g [] [] y):hX g [] [i] y:=by
 induction hy with
 | @root j k a b c d=>
  refine .root a ?_ c d;intro z;simp at z;subst z;rw[hi]at a;cases a;rw[hs]at d;cases d
 | @step j o' k a b c d e ih=>
  refine .step a ?_ c d ih;intro z;simp at z;subst z;rw[hi]at a;cases a;rw[hs]at d;cases d;exact ho e
theorem ah7{g:bp}{i v:Nat}{y:Nat}(hy:hX g [] [i] y):hX g [v] [i] y∨∃j k,(bh g)[j]? =some k/\j≠i/\k.to=v/\∀o,k.src=some o->hX g [v] [i] o:=by
 induction hy with
 | @root j k a b c d=>
  by_cases q:k.to=v
  .exact .inr ⟨j,k,a,by simpa using b,q,fun o ho=>by rw[d]at ho;cases ho⟩
  .exact .inl (.root a b (by simpa using q) d)
 | @step j o k a b c d e ih=>
  rcases ih with ih|ih
  .by_cases q:k.to=v
   .refine .inr ⟨j,k,a,by simpa using b,q,fun o' ho=>?_⟩;rw[d]at ho;cases ho;exact ih
   .exact .inl (.step a b (by simpa using q) d ih)
  .exact .inr ih
theorem WJ{g:bp}(ok:iF g){h:Hold×Nat}(hh:h∈nF g):frees (fE g) (nF g) h=true↔¬hX g [] [h.2] h.1.to:=by
 obtain ⟨hi,WL⟩:=(xg ok).mp hh;unfold frees;rw[tZ];constructor
 .intro H hl;rcases ah7 (v:=h.1.to) hl with q|⟨j,k,a,b,c,d⟩
  .exact ah2 q
  .have hk:(k,j)∈nF g:=(xg ok).mpr ⟨a,fun o ho=>(d o ho).plain⟩;have:=H (k,j) hk;simp only[FK,beq_iff_eq,bne_iff_ne,ne_eq,b,c,false_or,not_true]at this;cases e:k.src with
   |none=>
    rw[e]at this;simp at this
   |some o=>
    rw[e]at this;have h2:keptBy (fE g) h.1.to o=true:=this;rw[F4 ok (ok.uX _ (iy hi)) (d o e).plain]at h2;exact h2 ((d o e).mono (fun _ z=>z) (fun _ z=>by cases z))
 .intro H k hk;obtain ⟨ki,ah8⟩:=(xg ok).mp hk;simp only[FK,beq_iff_eq,bne_iff_ne,ne_eq];by_cases q1:k.2=h.2
  .exact .inl (.inl q1)
  .by_cases q2:k.1.to=h.1.to
   .refine .inr ?_;cases e:k.1.src with
    |none=>
     exfalso
     apply H;rw[<-q2];exact .root ki (by simpa using q1) (by simp) e
    |some o=>
     show keptBy (fE g) h.1.to o=true;rw[F4 ok (ok.uX _ (iy hi)) (ah8 o e)];intro z;apply H;rw[<-q2];exact .step ki (by simpa using q1) (by simp) e ((WI hi H).mpr z)
   .exact .inl (.inr q2)
theorem WN{g:bp}(ok:iF g){h:Hold×Nat}(hi:(bh g)[h.2]? =some h.1):freed g [h.2]≠[]↔h∈nF g/\¬hX g [] [h.2] h.1.to:=by
 constructor
 .intro H;obtain ⟨y,hy⟩:=List.exists_mem_of_ne_nil _ H;obtain ⟨U,h2⟩:=(Og ok).mp hy;refine ⟨(xg ok).mpr ⟨hi,fun o ho=>?_⟩,fun hl=>h2 (ah5 hi hl U)⟩;rcases VB (hX g [] [] o) with q|q
  .exact q
  .exact absurd (ah6 hi ho q U) h2
 .rintro ⟨a,b⟩;apply List.ne_nil_of_mem (a:=h.1.to);exact (Og ok).mpr ⟨ahZ ok a,b⟩
theorem ah9{g:bp}(ok:iF g){h:Hold×Nat}(hi:(bh g)[h.2]? =some h.1)(hl:¬hX g [] [h.2] h.1.to):freed g [h.2]=(alive g [] []).filter fun y=>keptBy (fE g) h.1.to y:=by
 refine Oo ok fun y hy=>?_;rw[F4 ok (ok.uX _ (iy hi)) hy,WI hi hl]
def zY(m:Option Best)(x:Best):Option Best:=match m with
 |none=>some x
 |some b=>if better x b then some x else some b
theorem aia{g:bp}(ok:iF g):(nF g).filter (frees (fE g) (nF g))=(bh g).zipIdx.filter fun h=>!(freed g [h.2]).isEmpty:=by
 have e0:∀h∈(bh g).zipIdx,(bh g)[h.2]? =some h.1:=by
  intro h hh;exact pz.mp hh
 have e1:nF g=(bh g).zipIdx.filter fun h=>decide (h∈nF g):=by
  conv=>lhs;unfold nF
  apply qC;intro h hh;rw[n4,decide_eq_true_iff,xg ok];constructor
  .intro z;refine ⟨e0 h hh,?_⟩;intro o ho;rw[ho]at z;rw[<-tj ok]
   simpa using z
  .rintro ⟨_,z⟩;cases e:h.1.src with
   |none=>rfl
   |some o=>
    have:=(tj ok).mpr (z o e)
    simpa using this
 have e2:(nF g).filter (frees (fE g) (nF g))=((bh g).zipIdx.filter fun h=>decide (h∈nF g)).filter (frees (fE g) (nF g)):=by
  conv=>lhs;rw[e1]
  rw[<-e1]
 rw[e2,w8];apply qC;intro h hh;have hi:=e0 h hh;rw[n4,jN,decide_eq_true_iff];have:(!(freed g [h.2]).isEmpty)=true↔freed g [h.2]≠[]:=by simp
 rw[this,WN ok hi];constructor
 .rintro ⟨a,b⟩;exact ⟨b,(WJ ok b).mp a⟩
 .rintro ⟨a,b⟩;exact ⟨(WJ ok a).mpr b,a⟩
theorem aib{g:bp}(ok:iF g):best g=((bh g).zipIdx.filter fun h=>!(freed g [h.2]).isEmpty).foldl (fun m h=>zY m {hold:=h.2,size:=sizeOf g (freed g [h.2]),count:=(freed g [h.2]).length}) none:=by
 show ((nF g).filter (frees (fE g) (nF g))).foldl (fun m h=>zY m {hold:=h.2,size:=weight g (fE g) (alive g [] []) h.1.to,count:=((alive g [] []).filter fun y=>keptBy (fE g) h.1.to y).length}) none=_;rw[aia ok];have key:∀h∈(bh g).zipIdx.filter (fun h=>!(freed g [h.2]).isEmpty),({hold:=h.2,size:=weight g (fE g) (alive g [] []) h.1.to,count:=((alive g [] []).filter fun y=>keptBy (fE g) h.1.to y).length}:Best)={hold:=h.2,size:=sizeOf g (freed g [h.2]),count:=(freed g [h.2]).length}:=by
  intro h hh;obtain ⟨U,h2⟩:=gT.mp hh;have hi:(bh g)[h.2]? =some h.1:=pz.mp U;have hn:freed g [h.2]≠[]:=by simpa using h2
  have e:=ah9 ok hi ((WN ok hi).mp hn).2;unfold weight;rw[<-e]
 revert key
 generalize (bh g).zipIdx.filter (fun h=>!(freed g [h.2]).isEmpty)=L;intro key;generalize (none:Option Best)=m
 induction L generalizing m with
 |nil=>rfl
 |cons a L ih=>
  rw[kz,kz,key a (by simp)];exact ih (fun h hh=>key h (by simp[hh])) _
theorem aic{g:bp}(ok:iF g){y:Nat}(hy:hX g [] [] y):mz g (fE g) y=(alive g [] []).filter fun x=>(kept g [x]).contains y:=by
 show (objects g).filter (fun x=>keptBy (fE g) x y)=((objects g).filter fun o=>(liveWithout g [] []).contains o).filter _;rw[w8];apply qC;intro x hx;have yu:x<g.objs.length:=NM.mp hx;rw[n4,jN,F4 ok yu hy,Bv,decide_eq_true_iff,Bv,decide_eq_true_iff,JI ok];show _↔y∈gone g [x] []/\_;rw[Og ok];constructor
 .intro h;refine ⟨⟨hy,h⟩,?_⟩;rcases VB (hX g [] [] x) with q|q
  .exact q
  .exact absurd (ah1 q hy) h
 .exact fun h=>h.1.2
def before(a b:Nat×Nat):Prop:=b.2<a.2∨a.2=b.2/\a.1<b.1
theorem Oq(x:Nat×Nat):∀l,(putBySize x l).Perm (x::l)
 | []=>.refl _
 |y::r=>by
  unfold putBySize
  split
  .exact .refl _
  .exact ((Oq x r).cons y).trans (List.Perm.swap _ _ _)
theorem WO(x:Nat×Nat):∀l,l.Pairwise before->(∀y∈l,y.1<x.1)->(putBySize x l).Pairwise before
 | [],_,_=>by simp[putBySize]
 |y::r,h,hx=>by
  unfold putBySize;obtain ⟨U,h2⟩:=Bx.mp h
  split
  .rename_i q;refine Bx.mpr ⟨?_,h⟩;intro z hz;rcases f6.mp hz with rfl|hz
   .exact .inl q
   .rcases U z hz with e|e
    .exact .inl (by omega)
    .exact .inl (by omega)
  .rename_i q;refine Bx.mpr ⟨?_,WO x r h2 fun z hz=>hx z (by simp[hz])⟩;intro z hz;rcases f6.mp ((Oq x r).mem_iff.mp hz) with rfl|hz
   .have:=hx y (by simp);unfold before;omega
   .exact U z hz
theorem WQ(w:Nat->Nat):∀(l:List Nat)(a:List (Nat×Nat)),l.Pairwise (·< ·)->(∀y∈a,∀x∈l,y.1<x)->a.Pairwise before->
  (l.foldl (fun a x=>putBySize (x,w x) a) a).Pairwise before/\(l.foldl (fun a x=>putBySize (x,w x) a) a).Perm (a++l.map fun x=>(x,w x))
 | [],a,_,_,h=>⟨h,by simp⟩
 |x::l,a,hl,hx,h=>by
  obtain ⟨U,h2⟩:=Bx.mp hl;have p:=Oq (x,w x) a;have h3:=WO (x,w x) a h (fun y hy=>hx y hy x (by simp));obtain ⟨s1,s2⟩:=WQ w l (putBySize (x,w x) a) h2 (by
   intro y hy z hz;rcases f6.mp (p.mem_iff.mp hy) with rfl|hy
   .exact U z hz
   .exact hx y hy z (by simp[hz])) h3
  refine ⟨s1,s2.trans ?_⟩;refine (p.append_right _).trans ?_;show ((x,w x)::(a++l.map fun x=>(x,w x))).Perm (a++((x,w x)::l.map fun x=>(x,w x)));exact List.perm_middle.symm
theorem DI(g:bp)(out cut:List Nat):(alive g out cut).Pairwise (·< ·):=
 List.Pairwise.filter _ VC
theorem Ot{g:bp}(ok:iF g):(sizes g).Pairwise before/\(sizes g).Perm ((alive g [] []).map fun x=>(x,sizeOf g (kept g [x]))):=by
 have:=WQ (weight g (fE g) (alive g [] [])) (alive g [] []) [] (DI g [] []) (by simp) (by simp);refine ⟨this.1,this.2.trans ?_⟩;rw[agv];have e:(alive g [] []).map (fun x=>(x,weight g (fE g) (alive g [] []) x))=(alive g [] []).map fun x=>(x,sizeOf g (kept g [x])):=by
  apply yo;intro x hx;rw[ah4 ok (((tj ok).mp hx).lt ok)]
 rw[e]
theorem aid{a b:Nat×Nat}(U:before a b)(h2:before b a):False:=by
 unfold before at U h2;omega
end WK
namespace WK
open Vasnpa (Graph Hold holdsOf)
open Vasnpb (Flow used fromPlace toPlace Step isFound seekRound seekIn seek turned fill noFlow greatest toldCut letGo needed)
open Classical
abbrev HN:=Hold×Nat
def D(hs:List HN)(u:Nat->Bool)(p:Nat->Int):Int:=(hs.map fun h=>if u h.2=true then p (bN h.1)-p (dD h.1) else 0).sum
def iQ(hs:List HN)(u:Nat->Bool)(t:Nat)(k:Int):Prop:=∀p:Nat->Int,D hs u p=k*(p 0-p t)
structure Env(N H:Nat)(hs:List HN):Prop where
 nd:(hs.map (·.2)).Nodup
 lt:∀h∈hs,h.2<H
 fr:∀h∈hs,bN h.1<N+1
 to:∀h∈hs,dD h.1<N+1
theorem Env.inj{N H:Nat}{hs:List HN}(e:Env N H hs){h k:HN}(U:h∈hs)(k1:k∈hs)(q:h.2=k.2):h=k:=by
 have:=e.nd;clear e
 induction hs with
 |nil=>cases U
 |cons a r ih=>
  rw[jx,t8]at this;rcases f6.mp U with e1|h2
  .rcases f6.mp k1 with e2|k2
   .rw[e1,e2]
   .exact absurd (js.mpr ⟨k,k2,by rw[<-q,e1]⟩) this.1
  .rcases f6.mp k1 with e2|k2
   .exact absurd (js.mpr ⟨h,h2,by rw[q,e2]⟩) this.1
   .exact ih h2 k2 this.2
theorem BI{hs:List HN}{u v:Nat->Bool}(h:∀k∈hs,u k.2=v k.2)(p:Nat->Int):D hs u p=D hs v p:=by
 unfold D;congr 1;apply yo;intro k hk;rw[h k hk]
theorem xh(h:HN)(hs:List HN)(u:Nat->Bool)(p:Nat->Int):D (h::hs) u p=(if u h.2=true then p (bN h.1)-p (dD h.1) else 0)+D hs u p:=by
 unfold D;rw[jx,yp]
theorem F5{hs:List HN}:(hs.map (·.2)).Nodup->∀{h:HN},h∈hs->∀{u v:Nat->Bool},(∀n,n≠h.2->v n=u n)->∀(p:Nat->Int),
  D hs v p=D hs u p+((if v h.2=true then 1 else 0)-(if u h.2=true then 1 else 0))*(p (bN h.1)-p (dD h.1)):=by
 induction hs with
 |nil=>intro _ h hh;cases hh
 |cons a r ih=>
  intro nd h hh u v e p;rw[jx,t8]at nd;rw[xh,xh];rcases f6.mp hh with rfl|hh
  .have:D r v p=D r u p:=BI (fun k hk=>e _ fun q=>nd.1 (js.mpr ⟨k,hk,q⟩)) p;rw[this];cases v h.2<;>cases u h.2<;>simp<;>omega
  .have ne:a.2≠h.2:=fun q=>nd.1 (js.mpr ⟨h,hh,q.symm⟩);rw[ih nd.2 hh e p,e _ ne];omega
inductive Res(hs:List HN)(u:Nat->Bool)(s:Nat):Nat->Prop
 |start:Res hs u s s
 |forth {h:HN}:h∈hs->u h.2=false->Res hs u s (bN h.1)->Res hs u s (dD h.1)
 |back {h:HN}:h∈hs->u h.2=true->Res hs u s (dD h.1)->Res hs u s (bN h.1)
structure qF(hs:List HN)(u:Nat->Bool)(S:Nat->Prop):Prop where
 forth:∀h∈hs,u h.2=false->S (bN h.1)->S (dD h.1)
 back:∀h∈hs,u h.2=true->S (dD h.1)->S (bN h.1)
theorem Res.closed(hs:List HN)(u:Nat->Bool)(s:Nat):qF hs u (Res hs u s):=
 ⟨fun _ U h2 h3=>.forth U h2 h3,fun _ U h2 h3=>.back U h2 h3⟩
theorem qF.res{hs:List HN}{u:Nat->Bool}{S:Nat->Prop}(c:qF hs u S){s:Nat}(h0:S s){p:Nat}(h:Res hs u s p):S p:=by
 induction h with
 |start=>exact h0
 |forth a b _ ih=>exact c.forth _ a b ih
 |back a b _ ih=>exact c.back _ a b ih
noncomputable def ind (S:Nat->Prop) (p:Nat):Int:=if S p then 1 else 0
noncomputable def leave (hs:List HN) (S:Nat->Prop):Int:=(hs.map fun h=>if S (bN h.1)/\¬S (dD h.1) then (1:Int) else 0).sum
theorem BJ(h:HN)(hs:List HN)(S:Nat->Prop):leave (h::hs) S=(if S (bN h.1)/\¬S (dD h.1) then (1:Int) else 0)+leave hs S:=by
 unfold leave;rw[jx,yp]
theorem Ou(S:Nat->Prop):∀hs:List HN,0<=leave hs S
 | []=>by unfold leave;simp
 |h::hs=>by
  rw[BJ];have:=Ou S hs
  split<;>omega
theorem Ov(S:Nat->Prop)(u:Nat->Bool):∀hs:List HN,D hs u (ind S)<=leave hs S
 | []=>by unfold D leave;simp
 |h::hs=>by
  rw[xh,BJ];have:=Ov S u hs;unfold ind;by_cases a:S (bN h.1)<;>by_cases b:S (dD h.1)<;>cases u h.2<;>simp[a,b]<;>unfold ind at this<;>omega
theorem WR{S:Nat->Prop}{u:Nat->Bool}:∀{hs:List HN},D hs u (ind S)=leave hs S->qF hs u S
 | [],_=>⟨fun _ h=>(NN h).elim,fun _ h=>(NN h).elim⟩
 |h::hs,e=>by
  rw[xh,BJ]at e;have l:=Ov S u hs;have key:D hs u (ind S)=leave hs S/\(u h.2=false->S (bN h.1)->S (dD h.1))/\(u h.2=true->S (dD h.1)->S (bN h.1)):=by
   unfold ind at e l ⊢;by_cases a:S (bN h.1)<;>by_cases b:S (dD h.1)<;>cases hu:u h.2<;>simp[a,b,hu]at e ⊢<;>omega
  have c:=WR key.1;refine ⟨?_,?_⟩
  .intro k hk;rcases f6.mp hk with rfl|hk
   .exact key.2.1
   .exact c.forth k hk
  .intro k hk;rcases f6.mp hk with rfl|hk
   .exact key.2.2
   .exact c.back k hk
theorem qF.eq{S:Nat->Prop}{u:Nat->Bool}:∀{hs:List HN},qF hs u S->D hs u (ind S)=leave hs S
 | [],_=>by unfold D leave;simp
 |h::hs,c=>by
  have ih:=qF.eq (hs:=hs) (u:=u) (S:=S) ⟨fun k hk=>c.forth k (by simp[hk]),fun k hk=>c.back k (by simp[hk])⟩;rw[xh,BJ,ih];have f:=c.forth h (by simp);have b:=c.back h (by simp);unfold ind;by_cases a1:S (bN h.1)<;>by_cases b1:S (dD h.1)<;>cases hu:u h.2<;>simp[a1,b1,hu]at f b ⊢
theorem zZ{S:Nat->Prop}{p:Nat}(h:S p):ind S p=1:=by unfold ind;rw[if_pos h]
theorem Aa{S:Nat->Prop}{p:Nat}(h:¬S p):ind S p=0:=by unfold ind;rw[if_neg h]
theorem JJ{hs:List HN}{u:Nat->Bool}{t:Nat}{k:Int}(f:iQ hs u t k){S:Nat->Prop}(h0:S 0)(ht:¬S t):k<=leave hs S:=by
 have e:=f (ind S);rw[zZ h0,Aa ht]at e;have:=Ov S u hs;omega
theorem JK{hs:List HN}{u:Nat->Bool}{t:Nat}{k:Int}(f:iQ hs u t k)(ht:¬Res hs u 0 t):leave hs (Res hs u 0)=k:=by
 have e:=f (ind (Res hs u 0));rw[zZ .start,Aa ht,(Res.closed hs u 0).eq]at e;omega
theorem max_le{hs:List HN}{u v:Nat->Bool}{t:Nat}{k j:Int}(f:iQ hs u t k)(ht:¬Res hs u 0 t)(f2:iQ hs v t j):j<=k:=by
 have:=JJ f2 (S:=Res hs u 0) .start ht;rw[JK f ht]at this;exact this
theorem Ow{hs:List HN}{u v:Nat->Bool}{t:Nat}{k:Int}(f:iQ hs u t k)(ht:¬Res hs u 0 t)(f2:iQ hs v t k){p:Nat}(h:Res hs v 0 p):Res hs u 0 p:=by
 have e:=f2 (ind (Res hs u 0));rw[zZ .start,Aa ht]at e;have c:qF hs v (Res hs u 0):=WR (by rw[JK f ht];omega);exact c.res .start h
theorem aie{hs:List HN}{u v:Nat->Bool}{t:Nat}{k:Int}(f:iQ hs u t k)(ht:¬Res hs u 0 t)(f2:iQ hs v t k)(p:Nat):Res hs u 0 p↔Res hs v 0 p:=by
 have ht2:¬Res hs v 0 t:=fun z=>ht (Ow f ht f2 z);exact ⟨fun h=>Ow f2 ht2 f h,fun h=>Ow f ht f2 h⟩
def first(p:Nat):Step:={place:=p,before:=p,hold:=0,forth:=true}
theorem yw{l:List Step}{p:Nat}:dY l p=true↔∃s∈l,s.place=p:=by
 unfold dY;simp
theorem BK{l r:List Step}{p:Nat}:dY (l++r) p=(dY l p||dY r p):=by
 unfold dY;simp
structure Goes(hs:List HN)(u:Nat->Bool)(s:Step)(h:HN):Prop where
 mem:h∈hs
 num:h.2=s.hold
 use:u h.2= !s.forth
 JL:s.before=if s.forth=true then bN h.1 else dD h.1
 Ab:s.place=if s.forth=true then dD h.1 else bN h.1
inductive Tree(hs:List HN)(u:Nat->Bool)(p:Nat):List Step->Prop
 |one:Tree hs u p [first p]
 |snoc {l:List Step} {s:Step} {h:HN}:Tree hs u p l->Goes hs u s h->dY l s.before=true->dY l s.place=false->Tree hs u p (l++[s])
def tm(f:Flow)(m:List Step)(h:HN):List Step:=
 if used f h then (if dY m (dD h.1)&&!dY m (bN h.1) then m++[{place:=bN h.1,before:=dD h.1,hold:=h.2,forth:=false}] else m)
 else if dY m (bN h.1)&&!dY m (dD h.1) then m++[{place:=dD h.1,before:=bN h.1,hold:=h.2,forth:=true}] else m
def uf(f:Flow)(n:Nat):Bool:=f.getD n false
theorem aih{hs:List HN}{f:Flow}{p:Nat}{l:List Step}(t:Tree hs (uf f) p l){h:HN}(hh:h∈hs):Tree hs (uf f) p (tm f l h):=by
 unfold tm
 split
 .rename_i q
  split
  .rename_i z;simp only[jN,rh]at z;exact .snoc t ⟨hh,rfl,q,rfl,rfl⟩ z.1 z.2
  .exact t
 .rename_i q
  split
  .rename_i z;simp only[jN,rh]at z;have q':uf f h.2=false:=by
    have:¬uf f h.2=true:=q
    simpa using this
   exact .snoc t ⟨hh,rfl,q',rfl,rfl⟩ z.1 z.2
  .exact t
theorem WS{hs:List HN}{f:Flow}{p:Nat}:∀{ks:List HN}{l:List Step},(∀k∈ks,k∈hs)->Tree hs (uf f) p l->Tree hs (uf f) p (ks.foldl (tm f) l)
 | [],_,_,t=>t
 |k::ks,l,h,t=>WS (ks:=ks) (fun j hj=>h j (by simp[hj])) (aih t (h k (by simp)))
theorem WT(f:Flow)(m:List Step)(h:HN):tm f m h=m∨(tm f m h).length=m.length+1:=by
 unfold tm
 split<;>split<;>simp
theorem Ox(f:Flow):∀(ks:List HN)(l:List Step),l.length<=(ks.foldl (tm f) l).length
 | [],_=>dR _
 |k::ks,l=>by
  have:=Ox f ks (tm f l k);rw[kz];rcases WT f l k with e|e
  .rw[e]at this ⊢;exact this
  .omega
theorem WU(f:Flow):∀(ks:List HN)(l:List Step),(ks.foldl (tm f) l).length=l.length->∀k∈ks,tm f l k=l
 | [],_,_,k,hk=>by cases hk
 |j::ks,l,e,k,hk=>by
  rw[kz]at e;have:=Ox f ks (tm f l j);rcases WT f l j with q|q
  .rw[q]at e;rcases f6.mp hk with rfl|hk
   .exact q
   .exact WU f ks l e k hk
  .omega
theorem aii{hs:List HN}{f:Flow}{l:List Step}(h:∀k∈hs,tm f l k=l):qF hs (uf f) (fun p=>dY l p=true):=by
 have app:∀(s:Step),¬l++[s]=l:=by
  intro s e;have:=congrArg List.length e;simp at this
 refine ⟨?_,?_⟩
 .intro k hk hu a;have:=h k hk;unfold tm at this;have q:¬used f k=true:=by
   show ¬uf f k.2=true;rw[hu];simp
  rw[if_neg q]at this;by_cases b:dY l (dD k.1)=true
  .exact b
  .rw[if_pos (by simp[a,b])]at this;exact absurd this (app _)
 .intro k hk hu a;have:=h k hk;unfold tm at this;have q:used f k=true:=hu;rw[if_pos q]at this;by_cases b:dY l (bN k.1)=true
  .exact b
  .rw[if_pos (by simp[a,b])]at this;exact absurd this (app _)
theorem Tree.res{hs:List HN}{u:Nat->Bool}{p:Nat}{l:List Step}(t:Tree hs u p l):∀{q:Nat},dY l q=true->Res hs u p q:=by
 induction t with
 |one=>
  intro q h;have:p=q:=by simpa[dY,first]using h
  subst this;exact .start
 | @snoc l s h _ g hb hp ih=>
  intro q hq;rw[BK,FK]at hq;rcases hq with hq|hq
  .exact ih hq
  .have e:s.place=q:=by simpa[dY]using hq
   subst e;have iU:=ih hb;have u1:=g.use;rw[g.Ab];rw[g.JL]at iU;cases e:s.forth with
   |true=>
    rw[e]at iU u1;simp at iU u1 ⊢;exact .forth g.mem u1 iU
   |false=>
    rw[e]at iU u1;simp at iU u1 ⊢;exact .back g.mem u1 iU
theorem Tree.start{hs:List HN}{u:Nat->Bool}{p:Nat}{l:List Step}(t:Tree hs u p l):dY l p=true:=by
 induction t with
 |one=>simp[dY,first]
 |snoc _ _ _ _ ih=>rw[BK,ih];rfl
theorem Tree.nodup{hs:List HN}{u:Nat->Bool}{p:Nat}{l:List Step}(t:Tree hs u p l):(l.map (·.place)).Nodup:=by
 induction t with
 |one=>simp
 | @snoc l s h _ g hb hp ih=>
  rw[iO,wZ];refine ⟨ih,by simp,?_⟩;intro a ha b iU e;obtain ⟨s',lq,rfl⟩:=js.mp ha;simp at iU;subst iU;have:=yw.mpr ⟨s',lq,e⟩;rw[hp]at this;cases this
theorem Tree.lt{N H:Nat}{hs:List HN}(env:Env N H hs){u:Nat->Bool}{p:Nat}(h0:p<N+1){l:List Step}(t:Tree hs u p l):∀x∈l.map (·.place),x<N+1:=by
 induction t with
 |one=>simpa[first]using h0
 | @snoc l s h _ g hb hp ih=>
  intro x hx;rw[iO,kN]at hx;rcases hx with hx|hx
  .exact ih x hx
  .simp at hx;subst hx;rw[g.Ab]
   split
   .exact env.to _ g.mem
   .exact env.fr _ g.mem
theorem Tree.len{N H:Nat}{hs:List HN}(env:Env N H hs){u:Nat->Bool}{p:Nat}(h0:p<N+1){l:List Step}(t:Tree hs u p l):l.length<=N+1:=by
 have:=zX t.nodup (t.lt env h0)
 simpa using this
theorem Tree.pos{hs:List HN}{u:Nat->Bool}{p:Nat}{l:List Step}(t:Tree hs u p l):1<=l.length:=by
 cases t with
 |one=>simp
 |snoc=>simp
theorem WV{hs:List HN}{f:Flow}{p:Nat}:∀(n:Nat)(l:List Step),Tree hs (uf f) p l->Tree hs (uf f) p (seekIn hs f n l)/\(qF hs (uf f) (fun q=>dY (seekIn hs f n l) q=true)∨l.length+n<=(seekIn hs f n l).length)
 |0,l,t=>⟨t,.inr (dR _)⟩
 |n+1,l,t=>by
  have tr:Tree hs (uf f) p (seekRound hs f l):=WS (fun _ h=>h) t;by_cases q:(seekRound hs f l).length=l.length
  .have e:seekIn hs f (n+1) l=l:=by
    show (if ((seekRound hs f l).length==l.length)=true then l else seekIn hs f n (seekRound hs f l))=l;rw[if_pos (by simpa using q)]
   rw[e];exact ⟨t,.inl (aii (WU f hs l q))⟩
  .have e:seekIn hs f (n+1) l=seekIn hs f n (seekRound hs f l):=by
    show (if ((seekRound hs f l).length==l.length)=true then l else seekIn hs f n (seekRound hs f l))=_;rw[if_neg (by simpa using q)]
   rw[e];obtain ⟨a,b⟩:=WV n _ tr;refine ⟨a,?_⟩;rcases b with b|b
   .exact .inl b
   .have:l.length<=(seekRound hs f l).length:=Ox f hs l;exact .inr (by omega)
theorem F6{g:bp}{H:Nat}{hs:List HN}(env:Env g.objs.length H hs)(f:Flow){p:Nat}(h0:p<g.objs.length+1):Tree hs (uf f) p (seek g hs f p)/\∀q,dY (seek g hs f p) q=true↔Res hs (uf f) p q:=by
 obtain ⟨a,b⟩:=WV (hs:=hs) (f:=f) (p:=p) (g.objs.length+1) [first p] .one;have a':Tree hs (uf f) p (seek g hs f p):=a;refine ⟨a',fun q=>⟨a'.res,fun r=>?_⟩⟩;rcases b with b|b
 .exact b.res a'.start r
 .have:=a.len env h0;simp at b;omega
theorem aij{l:List Step}{p:Nat}(h:dY l p=true):∃s,l.find? (fun s=>s.place==p)=some s/\s∈l/\s.place=p:=by
 obtain ⟨s,hs,e⟩:=yw.mp h;cases q:l.find? (fun s=>s.place==p) with
 |none=>
  have:=Jp.mp q s hs;simp[e]at this
 |some s'=>
  refine ⟨s',rfl,FN q,?_⟩
  simpa using VD q
theorem Tree.before{hs:List HN}{u:Nat->Bool}{p:Nat}{l:List Step}(t:Tree hs u p l):∀s∈l,dY l s.before=true:=by
 induction t with
 |one=>intro s h;simp at h;subst h;simp[dY,first]
 | @snoc l s h _ g hb hp ih=>
  intro s' lq;rw[BK,FK];rcases kN.mp lq with q|q
  .exact .inl (ih s' q)
  .simp at q;subst q;exact .inl hb
theorem Tree.Oy{hs:List HN}{u:Nat->Bool}{p:Nat}{l:List Step}(t:Tree hs u p l):∀s∈l,s.before≠s.place->∃h,Goes hs u s h:=by
 induction t with
 |one=>intro s h e;simp at h;subst h;exact absurd rfl e
 | @snoc l s h _ g hb hp ih=>
  intro s' lq e;rcases kN.mp lq with q|q
  .exact ih s' q e
  .simp at q;subst q;exact ⟨h,g⟩
theorem Oz{hs:List HN}{u:Nat->Bool}{p:Nat}{l r:List Step}(t:Tree hs u p l):∀(n q:Nat)(f:Flow),dY l q=true->turned (l++r) n q f=turned l n q f
 |0,_,_,_=>rfl
 |n+1,q,f,h=>by
  obtain ⟨s,e,hs,hp⟩:=aij h;have e2:(l++r).find? (fun s=>s.place==q)=some s:=by
   rw[agw,e];rfl
  unfold turned;rw[e,e2];simp only
  split
  .rfl
  .exact Oz t n s.before _ (t.before s hs)
theorem p9{f:Flow}{i:Nat}{b:Bool}(h:i<f.length)(n:Nat):uf (f.set i b) n=if n=i then b else uf f n:=by
 unfold uf;rw[lT,lT];by_cases q:n=i
 .subst q;rw[Jn h,if_pos rfl];rfl
 .rw[Jo (fun z=>q z.symm),if_neg q]
theorem aik{N H:Nat}{hs:List HN}(env:Env N H hs){u:Nat->Bool}{p:Nat}{l:List Step}(t:Tree hs u p l):
  ∀(q:Nat),dY l q=true->∀(n:Nat),l.length<=n->∀(f:Flow),f.length=H->(∀s∈l,s.before≠s.place->uf f s.hold= !s.forth)->
   (turned l n q f).length=H/\∀φ:Nat->Int,D hs (uf (turned l n q f)) φ=D hs (uf f) φ+(φ p-φ q):=by
 induction t with
 |one=>
  intro q hq n hn f hf _;have e:p=q:=by simpa[dY,first]using hq
  subst e;obtain ⟨m,rfl⟩:∃m,n=m+1:=⟨n-1,by simp at hn;omega⟩;have:turned [first p] (m+1) p f=f:=by
   unfold turned;simp[first]
  rw[this];exact ⟨hf,fun φ=>by omega⟩
 | @snoc l s h tl g hb hp ih=>
  intro q hq n hn f hf hu;have tl':Tree hs u p (l++[s]):=.snoc tl g hb hp;by_cases ql:dY l q=true
  .rw[Oz tl n q f ql];refine ih q ql n (by simp at hn;omega) f hf ?_;intro s' lq;exact hu s' (by simp[lq])
  .have e:s.place=q:=by
    rw[BK,FK]at hq;rcases hq with z|z
    .exact absurd z ql
    .simpa[dY]using z
   obtain ⟨m,rfl⟩:∃m,n=m+1:=⟨n-1,by simp at hn;omega⟩;have ne:s.before≠s.place:=by
    intro z;rw[z,e]at hb;exact ql hb
   have ef:(l++[s]).find? (fun s=>s.place==q)=some s:=by
    rw[agw];have:l.find? (fun s=>s.place==q)=none:=by
     rw[Jp];intro s' lq z;exact ql (yw.mpr ⟨s',lq,by simpa using z⟩)
    rw[this];simp[e]
   have et:turned (l++[s]) (m+1) q f=turned l m s.before (f.set s.hold s.forth):=by
    rw[<-Oz tl m s.before _ hb (r:=[s])]
    conv=>lhs;unfold turned
    rw[ef];simp only;rw[if_neg (by rw[<-e];simpa using ne)]
   rw[et];have eU:s.hold<f.length:=by
    rw[hf,<-g.num];exact env.lt _ g.mem
   have us:=p9 (f:=f) (b:=s.forth) eU;obtain ⟨a,b⟩:=ih s.before hb m (by simp at hn;omega) (f.set s.hold s.forth) (by rw[yn];exact hf) (by
    intro s' lq ne';have md:s'.hold≠s.hold:=by
     intro z;obtain ⟨h',g'⟩:=tl.Oy s' lq ne';have eh:h'=h:=env.inj g'.mem g.mem (by rw[g'.num,g.num,z]);subst eh;have ff:s'.forth=s.forth:=by
      have:=g'.use.symm.trans g.use
      simpa using this
     have pp:s'.place=s.place:=by rw[g'.Ab,g.Ab,ff]
     rw[<-pp]at hp;have:=yw.mpr ⟨s',lq,rfl⟩;rw[hp]at this;cases this
    rw[us,if_neg md];exact hu s' (by simp[lq]) ne')
   refine ⟨a,fun φ=>?_⟩;rw[b φ];have d:=F5 env.nd g.mem (u:=uf f) (v:=uf (f.set s.hold s.forth)) (by
    intro n hn;rw[us,if_neg (by rw[<-g.num];exact hn)]) φ
   rw[d];have u1:uf f h.2= !s.forth:=by
    rw[g.num];exact hu s (by simp) ne
   have u2:uf (f.set s.hold s.forth) h.2=s.forth:=by
    rw[us,if_pos g.num]
   rw[u1,u2,<-e];have b1:=g.JL;have p1:=g.Ab;cases ff:s.forth with
   |true=>
    rw[ff]at b1 p1;simp at b1 p1 ⊢;rw[b1,p1];omega
   |false=>
    rw[ff]at b1 p1;simp at b1 p1 ⊢;rw[b1,p1];omega
theorem Tree.uses{hs:List HN}{u:Nat->Bool}{p:Nat}{l:List Step}(t:Tree hs u p l):∀s∈l,s.before≠s.place->u s.hold= !s.forth:=by
 intro s h ne;obtain ⟨k,g⟩:=t.Oy s h ne;rw[<-g.num];exact g.use
end WK
namespace WK
open Vasnpa (Graph Hold holdsOf)
open Vasnpb (Flow used fromPlace toPlace Step isFound seek turned fill noFlow greatest toldCut letGo needed Left walk waysIn toldWays)
open Classical
def allOf(g:bp):List HN:=(bh g).zipIdx
theorem tu{g:bp}{h:HN}:h∈allOf g↔(bh g)[h.2]? =some h.1:=pz
theorem ail{α:Type}(l:List α)(n:Nat):((l.zipIdx n).map (·.2)).Nodup:=by
 have:(l.zipIdx n).map (·.2)=List.range' n l.length:=by
  simp
 rw[this];exact List.nodup_range'
theorem uZ{g:bp}(ok:iF g):Env g.objs.length (bh g).length (allOf g):=by
 refine ⟨ail _ _,?_,?_,?_⟩
 .intro h hh;exact (gq.mp (tu.mp hh)).1
 .intro h hh;have m:=iy (tu.mp hh);unfold bN;cases e:h.1.src with
  |none=>simp
  |some o=>
   have:=ok.Ww _ m o e;simp;omega
 .intro h hh;have m:=iy (tu.mp hh);have:=ok.uX _ m;unfold dD;omega
theorem Env.filter{N H:Nat}{hs:List HN}(e:Env N H hs)(q:HN->Bool):Env N H (hs.filter q):=by
 refine ⟨?_,fun h hh=>e.lt h (gT.mp hh).1,fun h hh=>e.fr h (gT.mp hh).1,fun h hh=>e.to h (gT.mp hh).1⟩;exact agx (VE _ Jq) e.nd
theorem F7(q:Nat->Bool)(u:Nat->Bool)(φ:Nat->Int):∀hs:List HN,D (hs.filter fun k=>q k.2) u φ=D hs (fun n=>u n&&q n) φ
 | []=>rfl
 |h::hs=>by
  rw[xh,<-F7 q u φ hs,kO];cases e:q h.2 with
  |true=>simp[xh]
  |false=>simp
def mN(hs:List HN)(t:Nat)(k:Int):Prop:=∃u,iQ hs u t k
theorem mN.mono{hs:List HN}{t:Nat}{k:Int}{q:Nat->Bool}(h:mN (hs.filter fun h=>q h.2) t k):mN hs t k:=by
 obtain ⟨u,hu⟩:=h;exact ⟨fun n=>u n&&q n,fun φ=>by rw[<-F7];exact hu φ⟩
theorem WW{g:bp}{H:Nat}{hs:List HN}(env:Env g.objs.length H hs){f:Flow}(hf:f.length=H){a b:Nat}(ha:a<g.objs.length+1)(hb:dY (seek g hs f a) b=true):
  (turned (seek g hs f a) (g.objs.length+1) b f).length=H/\∀φ:Nat->Int,D hs (uf (turned (seek g hs f a) (g.objs.length+1) b f)) φ=D hs (uf f) φ+(φ a-φ b):=by
 obtain ⟨t,_⟩:=F6 env f ha;exact aik env t b hb _ (t.len env ha) f hf t.uses
theorem OB{g:bp}{H:Nat}{hs:List HN}(env:Env g.objs.length H hs){x:Nat}:∀(n:Nat)(f:Flow)(k:Int),f.length=H->iQ hs (uf f) (x+1) k->
  ∃k':Int,(fill g hs x n f).length=H/\iQ hs (uf (fill g hs x n f)) (x+1) k'/\(¬Res hs (uf (fill g hs x n f)) 0 (x+1)∨k'=k+n)
 |0,f,k,hf,fl=>⟨k,hf,fl,.inr (by simp)⟩
 |n+1,f,k,hf,fl=>by
  by_cases q:dY (seek g hs f 0) (x+1)=true
  .have e:fill g hs x (n+1) f=fill g hs x n (turned (seek g hs f 0) (g.objs.length+1) (x+1) f):=by
    show (if dY (seek g hs f 0) (x+1)=true then _ else f)=_;rw[if_pos q]
   obtain ⟨a,b⟩:=WW env hf (a:=0) (by omega) q;obtain ⟨k',U,h2,h3⟩:=OB env (x:=x) n _ (k+1) a (fun φ=>by
    rw[b φ,fl φ,agy];omega)
   rw[e];refine ⟨k',U,h2,?_⟩;rcases h3 with h3|h3
   .exact .inl h3
   .exact .inr (by rw[h3];simp;omega)
  .have e:fill g hs x (n+1) f=f:=by
    show (if dY (seek g hs f 0) (x+1)=true then _ else f)=_;rw[if_neg q]
   rw[e];refine ⟨k,hf,fl,.inl ?_⟩;intro z;exact q (((F6 env f (by omega)).2 _).mpr z)
def rn(hs:List HN):Nat:=(hs.filter fun h=>h.1.src==none).length
theorem WX:∀hs:List HN,leave hs (fun p=>p=0)=rn hs
 | []=>rfl
 |h::hs=>by
  rw[BJ,WX hs];unfold rn;rw[kO];cases e:h.1.src with
  |none=>simp[bN,dD,e];omega
  |some o=>simp[bN,e]
theorem OC{hs:List HN}{u:Nat->Bool}{x:Nat}{k:Int}(f:iQ hs u (x+1) k):k<=rn hs:=by
 rw[<-WX];exact JJ f (S:=fun p=>p=0) rfl (by simp)
theorem aim{g:bp}:rn (allOf g)=g.roots.length:=by
 unfold rn allOf;have e1:∀(l:List Hold)(n:Nat),((l.zipIdx n).filter fun h=>h.1.src==none).length=(l.filter fun h=>h.src==none).length:=by
  intro l
  induction l with
  |nil=>intro n;rfl
  |cons a r ih=>
   intro n;rw[Jr,kO,kO]
   split
   .rw[iz,iz,ih]
   .exact ih _
 rw[e1];unfold bh;rw[vJ,gR];have e2:((g.roots.zipIdx.map fun r=>({src:=none,place:=r.2,to:=r.1}:Hold)).filter fun h=>h.src==none).length=g.roots.length:=by
  rw[Dr.mpr]
  .simp
  .intro a ha;obtain ⟨r,_,rfl⟩:=js.mp ha;rfl
 rw[e2];have e3:((g.objs.zipIdx.flatMap fun x=>x.1.fields.zipIdx.filterMap fun f=>if f.1.weak then none else some ({src:=some x.2,place:=f.2,to:=f.1.to}:Hold)).filter fun h=>h.src==none)=[]:=by
  rw[Js];intro a ha;obtain ⟨x,_,h2⟩:=NO.mp ha;obtain ⟨f,_,h3⟩:=Ds.mp h2
  split at h3
  .cases h3
  .cases h3;simp
 rw[e3];rfl
theorem WY(g:bp)(hs:List HN)(t:Nat):iQ hs (uf (noFlow g)) t 0:=by
 intro φ;have:∀n,uf (noFlow g) n=false:=by
  intro n;unfold uf noFlow;rw[lT];rcases zO n (bh g).length with h|h
  .simp[h]
  .simp[Nat.not_lt.mpr h]
 have e:∀l:List HN,D l (uf (noFlow g)) φ=0:=by
  intro l
  induction l with
  |nil=>rfl
  |cons a r ih=>rw[xh,ih,this];simp
 rw[e];simp
theorem WZ{g:bp}(ok:iF g)(x:Nat):∃k:Int,(greatest g x).length=(bh g).length/\iQ (allOf g) (uf (greatest g x)) (x+1) k/\¬Res (allOf g) (uf (greatest g x)) 0 (x+1):=by
 obtain ⟨k,a,b,c⟩:=OB (uZ ok) (x:=x) (g.roots.length+1) (noFlow g) 0 (by simp[noFlow]) (WY g _ _);refine ⟨k,a,b,?_⟩;rcases c with c|c
 .exact c
 .have:=OC b;rw[aim]at this;omega
def vP(g:bp)(x:Nat)(k:Int):Prop:=mN (allOf g) (x+1) k/\∀j,mN (allOf g) (x+1) j->j<=k
theorem JM{g:bp}{x:Nat}{u:Nat->Bool}{k:Int}(f:iQ (allOf g) u (x+1) k)(h:¬Res (allOf g) u 0 (x+1)):vP g x k:=
 ⟨⟨u,f⟩,fun _ ⟨_,f2⟩=>max_le f h f2⟩
theorem vP.uniq{g:bp}{x:Nat}{k j:Int}(a:vP g x k)(b:vP g x j):k=j:=by
 have U:=a.2 j b.1;have h2:=b.2 k a.1;omega
theorem ain{g:bp}(ok:iF g){x:Nat}{u:Nat->Bool}{k:Int}(f:iQ (allOf g) u (x+1) k)(h:¬Res (allOf g) u 0 (x+1)){S:Nat->Bool}(hS:∀p,S p=true↔Res (allOf g) u 0 p):
  toldCut g x=((allOf g).filter fun h=>S (bN h.1)&&!S (dD h.1)).map (·.2):=by
 obtain ⟨k',a,b,c⟩:=WZ ok x;have ek:k'=k:=(JM b c).uniq (JM f h);subst ek;have e:∀p,dY (seek g (allOf g) (greatest g x) 0) p=S p:=by
  intro p;rw[n4,(F6 (uZ ok) _ (by omega)).2,hS,aie b c f]
 show ((allOf g).filter fun h=>dY (seek g (allOf g) (greatest g x) 0) (bN h.1)&&!dY (seek g (allOf g) (greatest g x) 0) (dD h.1)).map (·.2)=_;simp only[e]
def without(hs:List HN)(n:Nat):List HN:=hs.filter fun k=>k.2 !=n
theorem F8{hs:List HN}(nd:(hs.map (·.2)).Nodup){h:HN}(hh:h∈hs)(u:Nat->Bool)(φ:Nat->Int):D (without hs h.2) u φ=D hs u φ-(if u h.2=true then φ (bN h.1)-φ (dD h.1) else 0):=by
 unfold without;rw[F7 (fun n=>n !=h.2) u φ,F5 nd hh (u:=u) (v:=fun n=>u n&&(n !=h.2)) (by intro n hn;simp[hn]) φ];cases u h.2<;>simp<;>omega
noncomputable def jb (t:Nat) (k:Int) (hs:List HN) (h:HN):List HN:=if mN (without hs h.2) t k then without hs h.2 else hs
theorem W0{g:bp}{H:Nat}{hs:List HN}(env:Env g.objs.length H hs){f:Flow}(hf:f.length=H){t:Nat}{k:Int}(fl:iQ hs (uf f) t k)(hk:0<=k){h:HN}(hh:h∈hs):
  (letGo g (hs,f) h).1=jb t k hs h/\(letGo g (hs,f) h).2.length=H/\iQ (letGo g (hs,f) h).1 (uf (letGo g (hs,f) h).2) t k:=by
 have Ac:Env g.objs.length H (without hs h.2):=env.filter _;by_cases q:uf f h.2=true
 .have q':used f h=true:=q;have eU:h.2<f.length:=by rw[hf];exact env.lt h hh
  have xi:(f.set h.2 false).length=H:=by rw[yn];exact hf
  have dd:∀φ:Nat->Int,D (without hs h.2) (uf (f.set h.2 false)) φ=k*(φ 0-φ t)-(φ (bN h.1)-φ (dD h.1)):=by
   intro φ;rw[F8 env.nd hh];have e1:uf (f.set h.2 false) h.2=false:=by rw[p9 eU,if_pos rfl]
   rw[e1,F5 env.nd hh (u:=uf f) (v:=uf (f.set h.2 false)) (by intro n hn;rw[p9 eU,if_neg hn]),e1,q,fl φ];simp;omega
  by_cases z:dY (seek g (without hs h.2) (f.set h.2 false) (bN h.1)) (dD h.1)=true
  .have e:letGo g (hs,f) h=(without hs h.2,turned (seek g (without hs h.2) (f.set h.2 false) (bN h.1)) (g.objs.length+1) (dD h.1) (f.set h.2 false)):=by
    unfold letGo;simp only[q'];show (if dY (seek g (without hs h.2) (f.set h.2 false) (bN h.1)) (dD h.1)=true then (without hs h.2,_) else _)=_;rw[if_pos z];rfl
   obtain ⟨a,b⟩:=WW Ac xi (env.fr h hh) z;have F9:iQ (without hs h.2) (uf (turned (seek g (without hs h.2) (f.set h.2 false) (bN h.1)) (g.objs.length+1) (dD h.1) (f.set h.2 false))) t k:=by
    intro φ;rw[b φ,dd φ];omega
   rw[e];refine ⟨?_,a,F9⟩;unfold jb;rw[if_pos ⟨_,F9⟩]
  .have e:letGo g (hs,f) h=(hs,f):=by
    unfold letGo;simp only[q'];show (if dY (seek g (without hs h.2) (f.set h.2 false) (bN h.1)) (dD h.1)=true then (without hs h.2,_) else _)=_;rw[if_neg z]
   rw[e];refine ⟨?_,hf,fl⟩;unfold jb;rw[if_neg];rintro ⟨v,fv⟩;have sp:=F6 Ac (f.set h.2 false) (env.fr h hh);have hb:¬Res (without hs h.2) (uf (f.set h.2 false)) (bN h.1) (dD h.1):=fun y=>z ((sp.2 _).mpr y);have c:=(Res.closed (without hs h.2) (uf (f.set h.2 false)) (bN h.1)).eq;rw[dd,zZ (S:=Res (without hs h.2) (uf (f.set h.2 false)) (bN h.1)) (.start),Aa hb]at c;have nn:=Ou (Res (without hs h.2) (uf (f.set h.2 false)) (bN h.1)) (without hs h.2);by_cases a0:Res (without hs h.2) (uf (f.set h.2 false)) (bN h.1) 0
   .by_cases at':Res (without hs h.2) (uf (f.set h.2 false)) (bN h.1) t
    .rw[zZ a0,zZ at']at c;omega
    .have:=JJ fv a0 at';rw[zZ a0,Aa at']at c;omega
   .by_cases at':Res (without hs h.2) (uf (f.set h.2 false)) (bN h.1) t
    .rw[Aa a0,zZ at']at c;omega
    .rw[Aa a0,Aa at']at c;omega
 .have q':used f h=false:=by
   have:¬used f h=true:=q
   simpa using this
  have q2:uf f h.2=false:=q';have e:letGo g (hs,f) h=(without hs h.2,f):=by
   unfold letGo;simp only[q'];rfl
  have F9:iQ (without hs h.2) (uf f) t k:=by
   intro φ;rw[F8 env.nd hh,q2,fl φ];simp
  rw[e];refine ⟨?_,hf,F9⟩;unfold jb;rw[if_pos ⟨_,F9⟩]
theorem JN(t:Nat)(k:Int)(hs:List HN)(h:HN):jb t k hs h=hs∨jb t k hs h=without hs h.2:=by
 unfold jb
 split
 .exact .inr rfl
 .exact .inl rfl
theorem aio{t:Nat}{k:Int}{hs:List HN}{h j:HN}(hj:j∈hs)(ne:j.2≠h.2):j∈jb t k hs h:=by
 rcases JN t k hs h with e|e
 .rw[e];exact hj
 .rw[e];exact gT.mpr ⟨hj,by simpa using ne⟩
theorem W2{N H:Nat}{hs:List HN}(env:Env N H hs)(t:Nat)(k:Int)(h:HN):Env N H (jb t k hs h):=by
 rcases JN t k hs h with e|e
 .rw[e];exact env
 .rw[e];exact env.filter _
theorem W3{g:bp}{H:Nat}{t:Nat}{k:Int}(hk:0<=k):∀(ks hs:List HN)(f:Flow),(ks.map (·.2)).Nodup->(∀j∈ks,j∈hs)->Env g.objs.length H hs->f.length=H->iQ hs (uf f) t k->
  (ks.foldl (letGo g) (hs,f)).1=ks.foldl (jb t k) hs/\∃u,iQ (ks.foldl (jb t k) hs) u t k
 | [],hs,f,_,_,_,_,fl=>⟨rfl,_,fl⟩
 |h::ks,hs,f,nd,sub,env,hf,fl=>by
  rw[jx,t8]at nd;obtain ⟨a,b,c⟩:=W0 env hf fl hk (sub h (by simp));rw[kz,kz];have e:letGo g (hs,f) h=(jb t k hs h,(letGo g (hs,f) h).2):=by
   rw[<-a]
  rw[e];rw[a]at c;exact W3 hk ks _ _ nd.2 (fun j hj=>aio (sub j (by simp[hj])) fun q=>nd.1 (js.mpr ⟨j,hj,q⟩)) (W2 env t k h) b c
theorem OD{g:bp}(ok:iF g){x:Nat}{k:Int}(m:vP g x k):needed g x=(allOf g).foldl (jb (x+1) k) (allOf g)/\mN (needed g x) (x+1) k:=by
 obtain ⟨k',a,b,c⟩:=WZ ok x;have ek:k'=k:=(JM b c).uniq m;subst ek;have hk:0<=k':=by
  have:=JK b c;have:=Ou (Res (allOf g) (uf (greatest g x)) 0) (allOf g);omega
 obtain ⟨e,u,f⟩:=W3 hk (allOf g) (allOf g) (greatest g x) (uZ ok).nd (fun _ h=>h) (uZ ok) a b;have e2:needed g x=(allOf g).foldl (jb (x+1) k') (allOf g):=e;rw[e2];exact ⟨rfl,u,f⟩
def DL(t:Nat)(k:Int)(hs:List HN)(h:HN):Prop:=¬mN (without hs h.2) t k
theorem DL.drop{t:Nat}{k:Int}{hs:List HN}{h j:HN}(m:DL t k hs j):DL t k (jb t k hs h) j:=by
 rcases JN t k hs h with e|e
 .rw[e];exact m
 .rw[e];intro z;apply m;refine mN.mono (q:=fun n=>n !=h.2) ?_;have:(without hs j.2).filter (fun k=>k.2 !=h.2)=without (without hs h.2) j.2:=by
   unfold without;rw[w8,w8];apply qC;intro a _;rw[NP]
  rw[this];exact z
theorem W4{t:Nat}{k:Int}:∀(ks hs:List HN),(∀j∈hs,j∈ks∨DL t k hs j)->∀j∈ks.foldl (jb t k) hs,DL t k (ks.foldl (jb t k) hs) j
 | [],hs,h,j,hj=>by
  rcases h j hj with q|q
  .cases q
  .exact q
 |h::ks,hs,hh,j,hj=>by
  rw[kz]at hj ⊢;refine W4 ks (jb t k hs h) ?_ j hj;intro i hi;by_cases z:mN (without hs h.2) t k
  .have e:jb t k hs h=without hs h.2:=by unfold jb;rw[if_pos z]
   rw[e]at hi;obtain ⟨i1,i2⟩:=gT.mp hi;rcases hh i i1 with q|q
   .rcases f6.mp q with rfl|q
    .simp at i2
    .exact .inl q
   .exact .inr q.drop
  .have e:jb t k hs h=hs:=by unfold jb;rw[if_neg z]
   rw[e]at hi;rcases hh i hi with q|q
   .rcases f6.mp q with rfl|q
    .exact .inr (by rw[e];exact z)
    .exact .inl q
   .exact .inr q.drop
def uc:Nat->Bool:=fun _=>true
theorem aip{g:bp}(ok:iF g){x:Nat}{k:Int}(m:vP g x k):iQ (needed g x) uc (x+1) k:=by
 obtain ⟨e,u,f⟩:=OD ok m;have aiq:∀j∈needed g x,DL (x+1) k (needed g x) j:=by
  rw[e];exact W4 (allOf g) (allOf g) fun j hj=>.inl hj
 have nd:((needed g x).map (·.2)).Nodup:=by
  rw[e];have:∀(ks hs:List HN),(hs.map (·.2)).Nodup->((ks.foldl (jb (x+1) k) hs).map (·.2)).Nodup:=by
   intro ks
   induction ks with
   |nil=>intro hs h;exact h
   |cons a r ih=>
    intro hs h;rw[kz];apply ih;rcases JN (x+1) k hs a with e|e
    .rw[e];exact h
    .rw[e];exact agx (VE _ Jq) h
  exact this _ _ (uZ ok).nd
 have all:∀j∈needed g x,u j.2=true:=by
  intro j hj;cases q:u j.2 with
  |true=>rfl
  |false=>
   exfalso
   apply aiq j hj;refine ⟨u,fun φ=>?_⟩;rw[F8 nd hj,q,f φ];simp
 intro φ;rw[<-f φ];exact BI (fun j hj=>by rw[all j hj];rfl) φ
theorem air{g:bp}(ok:iF g){x:Nat}{k:Int}(m:vP g x k):Env g.objs.length (bh g).length (needed g x):=by
 rw[(OD ok m).1];have:∀(ks hs:List HN),Env g.objs.length (bh g).length hs->Env g.objs.length (bh g).length (ks.foldl (jb (x+1) k) hs):=by
  intro ks
  induction ks with
  |nil=>intro hs h;exact h
  |cons a r ih=>
   intro hs h;rw[kz];exact ih _ (W2 h _ _ _)
 exact this _ _ (uZ ok)
def u5(R:List HN)(t:Nat)(j:Int)(p:Nat):Prop:=∀φ:Nat->Int,D R uc φ=j*(φ 0-φ t)+(φ p-φ t)
theorem W5{q:Nat}:∀{R:List HN},(∀h∈R,bN h.1≠q)->D R uc (fun z=>if z=q then 1 else 0)<=0
 | [],_=>Int.le_refl _
 |h::R,hR=>by
  rw[xh];have ih:=W5 (R:=R) (q:=q) fun k hk=>hR k (by simp[hk]);have n0:=hR h (by simp);simp only[uc,if_true,if_neg n0]
  split<;>omega
theorem u5.step{R:List HN}{t p:Nat}{j:Int}(nd:(R.map (·.2)).Nodup)(b:u5 R t j p)(hj:0<=j)(hp:p≠t):∃h,R.find? (fun h=>bN h.1==p)=some h/\h∈R/\bN h.1=p/\u5 (without R h.2) t j (dD h.1):=by
 have ex:∃h∈R,bN h.1=p:=by
  rcases VB (∃h∈R,bN h.1=p) with q|q
  .exact q
  .exfalso
   have U:=W5 (R:=R) (q:=p) fun h hh z=>q ⟨h,hh,z⟩;rw[b]at U;simp only[if_true]at U;rw[if_neg (show ¬t=p from fun z=>hp z.symm)]at U;by_cases z:0=p
   .rw[if_pos z]at U;omega
   .rw[if_neg z]at U;omega
 cases e:R.find? (fun h=>bN h.1==p) with
 |none=>
  obtain ⟨h,hh,z⟩:=ex;have:=Jp.mp e h hh;simp[z]at this
 |some h=>
  have m:=FN e;have f:bN h.1=p:=by simpa using VD e
  refine ⟨h,rfl,m,f,fun φ=>?_⟩;rw[F8 nd m,b φ,f];simp only[uc,if_true];omega
theorem W6{x:Nat}:∀(R:List HN),D R uc (fun z=>if z=0 then 1 else 0)=rn R
 | []=>rfl
 |h::R=>by
  rw[xh,W6 (x:=x) R];unfold rn;rw[kO];cases e:h.1.src with
  |none=>simp[bN,dD,e,uc];omega
  |some o=>simp[bN,dD,e]
theorem ais{R:List HN}{t:Nat}{j:Int}(ht:t≠0)(f:iQ R uc t j):(rn R:Int)=j:=by
 rw[<-W6 (x:=0) R,f];simp[ht]
end WK
namespace WK
open Vasnpa (Graph Hold holdsOf)
open Vasnpb (Found putFound wayRound wayIn left wayAround fromPlace toPlace)
section
variable{α:Type}(V:List α->α->List α)
def run:Nat->Nat->List α->List α
 |0,_,m=>m
 |f+1,p,m=>match m[p]? with
  |none=>m
  |some x=>run f (p+1) (V m x)
def rW(l:List α):List α:=l.foldl V l
def Gb:Nat->List α->List α
 |0,l=>l
 |n+1,l=>if (rW V l).length=l.length then l else Gb n (rW V l)
def Done(p:Nat)(m:List α):Prop:=∀x∈m.take p,∀r,V (m++r) x=m++r
variable{V}
variable(hV:∀m x,∃r,V m x=m++r)(idem:∀m x r,V (V m x++r) x=V m x++r)
include hV idem
theorem Done.step{p:Nat}{m:List α}{x:α}(d:Done V p m)(h:m[p]? =some x):Done V (p+1) (V m x):=by
 obtain ⟨r,e⟩:=hV m x;have hp:p<m.length:=(gq.mp h).1;intro y hy r';have et:(V m x).take (p+1)=m.take p++[x]:=by
  rw[e,List.take_append_of_le_length (by omega),agz,h];rfl
 rw[et]at hy;rcases kN.mp hy with q|q
 .have:=d y q (r++r');rw[e,uS];exact this
 .simp at q;subst q;exact idem m y r'
omit hV idem in
theorem OF(V:List α->α->List α)(f p:Nat)(m:List α):run V (f+1) p m=match m[p]? with|none=>m|some x=>run V f (p+1) (V m x):=rfl
theorem W7:∀(l m:List α),(∀x∈l,∀r,V (m++r) x=m++r)->l.foldl V m=m
 | [],_,_=>rfl
 |a::l,m,h=>by
  rw[kz];have:=h a (by simp) [];rw[nZ]at this;rw[this];exact W7 l m fun x hx=>h x (by simp[hx])
theorem W8{m:List α}{p:Nat}(h:m.length<=p):∀f,run V f p m=m
 |0=>rfl
 |f+1=>by
  unfold run;rw[FO h]
theorem W9:∀(k:Nat)(l r:List α)(p:Nat),k=l.length-p->p<=l.length->Done V p (l++r)->∀F,run V (k+F) p (l++r)=run V F l.length ((l.drop p).foldl V (l++r))/\Done V l.length ((l.drop p).foldl V (l++r))
 |0,l,r,p,hk,hp,d,F=>by
  have e:p=l.length:=by omega
  subst e;rw[agA,vK];exact ⟨rfl,d⟩
 |k+1,l,r,p,hk,hp,d,F=>by
  have eU:p<l.length:=by omega
  have e1:(l++r)[p]? =some l[p]:=by
   rw[By eU,iN eU]
  have e2:l.drop p=l[p]::l.drop (p+1):=Jt eU;obtain ⟨r',e3⟩:=hV (l++r) l[p];have d':=d.step hV idem e1;rw[e3,uS]at d';obtain ⟨U,h2⟩:=W9 k l (r++r') (p+1) (by omega) (by omega) d' F;rw[e2,kz,e3,uS];refine ⟨?_,h2⟩;rw[<-U];have:k+1+F=(k+F)+1:=by omega
  rw[this];show (match (l++r)[p]? with|none=>l++r|some x=>run V (k+F) (p+1) (V (l++r) x))=_;rw[e1];show run V (k+F) (p+1) (V (l++r) l[p])=_;rw[e3,uS]
theorem ait{l:List α}{p:Nat}(hp:p<=l.length)(d:Done V p l)(F:Nat):run V (l.length-p+F) p l=run V F l.length (rW V l)/\Done V l.length (rW V l):=by
 have d0:Done V p (l++[]):=by rw[nZ];exact d
 have h:=W9 hV idem (l.length-p) l [] p rfl hp d0 F;rw[nZ]at h;have e:rW V l=(l.drop p).foldl V l:=by
  show l.foldl V l=_
  conv=>lhs;rw[<-FP p l]
  rw[VF];rw[FP];rw[W7 hV idem (l.take p) l d]
 rw[e];exact h
theorem aiu(l:List α):∃r,rW V l=l++r:=by
 have gen:∀(k m:List α),∃r,k.foldl V m=m++r:=by
  intro k
  induction k with
  |nil=>intro m;exact ⟨[],by simp⟩
  |cons a k ih=>
   intro m;obtain ⟨r1,e1⟩:=hV m a;obtain ⟨r2,e2⟩:=ih (V m a);exact ⟨r1++r2,by rw[kz,e2,e1,uS]⟩
 exact gen l l
theorem Xa{N:Nat}{Pr:List α->Prop}(hP:∀m x,x∈m->Pr m->Pr (V m x))(hN:∀m,Pr m->m.length<=N):∀(n:Nat)(l:List α)(p:Nat),Pr l->p<=l.length->Done V p l->(l=[]∨N<l.length+n)->
  ∀F,N<=F+p->Gb V n l=run V F p l
 |0,l,p,pr,hp,d,hn,F,hF=>by
  rcases hn with rfl|hn
  .have:p=0:=by simpa using hp
   subst this;show []=_;rw[W8 hV idem (by simp)]
  .have:=hN l pr;omega
 |n+1,l,p,pr,hp,d,hn,F,hF=>by
  obtain ⟨r,er⟩:=aiu hV idem l;have prR:Pr (rW V l):=by
   have gen:∀(k m:List α),(∀x∈k,x∈m)->Pr m->Pr (k.foldl V m):=by
    intro k
    induction k with
    |nil=>intro m _ h;exact h
    |cons a k ih=>
     intro m U h2;obtain ⟨r',e'⟩:=hV m a;refine ih (V m a) (fun x hx=>?_) (hP m a (U a (by simp)) h2);rw[e'];exact vL _ (U x (by simp[hx]))
   exact gen l l (fun x hx=>hx) pr
  have hlN:=hN l pr;obtain ⟨F',rfl⟩:∃F',F=l.length-p+F':=⟨F-(l.length-p),by omega⟩;obtain ⟨U,h2⟩:=ait hV idem hp d F';rw[U];unfold Gb;by_cases q:(rW V l).length=l.length
  .rw[if_pos q];have e:rW V l=l:=by
    rw[er]at q ⊢;have:r=[]:=by
     rw[gR]at q;exact Jm.mp (by omega)
    rw[this,nZ]
   rw[e,W8 hV idem (dR _)]
  .rw[if_neg q];have hlen:l.length<=(rW V l).length:=by rw[er,gR];omega
   refine Xa hP hN n (rW V l) l.length prR hlen h2 ?_ F' (by omega);rcases hn with rfl|hn
   .exfalso
    apply q;rfl
   .exact .inr (by omega)
end
def keys(m:Found):List Nat:=m.map (·.1)
def scan(hs:List Hold)(out cut:List Nat)(w:List Nat)(m:Found)(n:Nat):Found:=match hs[n]? with
 |none=>m
 |some h=>if n∈cut∨h.to∈out∨h.to∈keys m then m else m++[(h.to,w++[n])]
def vQ(hs:List Hold)(q:Nat):List Nat:=(hs.zipIdx.filter fun h=>bN h.1==q).map (·.2)
def visit(hs:List Hold)(out cut:List Nat)(m:Found)(q:Nat)(w:List Nat):Found:=(vQ hs q).foldl (scan hs out cut w) m
def VW(hs:List Hold)(out cut:List Nat)(m:Found)(x:Nat×List Nat):Found:=visit hs out cut m (x.1+1) x.2
theorem aiw{hs:List Hold}{out cut w:List Nat}{m:Found}{h:Hold}{i:Nat}(e:hs[i]? =some h):scan hs out cut w m i=if !cut.contains i&&!out.contains h.to then putFound m h.to (w++[i]) else m:=by
 unfold scan putFound;rw[e];simp only[Bv];have hk:(m.any fun x=>x.1==h.to)=decide (h.to∈keys m):=by
  rw[n4,sY,decide_eq_true_iff];unfold keys;simp only[js,beq_iff_eq]
 rw[hk];by_cases a:i∈cut
 .simp[a]
 .by_cases b:h.to∈out
  .simp[a,b]
  .by_cases c:h.to∈keys m
   .simp[a,b,c]
   .simp[a,b,c]
theorem aix(h:Hold)(s:Option Nat)(q:Nat)(hq:q=match s with|none=>0|some o=>o+1):(bN h==q)=(h.src==s):=by
 subst hq;unfold bN;cases h.src with
 |none=>
  cases s with
  |none=>rfl
  |some o=>simp
 |some a=>
  cases s with
  |none=>simp
  |some o=>
   rw[n4];simp
theorem Xb{g:bp}{out cut w:List Nat}{s:Option Nat}{q:Nat}(hq:q=match s with|none=>0|some o=>o+1)(m:Found):
  (left g out cut).foldl (fun k h=>if h.1.src==s then putFound k h.1.to (w++[h.2]) else k) m=visit (bh g) out cut m q w:=by
 unfold visit vQ left;rw[VG,agB,agB];have gen:∀(l:List (Hold×Nat))(m:Found),(∀x∈l,(bh g)[x.2]? =some x.1)->
   l.foldl (fun x y=>if (!cut.contains y.2&&!out.contains y.1.to)=true then (if (y.1.src==s)=true then putFound x y.1.to (w++[y.2]) else x) else x) m=l.foldl (fun x y=>if (bN y.1==q)=true then scan (bh g) out cut w x y.2 else x) m:=by
  intro l
  induction l with
  |nil=>intro m _;rfl
  |cons a l ih=>
   intro m hx;rw[kz,kz];have e:=hx a (by simp);have step:(if (!cut.contains a.2&&!out.contains a.1.to)=true then (if (a.1.src==s)=true then putFound m a.1.to (w++[a.2]) else m) else m)=if (bN a.1==q)=true then scan (bh g) out cut w m a.2 else m:=by
    rw[aix a.1 s q hq,aiw e];by_cases c:(!cut.contains a.2&&!out.contains a.1.to)=true
    .simp only[c,if_true]
    .simp only[c];by_cases d:(a.1.src==s)=true
     .simp[d]
     .simp[d]
   rw[step];exact ih _ fun x yu=>hx x (by simp[yu])
 exact gen _ m fun x hx=>pz.mp hx
theorem aiy{g:bp}{out cut:List Nat}(l:Found):wayRound (left g out cut) l=rW (VW (bh g) out cut) l:=by
 unfold wayRound rW VW;have:(fun (m:Found) (x:Nat×List Nat)=>(left g out cut).foldl (fun k h=>if h.1.src==some x.1 then putFound k h.1.to (x.2++[h.2]) else k) m)=fun m x=>visit (bh g) out cut m (x.1+1) x.2:=by
  funext m x
  exact Xb (s:=some x.1) rfl m
 rw[this]
theorem Xc{g:bp}{out cut:List Nat}:∀(n:Nat)(l:Found),wayIn (left g out cut) n l=Gb (VW (bh g) out cut) n l
 |0,_=>rfl
 |n+1,l=>by
  unfold wayIn Gb;rw[aiy];by_cases q:(rW (VW (bh g) out cut) l).length=l.length
  .simp only[q,beq_self_eq_true,if_true]
  .rw[if_neg q];have:((rW (VW (bh g) out cut) l).length==l.length)=false:=by simpa using q
   simp only[this];exact Xc n _
def Ad(g:bp)(out cut:List Nat):Found:=visit (bh g) out cut [] 0 []
def jQ(g:bp)(out cut:List Nat):Found:=wayIn (left g out cut) g.objs.length (Ad g out cut)
theorem JP(g:bp)(out cut:List Nat)(x:Nat):wayAround g out cut x=((jQ g out cut).find? fun y=>y.1==x).map fun y=>y.2:=by
 unfold wayAround jQ Ad;rw[<-Xb (s:=none) (w:=[]) rfl];rfl
structure GoodW(g:bp)(out cut:List Nat)(m:Found):Prop where
 nd:(keys m).Nodup
 tr:∀x∈m,∃w n h,x.2=w++[n]/\(bh g)[n]? =some h/\h.to=x.1/\n∉cut/\h.to∉out/\(h.src=none/\w=[]∨∃o,h.src=some o/\(o,w)∈m)
theorem OG(hs:List Hold)(out cut w:List Nat)(m:Found)(n:Nat):∃r,scan hs out cut w m n=m++r:=by
 unfold scan
 split
 .exact ⟨[],by simp⟩
 .split
  .exact ⟨[],by simp⟩
  .exact ⟨_,rfl⟩
theorem OH(hs:List Hold)(out cut w:List Nat):∀(l:List Nat)(m:Found),∃r,l.foldl (scan hs out cut w) m=m++r
 | [],m=>⟨[],by simp⟩
 |n::l,m=>by
  obtain ⟨r1,e1⟩:=OG hs out cut w m n;obtain ⟨r2,e2⟩:=OH hs out cut w l (scan hs out cut w m n);exact ⟨r1++r2,by rw[kz,e2,e1,uS]⟩
theorem Xd{m r:Found}{x:Nat}(h:x∈keys m):x∈keys (m++r):=by
 unfold keys at *;rw[iO];exact vL _ h
def yx(hs:List Hold)(out cut:List Nat)(m:Found)(n:Nat):Prop:=∀h,hs[n]? =some h->n∈cut∨h.to∈out∨h.to∈keys m
theorem aiz{hs:List Hold}{out cut w:List Nat}{m:Found}{n:Nat}:yx hs out cut (scan hs out cut w m n) n:=by
 intro h e;unfold scan;rw[e];simp only
 split
 .assumption
 .refine .inr (.inr ?_);unfold keys;simp
theorem yx.more{hs:List Hold}{out cut:List Nat}{m r:Found}{n:Nat}(t:yx hs out cut m n):yx hs out cut (m++r) n:=fun h e=>by
 rcases t h e with q|q|q
 .exact .inl q
 .exact .inr (.inl q)
 .exact .inr (.inr (Xd q))
theorem aiA{hs:List Hold}{out cut w:List Nat}{m:Found}{n:Nat}(t:yx hs out cut m n):scan hs out cut w m n=m:=by
 unfold scan
 split
 .rfl
 .rename_i h e;rw[if_pos (t h e)]
theorem JQ(hs:List Hold)(out cut w:List Nat):∀(l:List Nat)(m:Found),∀n∈l,yx hs out cut (l.foldl (scan hs out cut w) m) n
 | [],_,n,h=>by cases h
 |a::l,m,n,h=>by
  rw[kz];rcases f6.mp h with rfl|h
  .obtain ⟨r,e⟩:=OH hs out cut w l (scan hs out cut w m n);rw[e];exact aiz.more
  .exact JQ hs out cut w l _ n h
theorem Xe{hs:List Hold}{out cut w:List Nat}:∀{l:List Nat}{m:Found},(∀n∈l,yx hs out cut m n)->l.foldl (scan hs out cut w) m=m
 | [],_,_=>rfl
 |n::l,m,h=>by
  rw[kz,aiA (h n (by simp))];exact Xe fun k hk=>h k (by simp[hk])
theorem JR(hs:List Hold)(out cut:List Nat):∀(m:Found)(x:Nat×List Nat),∃r,VW hs out cut m x=m++r:=fun m x=>OH hs out cut x.2 _ m
theorem aiB(hs:List Hold)(out cut:List Nat):∀(m:Found)(x:Nat×List Nat)(r:Found),VW hs out cut (VW hs out cut m x++r) x=VW hs out cut m x++r:=fun m x r=>
 Xe fun n hn=>(JQ hs out cut x.2 _ m n hn).more
theorem Gd{hs:List Hold}{q n:Nat}:n∈vQ hs q↔∃h,hs[n]? =some h/\bN h=q:=by
 unfold vQ;simp only[js,gT,Prod.exists,pz,beq_iff_eq];constructor
 .rintro ⟨h,i,⟨U,h2⟩,rfl⟩;exact ⟨h,U,h2⟩
 .rintro ⟨h,U,h2⟩;exact ⟨h,n,⟨U,h2⟩,rfl⟩
theorem GoodW.scan{g:bp}{out cut w:List Nat}{m:Found}(gw:GoodW g out cut m){n:Nat}(WL:∀h,(bh g)[n]? =some h->(h.src=none/\w=[]∨∃o,h.src=some o/\(o,w)∈m)):GoodW g out cut (scan (bh g) out cut w m n):=by
 unfold WK.scan
 split
 .exact gw
 .rename_i h e
  split
  .exact gw
  .rename_i z;have z1:n∉cut:=fun y=>z (.inl y);have z2:h.to∉out:=fun y=>z (.inr (.inl y));have z3:h.to∉keys m:=fun y=>z (.inr (.inr y));refine ⟨?_,?_⟩
   .unfold keys at *;rw[iO,wZ];refine ⟨gw.nd,by simp,?_⟩;intro a ha b hb e';simp at hb;subst hb e';exact z3 ha
   .intro x hx;rcases kN.mp hx with q|q
    .obtain ⟨w',n',h',U,h2,h3,h4,h5,h6⟩:=gw.tr x q;refine ⟨w',n',h',U,h2,h3,h4,h5,?_⟩;rcases h6 with h6|⟨o,h6,h7⟩
     .exact .inl h6
     .exact .inr ⟨o,h6,vL _ h7⟩
    .simp at q;subst q;refine ⟨w,n,h,rfl,e,rfl,z1,z2,?_⟩;rcases WL h e with h6|⟨o,h6,h7⟩
     .exact .inl h6
     .exact .inr ⟨o,h6,vL _ h7⟩
theorem GoodW.BL{g:bp}{out cut w:List Nat}:∀{l:List Nat}{m:Found},GoodW g out cut m->(∀n∈l,∀h,(bh g)[n]? =some h->(h.src=none/\w=[]∨∃o,h.src=some o/\(o,w)∈m))->GoodW g out cut (l.foldl (WK.scan (bh g) out cut w) m)
 | [],_,gw,_=>gw
 |n::l,m,gw,h=>by
  rw[kz];obtain ⟨r,e⟩:=OG (bh g) out cut w m n;refine GoodW.BL (gw.scan (h n (by simp))) fun k hk hh OI=>?_;rcases h k (by simp[hk]) hh OI with q|⟨o,q1,q2⟩
  .exact .inl q
  .exact .inr ⟨o,q1,by rw[e];exact vL _ q2⟩
theorem GoodW.visit{g:bp}{out cut:List Nat}{m:Found}(gw:GoodW g out cut m){x:Nat×List Nat}(hx:x∈m):GoodW g out cut (VW (bh g) out cut m x):=by
 refine gw.BL fun n hn h e=>?_;obtain ⟨h',e',hf⟩:=Gd.mp hn;rw[e]at e';cases e';refine .inr ⟨x.1,?_,hx⟩;unfold bN at hf;cases q:h.src with
 |none=>rw[q]at hf;simp at hf
 |some o=>rw[q]at hf;simp at hf;rw[hf]
theorem GoodW.start(g:bp)(out cut:List Nat):GoodW g out cut (Ad g out cut):=by
 refine GoodW.BL ⟨by simp[keys],fun x hx=>by cases hx⟩ fun n hn h e=>?_;obtain ⟨h',e',hf⟩:=Gd.mp hn;rw[e]at e';cases e';refine .inl ⟨?_,rfl⟩;unfold bN at hf;cases q:h.src with
 |none=>rfl
 |some o=>rw[q]at hf;simp at hf
theorem GoodW.len{g:bp}(ok:iF g){out cut:List Nat}{m:Found}(gw:GoodW g out cut m):m.length<=g.objs.length:=by
 have:=zX (N:=g.objs.length) gw.nd (fun x hx=>by
  unfold keys at hx;obtain ⟨y,hy,rfl⟩:=js.mp hx;obtain ⟨w,n,h,_,h2,h3,_⟩:=gw.tr y hy;rw[<-h3];exact ok.uX _ (iy h2))
 unfold keys at this
 simpa using this
theorem JS{g:bp}(ok:iF g)(out cut:List Nat){F:Nat}(hF:g.objs.length<=F):jQ g out cut=run (VW (bh g) out cut) F 0 (Ad g out cut):=by
 unfold jQ;rw[Xc];refine Xa (JR _ _ _) (aiB _ _ _) (N:=g.objs.length) (Pr:=GoodW g out cut) (fun m x hx gw=>gw.visit hx) (fun m gw=>gw.len ok) _ _ 0 (GoodW.start g out cut) (dU _) (fun x hx=>by simp at hx) ?_ F (by omega);cases h:Ad g out cut with
 |nil=>exact .inl rfl
 |cons a r=>exact .inr (by simp)
theorem Xf{g:bp}{out cut:List Nat}:∀(F p:Nat)(m:Found),GoodW g out cut m->GoodW g out cut (run (VW (bh g) out cut) F p m)
 |0,_,_,h=>h
 |F+1,p,m,h=>by
  unfold run
  split
  .exact h
  .rename_i x e;exact Xf F (p+1) _ (h.visit (iy e))
theorem DN{g:bp}(ok:iF g)(out cut:List Nat):GoodW g out cut (jQ g out cut):=by
 rw[JS ok out cut (dR _)];exact Xf _ _ _ (GoodW.start g out cut)
def tD(m:Found):Prop:=∀(i:Nat)(x:Nat×List Nat),m[i]? =some x->x.2.length<=i+1
theorem tD.scan{hs:List Hold}{out cut w:List Nat}{m:Found}(l:tD m)(hw:w.length<=m.length)(n:Nat):tD (scan hs out cut w m n):=by
 unfold WK.scan
 split
 .exact l
 .split
  .exact l
  .intro i x hx;rcases zO i m.length with z|z
   .rw[By z]at hx;exact l i x hx
   .rw[NQ z]at hx;have h0:i-m.length=0:=by
     have:=(gq.mp hx).1;simp at this;omega
    rw[h0]at hx;cases hx;simp;omega
theorem tD.BL{hs:List Hold}{out cut w:List Nat}:∀{l:List Nat}{m:Found},tD m->w.length<=m.length->tD (l.foldl (WK.scan hs out cut w) m)
 | [],_,h,_=>h
 |n::l,m,h,hw=>by
  rw[kz];obtain ⟨r,e⟩:=OG hs out cut w m n;exact tD.BL (h.scan hw n) (by rw[e,gR];omega)
theorem tD.all{m:Found}(h:tD m){x:Nat×List Nat}(hx:x∈m):x.2.length<=m.length:=by
 obtain ⟨i,hi,e⟩:=Jv.mp hx;have:=h i x (by rw[iN hi,e]);omega
theorem Xg{hs:List Hold}{out cut:List Nat}:∀(F p:Nat)(m:Found),tD m->tD (run (VW hs out cut) F p m)
 |0,_,_,h=>h
 |F+1,p,m,h=>by
  rw[OF]
  split
  .exact h
  .rename_i x e;exact Xg F (p+1) _ (tD.BL h (h.all (iy e)))
theorem OJ{g:bp}(ok:iF g){out cut:List Nat}{x:Nat×List Nat}(hx:x∈jQ g out cut):x.2.length<=g.objs.length:=by
 have l:tD (jQ g out cut):=by
  rw[JS ok out cut (dR _)];refine Xg _ _ _ (tD.BL (fun i x h=>by simp at h) (by simp))
 exact gN (l.all hx) ((DN ok out cut).len ok)
theorem Xh{g:bp}(ok:iF g){out cut:List Nat}:∀(F p:Nat)(m:Found),GoodW g out cut m->g.objs.length<=F+p->(∀(j:Nat)(x:Nat×List Nat),j<p->m[j]? =some x->∀n∈vQ (bh g) (x.1+1),yx (bh g) out cut m n)->
  ∀x∈run (VW (bh g) out cut) F p m,∀n∈vQ (bh g) (x.1+1),yx (bh g) out cut (run (VW (bh g) out cut) F p m) n
 |0,p,m,gw,hF,hd=>by
  intro x hx n hn;obtain ⟨j,hj,e⟩:=Jv.mp hx;have hl:=gw.len ok;have Ge:j<m.length:=hj;refine hd j x (by omega) ?_ n hn;have:m[j]? =some m[j]:=iN Ge;rw[this];exact congrArg some e
 |F+1,p,m,gw,hF,hd=>by
  unfold run
  split
  .rename_i e;intro x hx n hn;obtain ⟨j,hj,e'⟩:=Jv.mp hx;have:m.length<=p:=NR.mp e;exact hd j x (by omega) (by rw[iN hj,e']) n hn
  .rename_i y e;obtain ⟨r,er⟩:=JR (bh g) out cut m y;refine Xh ok F (p+1) _ (gw.visit (iy e)) (by omega) ?_;intro j x hj hx n hn;have hp:p<m.length:=(gq.mp e).1;rw[er,By (by omega)]at hx;by_cases z:j=p
   .subst z;rw[e]at hx;cases hx;exact JQ _ _ _ _ _ _ n hn
   .rw[er];exact (hd j x (by omega) hx n hn).more
theorem Xi{g:bp}(ok:iF g){out cut:List Nat}{o:Nat}:o∈keys (jQ g out cut)↔hX g out cut o:=by
 have gw:=DN ok out cut;constructor
 ·
  have gen:∀(k:Nat)(x:Nat×List Nat),x∈jQ g out cut->x.2.length<=k->hX g out cut x.1:=by
   intro k
   induction k with
   |zero=>
    intro x hx hl;obtain ⟨w,n,h,U,_⟩:=gw.tr x hx;rw[U]at hl;simp at hl
   |succ k ih=>
    intro x hx hl;obtain ⟨w,n,h,U,h2,h3,h4,h5,h6⟩:=gw.tr x hx;rw[<-h3];rcases h6 with ⟨h6,_⟩|⟨o,h6,h7⟩
    .exact .root h2 h4 h5 h6
    .refine .step h2 h4 h5 h6 (ih (o,w) h7 ?_);rw[U]at hl;simp at hl;exact hl
  intro h;unfold keys at h;obtain ⟨x,hx,rfl⟩:=js.mp h;exact gen _ x hx (dR _)
 .intro h;have e:=JS ok out cut (dR _);have pre:∀(F p:Nat)(m:Found),∃r,run (VW (bh g) out cut) F p m=m++r:=by
   intro F
   induction F with
   |zero=>intro p m;exact ⟨[],by simp[run]⟩
   |succ F ih=>
    intro p m;unfold run
    split
    .exact ⟨[],by simp⟩
    .rename_i x _;obtain ⟨r1,e1⟩:=JR (bh g) out cut m x;obtain ⟨r2,e2⟩:=ih (p+1) (VW (bh g) out cut m x);exact ⟨r1++r2,by rw[e2,e1,uS]⟩
  have closed:=Xh ok (out:=out) (cut:=cut) g.objs.length 0 (Ad g out cut) (GoodW.start g out cut) (by omega) (fun j x hj=>by omega);rw[<-e]at closed
  induction h with
  | @root i h a b c d=>
   have hn:i∈vQ (bh g) 0:=Gd.mpr ⟨h,a,by unfold bN;rw[d]⟩;have t0:=JQ (bh g) out cut [] (vQ (bh g) 0) [] i hn;obtain ⟨r,er⟩:=pre g.objs.length 0 (Ad g out cut);rcases t0 h a with q|q|q
   .exact absurd q b
   .exact absurd q c
   .rw[e,er];exact Xd q
  | @step i o h a b c d _ ih=>
   unfold keys at ih;obtain ⟨x,hx,rfl⟩:=js.mp ih;have hn:i∈vQ (bh g) (x.1+1):=Gd.mpr ⟨h,a,by unfold bN;rw[d]⟩;rcases closed x hx i hn h a with q|q|q
   .exact absurd q b
   .exact absurd q c
   .exact q
end WK
namespace WK
theorem Xj{α:Type}(f:α->Int)(N:Int):∀l:List α,l.Pairwise (fun a b=>f a<=f b)->l.filter (fun x=>decide (f x<N+1))=l.filter (fun x=>decide (f x<N))++l.filter (fun x=>f x==N)
 | [],_=>rfl
 |a::r,h=>by
  obtain ⟨U,h2⟩:=Bx.mp h;have ih:=Xj f N r h2;rw[kO,kO,kO];by_cases z1:f a<N
  .have z2:¬f a=N:=by omega
   have z3:f a<N+1:=by omega
   simp[z1,z2,z3]
   simpa using ih
  .have e:r.filter (fun x=>decide (f x<N))=[]:=Js.mpr fun x hx=>by
    have:=U x hx;simp;omega
   by_cases z2:f a=N
   .have z3:f a<N+1:=by omega
    rw[e]at ih;rw[e];have z4:decide (f a<N+1)=true:=decide_eq_true z3;have z5:(f a==N)=true:=by simp[z2]
    have z6:decide (f a<N)=false:=decide_eq_false z1;rw[if_pos z4,if_pos z5,if_neg (by rw[z6];decide)];rw[agv]at ih ⊢;rw[ih]
   .have z3:¬f a<N+1:=by omega
    simp[z1,z2,z3]
    simpa using ih
theorem Xk{α:Type}(f:α->Int)(l:List α)(h:l.Pairwise (fun a b=>f a<=f b))(h0:∀x∈l,0<=f x):∀N:Nat,l.filter (fun x=>decide (f x<(N:Int)))=(jO N).flatMap fun (d:Nat)=>l.filter fun x=>f x==(d:Int)
 |0=>Js.mpr fun x hx=>by
  have:=h0 x hx;rw[decide_eq_true_iff];omega
 |N+1=>by
  have ih:=Xk f l h h0 N;have st:=Xj f (N:Int) l h;have e:((N+1:Nat):Int)=(N:Int)+1:=by omega
  rw[e,st,ih,VH,sZ];simp
theorem aiF{α:Type}(f:α->Int)(l:List α)(h:l.Pairwise (fun a b=>f a<=f b))(N:Nat)(h0:∀x∈l,0<=f x/\f x<(N:Int)):l=(jO N).flatMap fun (d:Nat)=>l.filter fun x=>f x==(d:Int):=by
 rw[<-Xk f l h (fun x hx=>(h0 x hx).1) N];exact (Dr.mpr fun x hx=>decide_eq_true (h0 x hx).2).symm
end WK
namespace WK
open Vasnpa (Graph Hold holdsOf)
open Vasnpb (Flow used fromPlace toPlace Step isFound seek turned fill noFlow greatest toldCut letGo needed Left walk waysIn toldWays)
open Classical
def gB(g:bp)(lf:List Bool):List HN:=(allOf g).filter fun h=>uf lf h.2
theorem OK{g:bp}(ok:iF g)(lf:List Bool):Env g.objs.length (bh g).length (gB g lf):=(uZ ok).filter _
def Within(us lf:List Bool):Prop:=∀n,uf us n=true->uf lf n=true
theorem Tree.split{N H:Nat}{hs:List HN}(env:Env N H hs){u:Nat->Bool}{p:Nat}{l:List Step}(t:Tree hs u p l):∀{q:Nat},dY l q=true->q≠p->∃l' s r h,l=l'++s::r/\Tree hs u p l'/\Goes hs u s h/\dY l' s.before=true/\s.place=q/\s.before≠s.place/\
  ∀s'∈l',s'.before≠s'.place->s'.hold≠s.hold:=by
 induction t with
 |one=>
  intro q h n;obtain ⟨s,hs,e⟩:=yw.mp h;simp[first]at hs;subst hs;exact absurd e.symm n
 | @snoc l s h t g hb hp ih=>
  intro q hq n;by_cases e:dY l q=true
  .obtain ⟨l',s',r,h',e1,t',g',b',p',n',u'⟩:=ih e n;exact ⟨l',s',r++[s],h',by rw[e1];simp,t',g',b',p',n',u'⟩
  .have yy:s.place=q:=by
    rw[BK]at hq;have:dY [s] q=true:=by simpa[e]using hq
    simpa[dY]using this
   have nb:s.before≠s.place:=fun z=>by
    rw[z,hp]at hb;cases hb
   refine ⟨l,s,[],h,rfl,t,g,hb,yy,nb,?_⟩;intro s' lq hn he;obtain ⟨k,gk⟩:=t.Oy s' lq hn;have hk:k=h:=env.inj gk.mem g.mem (by rw[gk.num,g.num,he]);subst hk;have ef:s'.forth=s.forth:=by
    have U:=gk.use;rw[g.use]at U;cases e1:s'.forth<;>cases e2:s.forth<;>rw[e1,e2]at U<;>first|rfl|cases U
   have epl:s'.place=s.place:=by rw[gk.Ab,g.Ab,ef]
   have:dY l s.place=true:=yw.mpr ⟨s',lq,epl⟩;rw[hp]at this;cases this
theorem Tree.add{hs:List HN}{u:Nat->Bool}{st:Nat}{l:List Step}(t:Tree hs u st l){p:Nat}(hp:dY l p=true){h:HN}(hh:h∈hs){e:Nat}(he:(u h.2=false/\bN h.1=p/\dD h.1=e)∨(u h.2=true/\dD h.1=p/\bN h.1=e))(hn:dY l e=false):
  Tree hs u st (l++[{place:=e,before:=p,hold:=h.2,forth:=!u h.2}]):=by
 refine t.snoc (h:=h) ⟨hh,rfl,by cases u h.2<;>rfl,?_,?_⟩ hp hn
 .rcases he with ⟨U,h2,h3⟩|⟨U,h2,h3⟩
  .rw[U];exact h2.symm
  .rw[U];exact h2.symm
 .rcases he with ⟨U,h2,h3⟩|⟨U,h2,h3⟩
  .rw[U];exact h3.symm
  .rw[U];exact h3.symm
def Ae(hs:List HN)(u:Nat->Bool)(l m:List Step)(a:Nat):Prop:=∀i s,i<a->l[i]? =some s->∀h∈hs,(u h.2=false->bN h.1=s.place->dY m (dD h.1)=true)/\(u h.2=true->dD h.1=s.place->dY m (bN h.1)=true)
theorem Ae.closed{hs:List HN}{u:Nat->Bool}{l:List Step}(k:Ae hs u l l l.length):qF hs u fun p=>dY l p=true:=by
 refine ⟨fun h hh hu hp=>?_,fun h hh hu hp=>?_⟩
 .obtain ⟨s,hs,e⟩:=yw.mp hp;obtain ⟨i,hi⟩:=rj hs;exact (k i s (gq.mp hi).1 hi h hh).1 hu e.symm
 .obtain ⟨s,hs,e⟩:=yw.mp hp;obtain ⟨i,hi⟩:=rj hs;exact (k i s (gq.mp hi).1 hi h hh).2 hu e.symm
theorem JU{hs:List HN}{u:Nat->Bool}{st:Nat}{l:List Step}(t:Tree hs u st l)(c:qF hs u fun p=>dY l p=true)(q:Nat):dY l q=true↔Res hs u st q:=⟨t.res,fun r=>c.res t.start r⟩
theorem aiH{hs:List HN}{H:Nat}{N:Nat}(env:Env N H hs){us:List Bool}(hl:us.length=H){u:Nat->Bool}{s:Step}{h:HN}(g:Goes hs u s h)(hu:uf us s.hold= !s.forth)(φ:Nat->Int):
  D hs (uf (us.set s.hold s.forth)) φ=D hs (uf us) φ+(φ s.before-φ s.place):=by
 have eU:s.hold<us.length:=by rw[hl,<-g.num];exact env.lt h g.mem
 rw[F5 env.nd g.mem (u:=uf us) (v:=uf (us.set s.hold s.forth)) (by intro n hn;rw[p9 eU,if_neg (by rw[<-g.num];exact hn)])];have e1:uf (us.set s.hold s.forth) h.2=s.forth:=by rw[p9 eU,if_pos g.num]
 have e2:uf us h.2= !s.forth:=by rw[g.num];exact hu
 rw[e1,e2,g.JL,g.Ab];cases s.forth<;>simp<;>omega
theorem aiI{g:bp}{lf:List Bool}{u:Nat->Bool}(h:∀n,u n=true->uf lf n=true)(φ:Nat->Int):D (gB g lf) u φ=D (allOf g) u φ:=by
 unfold gB;rw[F7 (uf lf) u φ];apply BI;intro k _;cases e:u k.2 with
 |false=>rfl
 |true=>rw[h _ e];rfl
def j0(g:bp)(x:Nat):List Bool:=(bh g).map fun h=>bN h !=x+1
theorem aiJ(g:bp)(x:Nat):(j0 g x).length=(bh g).length:=by unfold j0;simp
theorem Xl{g:bp}{x:Nat}{h:HN}(hh:h∈allOf g):uf (j0 g x) h.2=(bN h.1 !=x+1):=by
 unfold uf j0;rw[lT,gp,tu.mp hh];rfl
theorem aiK(g:bp)(x:Nat):gB g (j0 g x)=(allOf g).filter fun h=>bN h.1 !=x+1:=by
 unfold gB;exact qC fun h hh=>Xl hh
theorem Xm{g:bp}{lf us:List Bool}(hw:Within us lf){t:Nat}{k:Int}(f:iQ (gB g lf) (uf us) t k):iQ (allOf g) (uf us) t k:=fun φ=>by rw[<-aiI hw];exact f φ
theorem OL{g:bp}{x:Nat}{us:List Bool}(hw:Within us (j0 g x))(hn:¬Res (gB g (j0 g x)) (uf us) 0 (x+1))(p:Nat):Res (allOf g) (uf us) 0 p↔Res (gB g (j0 g x)) (uf us) 0 p:=by
 constructor
 .intro r;refine qF.res (S:=Res (gB g (j0 g x)) (uf us) 0) ⟨fun h hh hu hs=>?_,fun h hh hu hs=>?_⟩ .start r
  .by_cases e:bN h.1=x+1
   .rw[e]at hs;exact absurd hs hn
   .exact .forth (gT.mpr ⟨hh,by rw[Xl hh];simpa using e⟩) hu hs
  .exact .back (gT.mpr ⟨hh,hw _ hu⟩) hu hs
 .intro r;refine qF.res (S:=Res (allOf g) (uf us) 0) ⟨fun h hh hu hs=>.forth (gT.mp hh).1 hu hs,fun h hh hu hs=>.back (gT.mp hh).1 hu hs⟩ .start r
theorem aiL{g:bp}(ok:iF g){x:Nat}{us:List Bool}(hw:Within us (j0 g x)){k:Int}(f:iQ (gB g (j0 g x)) (uf us) (x+1) k){l:List Step}(t:Tree (gB g (j0 g x)) (uf us) 0 l)(c:qF (gB g (j0 g x)) (uf us) fun p=>dY l p=true)(hn:dY l (x+1)=false):toldCut g x=((allOf g).filter fun h=>dY l (bN h.1)&&!dY l (dD h.1)).map (·.2):=by
 have DO:¬Res (gB g (j0 g x)) (uf us) 0 (x+1):=fun r=>by
  rw[(JU t c _).mpr r]at hn;cases hn
 refine ain ok (Xm hw f) (fun r=>DO ((OL hw DO _).mp r)) (S:=dY l) fun p=>?_;rw[JU t c p];exact (OL hw DO p).symm
theorem OM{g:bp}{lf:List Bool}{n:Nat}(hn:n<lf.length):gB g (lf.set n false)=without (gB g lf) n:=by
 unfold gB without;rw[w8];refine qC fun h _=>?_;rw[p9 hn];by_cases e:h.2=n
 .rw[if_pos e];simp[e]
 .rw[if_neg e];simp[e]
theorem aiM{g:bp}{lf:List Bool}{n:Nat}(hn:n<lf.length)(h:uf lf n=true):gB g (lf.set n true)=gB g lf:=by
 unfold gB;refine qC fun k _=>?_;rw[p9 hn];by_cases e:k.2=n
 .rw[if_pos e,e,h]
 .rw[if_neg e]
theorem aiN{hs:List HN}{n:Nat}(h:∀k∈hs,k.2≠n):without hs n=hs:=Dr.mpr fun k hk=>by simpa using h k hk
theorem aiO{g:bp}{H:Nat}{hs:List HN}(env:Env g.objs.length H hs){f:Flow}(hf:f.length=H){t:Nat}{k:Int}(fl:iQ hs (uf f) t k)(hk:0<=k){h:HN}(hh:h∈hs)(hu:uf f h.2=true):
  (Res (without hs h.2) (uf (f.set h.2 false)) (bN h.1) (dD h.1)->jb t k hs h=without hs h.2)/\(¬Res (without hs h.2) (uf (f.set h.2 false)) (bN h.1) (dD h.1)->jb t k hs h=hs):=by
 obtain ⟨a,_,_⟩:=W0 env hf fl hk hh;have Ac:Env g.objs.length H (without hs h.2):=env.filter _;obtain ⟨_,sp⟩:=F6 Ac (f.set h.2 false) (env.fr h hh);have q':used f h=true:=hu;refine ⟨fun r=>?_,fun r=>?_⟩
 .rw[<-a];unfold letGo;simp only[q'];show ((if dY (seek g (without hs h.2) (f.set h.2 false) (bN h.1)) (dD h.1)=true then (without hs h.2,_) else _):Left).1=_;rw[if_pos ((sp _).mpr r)]
 .rw[<-a];unfold letGo;simp only[q'];show ((if dY (seek g (without hs h.2) (f.set h.2 false) (bN h.1)) (dD h.1)=true then (without hs h.2,_) else (hs,f)):Left).1=_;rw[if_neg (fun z=>r ((sp _).mp z))]
theorem aiP{hs:List HN}{u:Nat->Bool}(nd:(hs.map (·.2)).Nodup){t:Nat}{k:Int}(fl:iQ hs u t k){h:HN}(hu:u h.2=false):jb t k hs h=without hs h.2/\iQ (without hs h.2) u t k:=by
 have f2:iQ (without hs h.2) u t k:=by
  intro φ;unfold without;rw[F7 (fun n=>n !=h.2) u φ,<-fl φ];apply BI;intro j _;by_cases e:j.2=h.2
  .rw[e,hu];rfl
  .simp[e]
 refine ⟨?_,f2⟩;unfold jb;rw[if_pos ⟨u,f2⟩]
theorem Xn{g:bp}{H:Nat}{hs:List HN}(env:Env g.objs.length H hs){x:Nat}{k:Int}(most:∀j,mN hs (x+1) j->j<=k)(h:mN hs (x+1) k):mN (hs.filter fun h=>bN h.1 !=x+1) (x+1) k:=by
 have Ac:Env g.objs.length H (hs.filter fun h=>bN h.1 !=x+1):=env.filter _;have z0:iQ (hs.filter fun h=>bN h.1 !=x+1) (uf (oV H false)) (x+1) 0:=by
  intro φ;have e:∀n,uf (oV H false) n=false:=fun n=>by
   unfold uf;rw[lT,VI]
   split<;>rfl
  unfold D;rw[Int.zero_mul];have:(hs.filter fun h=>bN h.1 !=x+1).map (fun h=>if uf (oV H false) h.2=true then φ (bN h.1)-φ (dD h.1) else 0)=(hs.filter fun h=>bN h.1 !=x+1).map fun _=>(0:Int):=by
   apply yo;intro a _;rw[e,if_neg (by simp)]
  rw[this];clear this
  induction (hs.filter fun h=>bN h.1 !=x+1) with
  |nil=>rfl
  |cons a r ih=>rw[jx,yp,ih];rfl
 obtain ⟨k',a,b,c⟩:=OB Ac (x:=x) (rn (hs.filter fun h=>bN h.1 !=x+1)+1) (oV H false) 0 (by simp) z0;have hle:=OC b;have nr:¬Res (hs.filter fun h=>bN h.1 !=x+1) (uf (fill g (hs.filter fun h=>bN h.1 !=x+1) x (rn (hs.filter fun h=>bN h.1 !=x+1)+1) (oV H false))) 0 (x+1):=by
  rcases c with c|c
  .exact c
  .push_cast at c;omega
 have mc:=JK b nr;have el:∀(S:Nat->Prop),¬S (x+1)->∀l:List HN,leave l S=leave (l.filter fun h=>bN h.1 !=x+1) S:=by
  intro S hS l
  induction l with
  |nil=>rfl
  |cons a r ih=>
   rw[BJ,ih,kO];by_cases e:bN a.1=x+1
   .have e0:(if S (bN a.1)/\¬S (dD a.1) then (1:Int) else 0)=0:=if_neg (by rw[e];exact fun z=>hS z.1);have e1:¬(bN a.1 !=x+1)=true:=by simp[e]
    rw[e0,if_neg e1];omega
   .have e1:(bN a.1 !=x+1)=true:=by simpa using e
    rw[if_pos e1,BJ]
 obtain ⟨v,fv⟩:=h;have U:=JJ fv (S:=Res (hs.filter fun h=>bN h.1 !=x+1) (uf (fill g (hs.filter fun h=>bN h.1 !=x+1) x (rn (hs.filter fun h=>bN h.1 !=x+1)+1) (oV H false))) 0) .start nr;rw[el _ nr,mc]at U;have ef:(hs.filter fun h=>bN h.1 !=x+1)=hs.filter fun h=>(fun n=>hs.any fun j=>j.2==n&&bN j.1 !=x+1) h.2:=by
  refine qC fun h hh=>?_;rw[n4];constructor
  .intro z;exact sY.mpr ⟨h,hh,by rw[z];simp⟩
  .intro z;obtain ⟨j,hj,z⟩:=sY.mp z;rw[jN,beq_iff_eq]at z;rw[<-env.inj hj hh z.1];exact z.2
 have h2:k'<=k:=by
  have b':mN (hs.filter fun h=>bN h.1 !=x+1) (x+1) k':=⟨_,b⟩;rw[ef]at b';exact most k' (mN.mono (q:=fun n=>hs.any fun j=>j.2==n&&bN j.1 !=x+1) b')
 have:k'=k:=by omega
 rw[<-this];exact ⟨_,b⟩
theorem aiQ{g:bp}{H:Nat}{hs:List HN}(env:Env g.objs.length H hs){x:Nat}{k:Int}(most:∀j,mN hs (x+1) j->j<=k):mN (hs.filter fun h=>bN h.1 !=x+1) (x+1) k↔mN hs (x+1) k:=by
 refine ⟨fun h=>?_,Xn env most⟩;have ef:(hs.filter fun h=>bN h.1 !=x+1)=hs.filter fun h=>(fun n=>hs.any fun j=>j.2==n&&bN j.1 !=x+1) h.2:=by
  refine qC fun h hh=>?_;rw[n4];constructor
  .intro z;exact sY.mpr ⟨h,hh,by rw[z];simp⟩
  .intro z;obtain ⟨j,hj,z⟩:=sY.mp z;rw[jN,beq_iff_eq]at z;rw[<-env.inj hj hh z.1];exact z.2
 rw[ef]at h;exact mN.mono (q:=fun n=>hs.any fun j=>j.2==n&&bN j.1 !=x+1) h
theorem Xo{g:bp}{x:Nat}{k:Int}(m:vP g x k){q:HN->Bool}(ok:iF g):∀j,mN ((allOf g).filter q) (x+1) j->j<=k:=fun j h=>by
 have ef:((allOf g).filter q)=(allOf g).filter fun h=>(fun n=>(allOf g).any fun j=>j.2==n&&q j) h.2:=by
  refine qC fun h hh=>?_;rw[n4];constructor
  .intro z;exact sY.mpr ⟨h,hh,by rw[z];simp⟩
  .intro z;obtain ⟨j,hj,z⟩:=sY.mp z;rw[jN,beq_iff_eq]at z;rw[<-(uZ ok).inj hj hh z.1];exact z.2
 rw[ef]at h;exact m.2 j (mN.mono (q:=fun n=>(allOf g).any fun j=>j.2==n&&q j) h)
theorem OO{g:bp}(ok:iF g){x:Nat}{k:Int}(m:vP g x k):∀(ks done:List HN)(q:HN->Bool),(allOf g)=done++ks->mN ((allOf g).filter q) (x+1) k->(∀h∈(allOf g).filter q,bN h.1=x+1->h∈ks)->
  (∀h∈done,h∉ks)->
  ks.foldl (jb (x+1) k) ((allOf g).filter q)=ks.foldl (jb (x+1) k) (((allOf g).filter q).filter fun h=>bN h.1 !=x+1)
 | [],done,q,_,_,hk,_=>by
  show (allOf g).filter q=_;refine (Dr.mpr fun h hh=>?_).symm;rw[bne_iff_ne];exact fun z=>by cases hk h hh z
 |h::ks,done,q,e,hf,hk,hd=>by
  have env:Env g.objs.length (bh g).length ((allOf g).filter q):=(uZ ok).filter q;have nd:((allOf g).map (·.2)).Nodup:=(uZ ok).nd;have hm:h∈allOf g:=by rw[e];simp
  have Ac:Env g.objs.length (bh g).length (without ((allOf g).filter q) h.2):=env.filter _;have ew:without ((allOf g).filter q) h.2=(allOf g).filter fun j=>q j&&j.2 !=h.2:=by
   unfold without;rw[w8];exact qC fun j _=>NP _ _
  have wf:(without ((allOf g).filter q) h.2).filter (fun h=>bN h.1 !=x+1)=without (((allOf g).filter q).filter fun h=>bN h.1 !=x+1) h.2:=by
   unfold without;rw[w8,w8 (l:=(allOf g).filter q)];exact qC fun j _=>NP _ _
  have OP:mN (without (((allOf g).filter q).filter fun h=>bN h.1 !=x+1) h.2) (x+1) k↔mN (without ((allOf g).filter q) h.2) (x+1) k:=by
   rw[<-wf];exact aiQ Ac (by rw[ew];exact Xo m ok)
  have hnk:∀j∈allOf g,j.2≠h.2->j∈ks∨j∈done∨False:=by
   intro j hj md;rw[e]at hj;rcases kN.mp hj with z|z
   .exact .inr (.inl z)
   .rcases f6.mp z with z|z
    .exact absurd (by rw[z]) md
    .exact .inl z
  have ndk:h∉ks:=by
   have n2:=nd;rw[e,iO,jx,wZ]at n2;exact fun z=>(t8.mp n2.2.1).1 (Dt z)
  have e2:allOf g=(done++[h])++ks:=by rw[e];simp
  have hd2:∀j∈done++[h],j∉ks:=by
   intro j hj;rcases kN.mp hj with z|z
   .exact fun y=>hd j z (lU _ y)
   .simp at z;subst z;exact ndk
  rw[kz,kz];by_cases z:mN (without ((allOf g).filter q) h.2) (x+1) k
  .have d1:jb (x+1) k ((allOf g).filter q) h=(allOf g).filter fun j=>q j&&j.2 !=h.2:=by
    unfold jb;rw[if_pos z,ew]
   have d2:jb (x+1) k (((allOf g).filter q).filter fun h=>bN h.1 !=x+1) h=((allOf g).filter fun j=>q j&&j.2 !=h.2).filter fun h=>bN h.1 !=x+1:=by
    unfold jb;rw[if_pos (OP.mpr z),<-wf,ew]
   rw[d1,d2];refine OO ok m ks (done++[h]) _ e2 (by rw[<-ew];exact z) (fun j hj xi=>?_) hd2;obtain ⟨j1,j2⟩:=gT.mp hj;rw[jN,bne_iff_ne]at j2;have:=hk j (gT.mpr ⟨j1,j2.1⟩) xi;rcases f6.mp this with y|y
   .exact absurd (by rw[y]) j2.2
   .exact y
  .have d1:jb (x+1) k ((allOf g).filter q) h=(allOf g).filter q:=by
    unfold jb;rw[if_neg z]
   have d2:jb (x+1) k (((allOf g).filter q).filter fun h=>bN h.1 !=x+1) h=((allOf g).filter q).filter fun h=>bN h.1 !=x+1:=by
    unfold jb;rw[if_neg (fun y=>z (OP.mp y))]
   rw[d1,d2];refine OO ok m ks (done++[h]) q e2 hf (fun j hj xi=>?_) hd2;rcases f6.mp (hk j hj xi) with y|y
   .subst y
    exfalso
    apply z;have f0:=Xn env (by exact Xo m ok) hf;have aiS:without (((allOf g).filter q).filter fun h=>bN h.1 !=x+1) j.2=((allOf g).filter q).filter fun h=>bN h.1 !=x+1:=by
     refine aiN fun i hi=>?_;obtain ⟨i1,i2⟩:=gT.mp hi;intro ei;have:=env.inj i1 hj ei;rw[this,xi]at i2;simp at i2
    exact OP.mp (by rw[aiS];exact f0)
   .exact y
theorem aiT{g:bp}(ok:iF g){x:Nat}{k:Int}(m:vP g x k):needed g x=(allOf g).foldl (jb (x+1) k) (gB g (j0 g x)):=by
 rw[(OD ok m).1,aiK];have e:(allOf g).filter (fun _=>true)=allOf g:=Dr.mpr fun _ _=>rfl;have:=OO ok m (allOf g) [] (fun _=>true) rfl (by rw[e];exact m.1) (fun h hh _=>by rw[e]at hh;exact hh) (fun h hh=>by cases hh);rw[e]at this;exact this
end WK
namespace WK
open Vasnpa (Graph Hold holdsOf)
open Vasnpb (Flow used fromPlace toPlace Step isFound seek turned fill noFlow greatest toldCut letGo needed Left walk waysIn toldWays)
open Classical
def ofPlace(R:List HN)(q:Nat):List Nat:=(R.filter fun k=>bN k.1==q).map (·.2)
theorem Xp:∀{R:List HN}{p:Nat}{h:HN},(R.map (·.2)).Nodup->R.find? (fun h=>bN h.1==p)=some h->ofPlace R p=h.2::ofPlace (without R h.2) p
 | [],p,h,_,e=>by cases e
 |a::R,p,h,nd,e=>by
  rw[jx,t8]at nd;by_cases z:(bN a.1==p)=true
  .rw[t9,z]at e;cases e;have e1:without (a::R) a.2=R:=by
    unfold without;rw[kO,if_neg (by simp)];exact Dr.mpr fun k hk=>by
     rw[bne_iff_ne];exact fun y=>nd.1 (by rw[<-y];exact Dt hk)
   rw[e1];unfold ofPlace;rw[kO,if_pos z];rfl
  .have z':(bN a.1==p)=false:=by simpa using z
   rw[t9,z']at e;have hm:=FN e;have ne:a.2≠h.2:=fun y=>nd.1 (by rw[y];exact Dt hm);have e1:without (a::R) h.2=a::without R h.2:=by
    unfold without;rw[kO,if_pos (by simpa using ne)]
   have ih:=Xp nd.2 e;rw[e1];unfold ofPlace at ih ⊢;rw[kO,if_neg z,kO,if_neg z];exact ih
theorem aiU{R:List HN}{h:HN}{q:Nat}(nd:(R.map (·.2)).Nodup)(hh:h∈R)(hq:bN h.1≠q):ofPlace (without R h.2) q=ofPlace R q:=by
 unfold ofPlace without;rw[w8];congr 1;refine qC fun k hk=>?_;by_cases e:k.2=h.2
 .have:k=h:=by
   clear hq
   induction R with
   |nil=>cases hk
   |cons a R ih=>
    rw[jx,t8]at nd;rcases f6.mp hk with z|z
    .rcases f6.mp hh with y|y
     .rw[z,y]
     .exact absurd (by rw[<-z,e];exact Dt y) nd.1
    .rcases f6.mp hh with y|y
     .exact absurd (by rw[<-y,<-e];exact Dt z) nd.1
     .exact ih nd.2 y z
  subst this;have:(bN k.1==q)=false:=by simpa using hq
  rw[this];rfl
 .have:(k.2 !=h.2)=true:=by simpa using e
  rw[this,agC]
theorem Xq{R:List HN}{h:HN}(hh:h∈R):(without R h.2).length<R.length:=by
 unfold without;exact List.length_filter_lt_length_iff_exists.mpr ⟨h,hh,by simp⟩
theorem aiV{R:List HN}{n:Nat}(nd:(R.map (·.2)).Nodup):((without R n).map (·.2)).Nodup:=nd.sublist (VE _ Jq)
theorem Xr{R:List HN}{x p:Nat}{j:Int}(nd:(R.map (·.2)).Nodup)(b:u5 R (x+1) j p)(hj:0<=j)(hp:p≠x+1)(n:Nat):∃h,h∈R/\bN h.1=p/\u5 (without R h.2) (x+1) j (dD h.1)/\
  walk x (n+1) p R=(h.2::(walk x n (dD h.1) (without R h.2)).1,(walk x n (dD h.1) (without R h.2)).2)/\ofPlace R p=h.2::ofPlace (without R h.2) p/\∀q,q≠p->ofPlace (without R h.2) q=ofPlace R q:=by
 obtain ⟨h,hf,hm,u6,hb⟩:=b.step nd hj hp;refine ⟨h,hm,u6,hb,?_,Xp nd hf,fun q hq=>aiU nd hm (by rw[u6];exact fun z=>hq z.symm)⟩;have ne:(p==x+1)=false:=by simpa using hp
 show (if (p==x+1)=true then _ else match R.find? fun h=>bN h.1==p with|none=>_|some h=>_)=_;rw[ne,if_neg jt,hf];rfl
theorem aiW(x n:Nat)(R:List HN):walk x (n+1) (x+1) R=([],R):=by
 show (if (x+1==x+1)=true then (([],R):List Nat×List HN) else _)=_;rw[if_pos (beq_self_eq_true _)]
theorem aiX{R:List HN}{x:Nat}{k:Int}(nd:(R.map (·.2)).Nodup)(f:iQ R uc (x+1) k){a:Nat}{rest:List Nat}(e:ofPlace R 0=a::rest):
  ∃h,h∈R/\h.2=a/\bN h.1=0/\0<=k-1/\u5 (without R h.2) (x+1) (k-1) (dD h.1)/\ofPlace (without R h.2) 0=rest/\(∀q,q≠0->ofPlace (without R h.2) q=ofPlace R q)/\
   ∀n,waysIn x (n+1) R=(h.2::(walk x R.length (dD h.1) (without R h.2)).1)::waysIn x n (walk x R.length (dD h.1) (without R h.2)).2:=by
 have rc:(rn R:Int)=k:=ais (by omega) f;have Xs:∀h:HN,(h.1.src==none)=(bN h.1==0):=by
  intro h;unfold bN;cases h.1.src<;>rfl
 have el:rn R=(ofPlace R 0).length:=by
  unfold rn ofPlace;rw[bt];congr 1;exact qC fun h _=>Xs h
 have hk:0<=k-1:=by
  rw[e]at el;simp at el;omega
 have b:u5 R (x+1) (k-1) 0:=by
  intro φ;rw[f φ];have:k*(φ 0-φ (x+1))=(k-1)*(φ 0-φ (x+1))+(φ 0-φ (x+1)):=by
   rw[Int.sub_mul,agD];omega
  exact this
 obtain ⟨h,hm,hp,hb,hw,ho,hq⟩:=Xr nd b hk (by omega) R.length;rw[e]at ho;obtain ⟨e1,e2⟩:=Bz ho;refine ⟨h,hm,e1.symm,hp,hk,hb,e2.symm,hq,fun n=>?_⟩;have OR:R.any (fun h=>h.1.src==none)=true:=sY.mpr ⟨h,hm,by rw[Xs,hp];rfl⟩;show (if R.any (fun h=>h.1.src==none)=true then (walk x (R.length+1) 0 R).1::waysIn x n (walk x (R.length+1) 0 R).2 else [])=_;rw[if_pos OR,hw]
theorem aiY{R:List HN}{x:Nat}(e:ofPlace R 0=[])(n:Nat):waysIn x n R=[]:=by
 cases n with
 |zero=>rfl
 |succ n=>
  have OR:R.any (fun h=>h.1.src==none)=false:=by
   rw[agE];intro z;obtain ⟨h,hm,hs⟩:=sY.mp z;have:h.2∈ofPlace R 0:=js.mpr ⟨h,gT.mpr ⟨hm,by
    unfold bN;cases e2:h.1.src with
    |none=>rfl
    |some o=>rw[e2]at hs;cases hs⟩,rfl⟩
   rw[e]at this;cases this
  show (if R.any (fun h=>h.1.src==none)=true then _ else [])=_;rw[OR,if_neg jt]
theorem u5.aiZ{R:List HN}{x:Nat}{j:Int}(b:u5 R (x+1) j (x+1)):iQ R uc (x+1) j:=fun φ=>by
 rw[b φ];omega
end WK
open PySem PySem.Spec PyProof.Rows
namespace L2
abbrev Key:=Sum Int Str
def rY:Key->aq->Bool
 | .inl k,v=>Value.isInt k v
 | .inr x,v=>Value.isStrOf x v
def ai0(w:eJ):Key->Int
 | .inl k=>hashInt k
 | .inr x=>hashStr w x
theorem vR:∀{k:Key}{v:aq},rY k v=true->(∃i t,k=Sum.inl i/\v=Value.int i t)∨(∃x t,k=Sum.inr x/\v=Value.str x t)
 | .inl i,v,h=>by
  obtain ⟨t,e⟩:=Value.isInt_shape (k:=i) (v:=v) h;exact .inl ⟨i,t,rfl,e⟩
 | .inr x,v,h=>by
  obtain ⟨t,e⟩:=Value.isStrOf_shape (x:=x) (v:=v) h;exact .inr ⟨x,t,rfl,e⟩
theorem ai1(i:Int)(t:Tok):rY (.inl i) (.int i t)=true:=by simp[rY,Value.isInt]
theorem ai2(x:Str)(t:Tok):rY (.inr x) (.str x t)=true:=by simp[rY,Value.isStrOf]
theorem ai3(a b:Int):decide ((Sum.inl a:Key)=Sum.inl b)=(a==b):=by
 by_cases e:a=b
 .subst e;simp
 .have h:¬(Sum.inl a:Key)=Sum.inl b:=fun q=>e (zP q);rw[decide_eq_false h];exact (beq_eq_false_iff_ne.mpr e).symm
theorem ai4(a b:Str):decide ((Sum.inr a:Key)=Sum.inr b)=decide (a=b):=by
 by_cases e:a=b
 .subst e;simp
 .have h:¬(Sum.inr a:Key)=Sum.inr b:=fun q=>e (Sum.inr.inj q);rw[decide_eq_false h,decide_eq_false e]
theorem ai5(a:Int)(b:Str):decide ((Sum.inl a:Key)=Sum.inr b)=false:=decide_eq_false (fun q=>nomatch q)
theorem ai6(a:Str)(b:Int):decide ((Sum.inr a:Key)=Sum.inl b)=false:=decide_eq_false (fun q=>nomatch q)
def oy(prog:eS)(w:eJ):PySem.KeyKind prog w Key where
 is:=rY
 hash:=ai0 w
 inj:=fun v a b ha hb=>by
  rcases vR ha with ⟨i,t,rfl,rfl⟩|⟨x,t,rfl,rfl⟩
  .rcases vR hb with ⟨j,u,rfl,e⟩|⟨y,u,rfl,e⟩
   .injection e with e1 _;rw[e1]
   .exact nomatch e
  .rcases vR hb with ⟨j,u,rfl,e⟩|⟨y,u,rfl,e⟩
   .exact nomatch e
   .injection e with e1 _;rw[e1]
 byValue:=fun k v h=>by
  rcases vR h with ⟨i,t,rfl,rfl⟩|⟨x,t,rfl,rfl⟩<;>rfl
 pyHash:=fun hv h=>by
  rcases vR hv with ⟨i,t,rfl,rfl⟩|⟨x,t,rfl,rfl⟩
  .exact wpAny_pyHash_int h
  .exact wpAny_pyHash_str h
 eqBool:=fun hu hv h=>by
  rcases vR hu with ⟨i,t,rfl,rfl⟩|⟨x,t,rfl,rfl⟩
  .rcases vR hv with ⟨j,u,rfl,rfl⟩|⟨y,u,rfl,rfl⟩
   .rw[ai3]at h;exact wpAny_eqBool_int h
   .rw[ai5]at h;exact agF i t y u _ _ _ _ h
  .rcases vR hv with ⟨j,u,rfl,rfl⟩|⟨y,u,rfl,rfl⟩
   .rw[ai6]at h;exact agG x t j u _ _ _ _ h
   .rw[ai4]at h;exact wpAny_eqBool_str h
 «strs»:=fun k x t v h=>by
  rcases vR h with ⟨i,u,rfl,e⟩|⟨y,u,rfl,e⟩
  .exact nomatch e
  .injection e with e1 _
   subst e1;cases v<;>rfl
theorem Xt(prog:eS)(w:eJ)(i:Int)(t:Tok):(oy prog w).is (.inl i) (.int i t)=true:=ai1 i t
theorem ai7(prog:eS)(w:eJ)(x:Str)(t:Tok):(oy prog w).is (.inr x) (.str x t)=true:=ai2 x t
inductive V where
 |eM|bl (b:Bool)|int (i:Int)|str (x:Str)|qG (b:Array UInt8)|JV (b:UInt64)|ref (a:Addr)|ty (n:String)
 deriving DecidableEq
def RelV:V->aq->Prop
 | .eM,u=>u=Value.none
 | .bl b,u=>u=Value.bool b
 | .int i,u=>∃t,u=Value.int i t
 | .str x,u=>∃t,u=Value.str x t
 | .qG b,u=>∃t,u=Value.bytes b t
 | .JV b,u=>∃t,u=Value.float b t
 | .ref a,u=>u=Value.ref a
 | .ty n,u=>u=Value.type n
abbrev Vals:List V->List aq->Prop:=Paired RelV
theorem Vals.length{xs:List V}{us:List aq}(r:Vals xs us):xs.length=us.length:=zQ r
theorem Vals.get:∀{xs:List V}{us:List aq}{i:Nat}{x:V},Vals xs us->xs[i]? =some x->∃u,us[i]? =some u/\RelV x u
 |_,_,_,_,.nil,e=>by simp at e
 |_,_,0,_,.cons r _,e=>by simp at e;subst e;exact ⟨_,rfl,r⟩
 |_,_,i+1,x,.cons _ t,e=>by
  obtain ⟨u,U,h2⟩:=Vals.get (i:=i) (x:=x) t (by simpa using e);exact ⟨u,by simpa using U,h2⟩
theorem Vals.set{x:V}{u:aq}(r:RelV x u):∀{xs:List V}{us:List aq}(i:Nat),Vals xs us->Vals (xs.set i x) (us.set i u)
 |_,_,_,.nil=>.nil
 |_,_,0,.cons _ t=>.cons r t
 |_,_,i+1,.cons q t=>.cons q (Vals.set r i t)
theorem Vals.append:∀{xs ys:List V}{us ws:List aq},Vals xs us->Vals ys ws->Vals (xs++ys) (us++ws)
 |_,_,_,_,.nil,s=>s
 |_,_,_,_,.cons r t,s=>.cons r (Vals.append t s)
theorem Vals.take:∀{xs:List V}{us:List aq}(n:Nat),Vals xs us->Vals (xs.take n) (us.take n)
 |_,_,0,_=>.nil
 |_,_,_+1,.nil=>.nil
 |_,_,n+1,.cons r t=>.cons r (Vals.take n t)
theorem Vals.drop:∀{xs:List V}{us:List aq}(n:Nat),Vals xs us->Vals (xs.drop n) (us.drop n)
 |_,_,0,r=>r
 |_,_,_+1,.nil=>.nil
 |_,_,n+1,.cons _ t=>Vals.drop n t
theorem Vals.none_of:∀{xs:List V}{us:List aq}{i:Nat},Vals xs us->xs[i]? =none->us[i]? =none:=fun {xs us i} r e=>by
 have U:=r.length;have h2:xs.length<=i:=NR.mp e;exact NR.mpr (by omega)
def qc:Option V->Option aq->Prop
 |some v,some u=>RelV v u
 |none,none=>True
 |_,_=>False
def KV{κ:Type}:List (κ×V)->List (κ×aq)->Prop:=Paired fun (p:κ×V) (q:κ×aq)=>p.1=q.1/\RelV p.2 q.2
def kV:Key->V
 | .inl i=>.int i
 | .inr x=>.str x
inductive HO where
 |lst (xs:List V)
 |tup (xs:List V)
 |dK (kvs:List (Key×V))|dT (kvs:List (List Key×V))
 |set (S:Int->Bool) (n:Nat)
 |ins (C dx:Addr) (fs:List (Str×V))
 |own (x:Addr)
 |xd (fs:List (Str×V))
 |met (f x:Addr)
 |JX (lo hi:Int)
 |gU (o:Obj) (u:HO)
 |kU (ps:Array aq)
 |ext (φ:Heap->Prop)
abbrev Hp:=Addr->Option HO
def upd(H:Hp)(a:Addr)(o:HO):Hp:=fun b=>if b=a then some o else H b
theorem aJ{H:Hp}{a:Addr}{o:HO}:upd H a o a=some o:=by unfold upd;rw[if_pos rfl]
theorem bC{H:Hp}{a b:Addr}{o:HO}(h:b≠a):upd H a o b=H b:=by unfold upd;rw[if_neg h]
theorem oz{H:Hp}{a:Addr}{o u:HO}:upd (upd H a o) a u=upd H a u:=by
 funext b;unfold upd;split<;>rfl
theorem iG{H:Hp}{a b:Addr}{o u:HO}(h:H a=some o)(h':H b=some u)(d:o≠u):a≠b:=by
 intro e;subst e;rw[h]at h';exact d (gE h')
theorem dw{H:Hp}{a b:Addr}{o:HO}(h:H a=some o)(h':H b=none):a≠b:=by
 intro e;subst e;rw[h]at h';cases h'
section
variable(P:eS)(w:eJ)
def j5(H:Hp)(h:Heap)(a:Addr):HO->Prop
 | .lst xs=>xs.length<=cJ/\∃(bD:List aq)(n:Nat),Vals xs bD/\h.get? a=some {cls:=.type "list",data:=.seq bD.toArray n}
 | .tup xs=>xs.length<=cJ/\∃bD:List aq,Vals xs bD/\IsTup h a bD.toArray
 | .dK kvs=>kvs.length<=cJ/\(a==sysModules)=false/\∃vs,KV kvs vs/\h.DictOf (oy P w) a vs
 | .dT kvs=>kvs.length<=cJ/\(a==sysModules)=false/\∃xs:List (List Key×Addr×aq),
   Paired (fun (p:List Key×V) (q:List Key×Addr×aq)=>p.1=q.1/\H q.2.1=some (.tup (p.1.map kV))/\RelV p.2 q.2.2) kvs xs/\
   ∃o es ep,h.get? a=some o/\o.ExactDict/\o.data=.dict es ep/\es.toList=xs.map (entryOfKey (tupleKind (oy P w)))/\(xs.map (·.1)).Nodup
 | .set S n=>h.SetOf (intKind P w) a S n
 | .ins C dx fs=>H dx=some (.own a)/\fs.length<=1000/\dx≠a/\h.get? a=some (PySem.W.instObj C dx)/\
   ∃mA,h.Ns1 dx mA/\(∀f,qc (fs.lookup f) (mA f))/\PySem.Within mA (fs.map (·.1))
 | .own _=>∃o,h.get? a=some o
 | .xd fs=>∃mA,h.Ns1 a mA/\∀f,qc (fs.lookup f) (mA f)
 | .JX lo hi=>∃t u v,h.get? a=some {cls:=.type "range",data:=.fields #[.int lo t,.int hi u,.int 1 v]}
 | .gU o u=>h.get? a=some o/\j5 H h a u
 | .kU ps=>h.get? a=some {cls:=.none,data:=.fields ps}
 | .met f x=>h.get? a=some (PySem.W.methodObj (.ref f) (.ref x))
 | .ext φ=>φ h/\(∃o,h.get? a=some o)/\∀U h2:Heap,φ U->(∀o,U.get? a=some o->h2.get? a=some o)->φ h2
def iS(H:Hp)(h:Heap):Prop:=∀a o,H a=some o->j5 P w H h a o
end
section
variable{P:eS}{w:eJ}{H H':Hp}{h h':Heap}{a:Addr}{o:HO}
theorem j5.lt(x:j5 P w H h a o):a<h.objs.size:=by
 cases o with
 |lst xs=>obtain ⟨_,_,_,_,e⟩:=x;exact iK e
 |tup xs=>obtain ⟨_,_,_,p⟩:=x;exact p.lt
 |dK kvs=>obtain ⟨_,_,_,_,o,_,_,e,_⟩:=x;exact iK e
 |dT kvs=>obtain ⟨_,_,_,_,o,_,_,e,_⟩:=x;exact iK e
 |set S n=>obtain ⟨o,_,_,_,e,_⟩:=x;exact iK e
 |ins C dx fs=>obtain ⟨_,_,_,e,_⟩:=x;exact iK e
 |own y=>obtain ⟨_,e⟩:=x;exact iK e
 |xd fs=>obtain ⟨_,⟨_,_,_,e,_⟩,_⟩:=x;exact iK e
 |JX lo hi=>obtain ⟨_,_,_,e⟩:=x;exact iK e
 |gU ob u=>obtain ⟨e,_⟩:=x;exact iK e
 |kU ps=>exact iK (show h.get? a=some _ from x)
 |met f y=>exact iK (show h.get? a=some _ from x)
 |ext φ=>obtain ⟨_,⟨_,e⟩,_⟩:=x;exact iK e
theorem Paired.OS{α β:Type}{F G:α->β->Prop}:∀{BM:List α}{BN:List β},Paired F BM BN->(∀a b,F a b->G a b)->Paired G BM BN
 |_,_,.nil,_=>.nil
 |_,_,.cons r t,f=>.cons (f _ _ r) (Paired.OS t f)
theorem j5.uh(x:j5 P w H h a o)(k:∀b u,(b=a∨H b=some (.own a))->h.get? b=some u->h'.get? b=some u)(ho:∀b,H b=some (.own a)->H' b=some (.own a))(ht:∀b xs,H b=some (.tup xs)->H' b=some (.tup xs)):j5 P w H' h' a o:=by
 induction o with
 |lst xs=>obtain ⟨z,bD,n,r,e⟩:=x;exact ⟨z,bD,n,r,k _ _ (.inl rfl) e⟩
 |tup xs=>obtain ⟨z,bD,r,ob,e,c⟩:=x;exact ⟨z,bD,r,ob,k _ _ (.inl rfl) e,c⟩
 |dK kvs=>obtain ⟨z,y,vs,r,ob,es,ep,e,c⟩:=x;exact ⟨z,y,vs,r,ob,es,ep,k _ _ (.inl rfl) e,c⟩
 |dT kvs=>
  obtain ⟨z,y,xs,r,ob,es,ep,e,c⟩:=x;exact ⟨z,y,xs,Paired.OS r fun p q z=>⟨z.1,ht _ _ z.2.1,z.2.2⟩,ob,es,ep,k _ _ (.inl rfl) e,c⟩
 |set S n=>obtain ⟨ob,es,ep,t,e,c⟩:=x;exact ⟨ob,es,ep,t,k _ _ (.inl rfl) e,c⟩
 |ins C dx fs=>
  obtain ⟨d,z,ne,e,mA,⟨od,es,ep,e2,c⟩,r⟩:=x;exact ⟨ho _ d,z,ne,k _ _ (.inl rfl) e,mA,⟨od,es,ep,k _ _ (.inr d) e2,c⟩,r⟩
 |own y=>obtain ⟨ob,e⟩:=x;exact ⟨ob,k _ _ (.inl rfl) e⟩
 |xd fs=>obtain ⟨mA,⟨od,es,ep,e,c⟩,r⟩:=x;exact ⟨mA,⟨od,es,ep,k _ _ (.inl rfl) e,c⟩,r⟩
 |JX lo hi=>obtain ⟨t,u,v,e⟩:=x;exact ⟨t,u,v,k _ _ (.inl rfl) e⟩
 |gU ob u ih=>obtain ⟨e,q⟩:=x;exact ⟨k _ _ (.inl rfl) e,ih q⟩
 |kU ps=>
  have e:h.get? a=some {cls:=.none,data:=.fields ps}:=x;show h'.get? a=some {cls:=.none,data:=.fields ps};exact k a _ (.inl rfl) e
 |met f y=>
  have e:h.get? a=some (PySem.W.methodObj (.ref f) (.ref y)):=x;show h'.get? a=some (PySem.W.methodObj (.ref f) (.ref y));exact k a _ (.inl rfl) e
 |ext φ=>obtain ⟨p,⟨o,e⟩,st⟩:=x;exact ⟨st _ _ p fun o q=>k _ _ (.inl rfl) q,⟨o,k _ _ (.inl rfl) e⟩,st⟩
theorem iS.lt(x:iS P w H h)(e:H a=some o):a<h.objs.size:=(x a o e).lt
theorem iS.fresh(x:iS P w H h)(e:h.objs.size<=a):H a=none:=by
 cases q:H a with
 |none=>rfl
 |some u=>exact absurd (pA (x.lt q) e) (w9 _)
theorem iS.kept(x:iS P w H h)(k:∀b u,h.get? b=some u->h'.get? b=some u):iS P w H h':=fun a o e=>
 (x a o e).uh (fun b u _ q=>k b u q) (fun _ q=>q) fun _ _ q=>q
theorem iS.laid(x:iS P w H h)(k:∀b u,h.get? b=some u->h'.get? b=some u)(hp:h.objs.size<=a)(new:j5 P w (upd H a o) h' a o):iS P w (upd H a o) h':=fun b u e=>by
 have hn:=x.fresh hp;by_cases hb:b=a
 .subst hb;rw[aJ]at e;cases e;exact new
 .rw[bC hb]at e;exact (x b u e).uh (fun c v _ q=>k c v q) (fun c q=>by rw[bC (dw q hn)];exact q) fun c xs q=>by rw[bC (dw q hn)];exact q
end
def Rd(H:Hp)(a:Addr)(u:HO):Prop:=H a=some u∨∃o,H a=some (.gU o u)
theorem Rd.of{H:Hp}{a:Addr}{u:HO}(h:H a=some u):Rd H a u:=.inl h
theorem Rd.ok{P:eS}{w:eJ}{H:Hp}{h:Heap}{a:Addr}{u:HO}(r:Rd H a u)(x:iS P w H h):j5 P w H h a u:=by
 rcases r with r|⟨o,r⟩
 .exact x a u r
 .obtain ⟨_,q⟩:=x a _ r;exact q
def yz:Option HO->Prop
 |some (.lst _)=>True
 |some (.dK _)=>True
 |some (.dT _)=>True
 |some (.set _ _)=>True
 |some (.ins _ _ _)=>True
 |some (.ext _)=>True
 |_=>False
section
variable{P:eS}{w:eJ}{H:Hp}{h h':Heap}{x e:Addr}{o':HO}
theorem iS.write(ok:iS P w H h)(mu:yz (H x))(he:e=x∨H e=some (.own x))(k:∀b u,b≠e->h.get? b=some u->h'.get? b=some u)(DP:∃u,h'.get? e=some u)(new:j5 P w (upd H x o') h' x o'):iS P w (upd H x o') h':=fun b u q=>by
 have Xu:∀c y,H c=some (.own y)->c≠x:=fun c y r z=>by subst z;rw[r]at mu;exact mu
 have ai8:∀c xs,H c=some (.tup xs)->c≠x:=fun c xs r z=>by subst z;rw[r]at mu;exact mu
 by_cases hb:b=x
 .subst hb;rw[aJ]at q;cases q;exact new
 .rw[bC hb]at q;by_cases BO:b=e
  .have q':H b=some (.own x):=by
    rcases he with z|z
    .exact absurd (BO.trans z) hb
    .rw[BO];exact z
   rw[q]at q';cases q';obtain ⟨v,hv⟩:=DP;exact ⟨v,by rw[BO];exact hv⟩
  .refine (ok b u q).uh (fun c v hc r=>k c v ?_ r) (fun c r=>by rw[bC (Xu c b r)];exact r) fun c xs r=>by rw[bC (ai8 c xs r)];exact r
   rcases hc with rfl|hc
   .exact BO
   .rintro rfl;rcases he with z|z
    .exact Xu c b hc z
    .rw[hc]at z;cases z;exact hb rfl
end
structure Un(fs ex:List Addr)(H H':Hp)(h h':Heap):Prop where
 keep:∀b o,h.get? b=some o->H b=none->b∉fs->b∉ex->h'.get? b=some o
 slot:∀b o,h.get? b=some o->H b=none->b∈fs->b∉ex->∃sl,h'.get? b=some {o with slots:=sl}
 free:∀b o,h.get? b=some o->H b=none->b∉ex->H' b=none
 there:∀b o,h.get? b=some o->b∉ex->∃o',h'.get? b=some o'
 rZ:∀b xs,H b=some (.tup xs)->H' b=some (.tup xs)
 qd:∀b o u,H b=some (.gU o u)->H' b=some (.gU o u)
 rA:∀b ps,H b=some (.kU ps)->∃more,H' b=some (.kU (ps++more))
section
variable{fs pC ex Xv:List Addr}{H H1 H2:Hp}{h U h2 h':Heap}{a x e:Addr}{o:HO}
theorem Un.any(u:Un fs ex H H1 h U){b:Addr}{ob:Obj}(q:h.get? b=some ob)(n:H b=none)(hx:b∉ex):∃sl,U.get? b=some {ob with slots:=sl}:=by
 by_cases hb:b∈fs
 .exact u.slot b ob q n hb hx
 .exact ⟨ob.slots,u.keep b ob q n hb hx⟩
theorem Un.trans(a:Un fs ex H H1 h U)(b:Un fs ex H1 H2 U h2):Un fs ex H H2 h h2 where
 keep:=fun c ob q n hc hx=>b.keep c ob (a.keep c ob q n hc hx) (a.free c ob q n hx) hc hx
 slot:=fun c ob q n hc hx=>by
  obtain ⟨sl,e1⟩:=a.slot c ob q n hc hx;obtain ⟨DQ,e2⟩:=b.slot c _ e1 (a.free c ob q n hx) hc hx;exact ⟨DQ,e2⟩
 free:=fun c ob q n hx=>by
  obtain ⟨o',e1⟩:=a.there c ob q hx;exact b.free c o' e1 (a.free c ob q n hx) hx
 there:=fun c ob q hx=>by
  obtain ⟨o',e1⟩:=a.there c ob q hx;exact b.there c o' e1 hx
 rZ:=fun c xs q=>b.rZ c xs (a.rZ c xs q)
 qd:=fun c ob xs q=>b.qd c ob xs (a.qd c ob xs q)
 rA:=fun c ps q=>by
  obtain ⟨m1,e1⟩:=a.rA c ps q;obtain ⟨m2,e2⟩:=b.rA c _ e1;exact ⟨m1++m2,by rw[e2,agH]⟩
theorem Un.kept(k:∀b u,h.get? b=some u->h'.get? b=some u):Un fs ex H H h h':=
 ⟨fun b ob q _ _ _=>k b ob q,fun b ob q _ _ _=>⟨ob.slots,k b ob q⟩,fun _ _ _ n _=>n,fun b ob q _=>⟨ob,k b ob q⟩,fun _ _ q=>q,fun _ _ _ q=>q,fun _ ps q=>⟨#[],by rw[q];simp⟩⟩
theorem Un.refl:Un fs ex H H h h:=Un.kept fun _ _ q=>q
theorem Un.laid(k:∀b u,h.get? b=some u->h'.get? b=some u)(hp:h.objs.size<=a)(hn:H a=none):Un fs ex H (upd H a o) h h' where
 keep:=fun b u q _ _ _=>k b u q
 slot:=fun b u q _ _ _=>⟨u.slots,k b u q⟩
 free:=fun b u q n _=>by rw[bC (kg (pA (iK q) hp))];exact n
 there:=fun b u q _=>⟨u,k b u q⟩
 rZ:=fun b xs q=>by rw[bC (dw q hn)];exact q
 qd:=fun b u xs q=>by rw[bC (dw q hn)];exact q
 rA:=fun b ps q=>⟨#[],by rw[bC (dw q hn),q];simp⟩
theorem Un.write(mu:yz (H x))(he:e=x∨H e=some (.own x))(k:∀b u,b≠e->h.get? b=some u->h'.get? b=some u)(DP:∃u,h'.get? e=some u):Un fs ex H (upd H x o) h h':=by
 have hx:∀b,H b=none->b≠x:=fun b n z=>by subst z;rw[n]at mu;exact mu
 have hb:∀b,H b=none->b≠e:=fun b n z=>by
  subst z;rcases he with r|r
  .exact hx b n r
  .rw[n]at r;cases r
 have hm:∀b u,H b=some u->¬yz (some u)->b≠x:=fun b u q nm z=>by subst z;rw[q]at mu;exact nm mu
 refine ⟨fun b u q n _ _=>k b u (hb b n) q,fun b u q n _ _=>⟨u.slots,k b u (hb b n) q⟩,fun b u q n _=>by rw[bC (hx b n)];exact n,fun b u q _=>?_,
  fun b xs q=>by rw[bC (hm b _ q fun z=>z)];exact q,fun b u xs q=>by rw[bC (hm b _ q fun z=>z)];exact q,fun b ps q=>⟨#[],by rw[bC (hm b _ q fun z=>z),q];simp⟩⟩
 by_cases BO:b=e
 .subst BO;exact DP
 .exact ⟨u,k b u BO q⟩
theorem Un.mono(u:Un fs ex H H1 h U)(hs:∀b∈fs,b∈pC)(hx:∀b∈ex,b∈Xv):Un pC Xv H H1 h U:=
 ⟨fun b ob q n hb he=>u.keep b ob q n (fun z=>hb (hs b z)) fun z=>he (hx b z),fun _ _ q n _ he=>u.any q n fun z=>he (hx _ z),fun b ob q n he=>u.free b ob q n fun z=>he (hx b z),fun b ob q he=>u.there b ob q fun z=>he (hx b z),u.rZ,u.qd,u.rA⟩
end
def JY(h:Heap)(H:Hp):List Addr:=(jO h.objs.size).filter fun a=>(H a).isSome
def xm(h:Heap)(H:Hp):Heap:=PySem.W.hideAll h (JY h H)
theorem ai9(h:Heap)(H:Hp):(xm h H).objs.size=h.objs.size:=PySem.W.hideAll_size _ _
theorem aja{h:Heap}{H:Hp}{b:Addr}{o:Obj}(e:h.get? b=some o)(n:H b=none):(xm h H).get? b=some o:=
 NS _ e fun hm=>by
  have q:(H b).isSome=true:=(gT.mp hm).2;rw[n]at q;simp at q
theorem ajb{h:Heap}{H:Hp}{b:Addr}{o:Obj}(e:(xm h H).get? b=some o):h.get? b=some o/\H b=none:=by
 have e':h.get? b=some o:=agI (JY h H) e;refine ⟨e',?_⟩;cases q:H b with
 |none=>rfl
 |some x=>
  have hm:b∈JY h H:=gT.mpr ⟨NM.mpr (iK e'),by simp[q]⟩;have z:(xm h H).get? b=none:=agJ (JY h H) hm;rw[z]at e;cases e
def ajc(g h:Heap)(L:Addr):List (Addr×Obj):=(jO h.objs.size).filterMap fun a=>if a=L∨(g.get? a).isSome=true then none else (h.get? a).map fun o=>(a,o)
def rest(g h:Heap)(L d:Addr):List (Addr×Obj):=(ajc g h L).filter fun p=>decide (p.1≠d)
structure Mod(K:cB)(mg:Str->Option aq)(base:Heap):Prop where
 BQ:K.In base
 glob:base.Ns nG mg
 blt:∃mb,base.Ns builtinsNs mb/\∀x:Str,x≠"__name__"->mb x=bootBuiltins x
 nolimit:base.NoLimit
structure Cx where
 prog:eS
 w:eJ
 K:cB
 mg:Str->Option aq
 base:Heap
 A:gc
 N:List Str
 kG:a9
 vS:Hp
 env:Env
 outer:List Env
 stack:List Env
 ex:List Addr
 fn:Str->Bool
 calm:Bool
 pn:List (Addr×Obj)
 xe:aq->a9->Prop
def kh(l:List Env):List Addr:=l.filterMap (·.frame)
abbrev Cx.fs(X:Cx):List Addr:=kh X.outer
def BR(sc:jP)(x:Str):Prop:=sc.names.lookup x=some .local∨sc.names.lookup x=some .cell∨sc.names.lookup x=some .free
def Loc(sc:jP)(x:Str):Prop:=sc.names.lookup x=some .local∨sc.names.lookup x=some .cell
def Look(env:Env)(h:Heap)(m:Str->Option aq)(x:Str)(u:aq):Prop:=
 (env.kindOf x=some .local/\m x=some u)∨((env.kindOf x=some .cell∨env.kindOf x=some .free)/\∃c,env.cells.lookup x=some c/\h.IsCell c (some u))
structure Cx.Ok(X:Cx):Prop where
 mod:Mod X.K X.mg X.base
 kind:X.env.scope.kind=.function
 glob:X.env.globals=nG
 blt:X.env.builtins=builtinsNs
 above:X.kG.heap.objs.size<=X.env.locals
 inj:∀x y c,X.env.cells.lookup x=some c->X.env.cells.lookup y=some c->x=y
 has:∀x,(X.env.kindOf x=some .cell∨X.env.kindOf x=some .free)->∃c,X.env.cells.lookup x=some c
 DR:∀x c,X.fn x=true->X.env.cells.lookup x=some c->X.kG.heap.objs.size<=c
 hd:X.calm=true->X.A.handled=none
 frames:X.A.frames=some X.stack
 uj:X.stack=X.outer∨(X.stack=X.env::X.outer/\X.env.frame=some X.env.locals)
 Gg:∀b∈X.ex,b≠X.env.locals/\∀x c,X.env.cells.lookup x=some c->c≠b
 bs:∀b o,X.base.get? b=some o->X.kG.heap.get? b=some o/\X.vS b=none
 um:X.base.objs.size<=X.kG.heap.objs.size
 DS:∀b o,X.base.get? b=some o->b∉X.ex
 DT:∀b∈X.ex,b∉X.fs
 r6:X.kG.heap.FunFrames X.base X.outer
 xp:∀b∈X.fs,X.vS b=none
structure Inv(X:Cx)(pins:List (Addr×Obj))(σ:List (Option V))(H:Hp)(s:a9):Prop where
 ok:X.Ok
 os:s.os=X.kG.os
 bare:AllBare s.gens
 base:Un X.fs X.ex X.vS H X.kG.heap s.heap
 loc:∃m,s.heap.Ns X.env.locals m/\∀(i:Nat)(x:Str)(v:V),X.N[i]? =some x->σ[i]? =some (some v)->BR X.env.scope x->∃u,RelV v u/\Look X.env s.heap m x u
 cell:∀x c,X.env.cells.lookup x=some c->∃v,s.heap.IsCell c v
 free:H X.env.locals=none
 qe:∀x c,X.env.cells.lookup x=some c->H c=none
 pin:∀p∈X.pn++pins,s.heap.get? p.1=some p.2/\H p.1=none/\p.1≠X.env.locals/\p.1∉X.fs/\∀v,p.2.data≠.cell v
 bS:iS X.prog X.w H s.heap
 len:σ.length=X.N.length
section
variable{X:Cx}{pins:List (Addr×Obj)}{σ:List (Option V)}{H H':Hp}{s:a9}{h':Heap}
theorem Cx.Ok.ajd(ok:X.Ok){b:Addr}{o:Obj}(e:X.base.get? b=some o):b∉X.fs:=fun hb=>by
 have:=(ok.r6.mem hb).1;rw[e]at this;cases this
theorem Inv.bs(I:Inv X pins σ H s):∀b o,X.base.get? b=some o->s.heap.get? b=some o/\H b=none:=fun b o e=>
 ⟨I.base.keep b o (I.ok.bs b o e).1 (I.ok.bs b o e).2 (I.ok.ajd e) (I.ok.DS b o e),I.base.free b o (I.ok.bs b o e).1 (I.ok.bs b o e).2 (I.ok.DS b o e)⟩
theorem Inv.bk(I:Inv X pins σ H s):∀b o,X.base.get? b=some o->s.heap.get? b=some o:=fun b o e=>(I.bs b o e).1
theorem Inv.mod(I:Inv X pins σ H s):Mod X.K X.mg X.base:=I.ok.mod
theorem Inv.m8(I:Inv X pins σ H s):X.K.In s.heap:=I.ok.mod.BQ.keeps I.bk
theorem Inv.nolimit(I:Inv X pins σ H s):s.heap.NoLimit:=I.ok.mod.nolimit.keeps I.bk
theorem Inv.fr(I:Inv X pins σ H s):∃m,Fr X.base X.env.locals s.heap m:=
 let ⟨m,hn,_⟩:=I.loc
 ⟨m,hn,I.bk,gN I.ok.um I.ok.above⟩
theorem Inv.lt(I:Inv X pins σ H s):X.env.locals<s.heap.objs.size:=let ⟨_,hn,_⟩:=I.loc;hn.lt
theorem Inv.sz(I:Inv X pins σ H s):X.kG.heap.objs.size<=s.heap.objs.size:=gN I.ok.above (Du I.lt)
theorem Inv.JZ(I:Inv X pins σ H s){a:Addr}(h:s.heap.objs.size<=a):a∉X.fs:=fun hb=>by
 obtain ⟨_,o,ho,_⟩:=I.ok.r6.mem hb;exact absurd (pA (iK ho) (gN I.sz h)) (w9 _)
theorem Inv.BS(I:Inv X pins σ H s):∀x c,X.env.cells.lookup x=some c->c≠X.env.locals:=fun x c e z=>by
 obtain ⟨v,o,ho,hd⟩:=I.cell x c e;obtain ⟨m,⟨o',es,ep,p8,OT,_⟩,_⟩:=I.loc;rw[z,p8]at ho;cases ho;rw[OT]at hd;cases hd
theorem Inv.r6(I:Inv X pins σ H s):s.heap.FunFrames X.base X.outer:=by
 have all:∀(l:List Env),(∀b∈kh l,b∈X.fs)->X.kG.heap.FunFrames X.base l->s.heap.FunFrames X.base l:=by
  intro l
  induction l with
  |nil=>intro _ _;trivial
  |cons env r ih=>
   intro hs hl;obtain ⟨hk,⟨L,o,hf,hn,ho,hd⟩,hr⟩:=hl;have hL:L∈X.fs:=hs L (by unfold kh;rw[Jw,hf];exact m4);obtain ⟨sl,e⟩:=I.base.slot L o ho (I.ok.xp L hL) hL fun z=>I.ok.DT L z hL;exact ⟨hk,⟨L,_,hf,hn,e,hd⟩,ih (fun b hb=>hs b (by unfold kh;rw[Jw,hf];exact lU _ hb)) hr⟩
 exact all X.outer (fun _ hb=>hb) I.ok.r6
theorem Inv.stack(I:Inv X pins σ H s):s.heap.FunFrames X.base X.stack:=by
 rcases I.ok.uj with e|⟨e,hf⟩
 .rw[e];exact I.r6
 .rw[e];obtain ⟨m,hn,_⟩:=I.loc;refine .cons (by rw[I.ok.kind];decide) hf hn ?_ I.r6;exact agK (gN I.ok.um I.ok.above)
theorem Inv.OU(I:Inv X pins σ H s):∀b∈kh X.stack,b∈X.env.locals::X.fs:=fun b hb=>by
 rcases I.ok.uj with e|⟨e,hf⟩
 .rw[e]at hb;exact lU _ hb
 .rw[e]at hb;unfold kh at hb;rw[Jw,hf]at hb;exact hb
theorem Inv.Gh(I:Inv X pins σ H s):∀b∈kh X.stack,H b=none:=fun b hb=>by
 rcases f6.mp (I.OU b hb) with e|hb
 .rw[e];exact I.free
 .obtain ⟨_,o,ho,_⟩:=I.ok.r6.mem hb;exact I.base.free b o ho (I.ok.xp b hb) fun z=>I.ok.DT b z hb
theorem Inv.step{g':Array GenState}{t':Nat}{d':Drawn}{ch:List Addr}(I:Inv X pins σ H s)(xq:∀b∈ch,(b∈X.ex∨X.kG.heap.objs.size<=b)/\b≠X.env.locals/\(∀x c,X.env.cells.lookup x=some c->c≠b)/\∀p∈X.pn++pins,p.1≠b)(keep:∀b o,b≠X.env.locals->b∉X.fs->b∉ch->s.heap.get? b=some o->H b=none->h'.get? b=some o)(slot:∀b o,b≠X.env.locals->b∈X.fs->b∉ch->s.heap.get? b=some o->H b=none->∃sl,h'.get? b=some {o with slots:=sl})(free:∀b o,b∉ch->s.heap.get? b=some o->H b=none->H' b=none)(there:∀b o,b∉ch->s.heap.get? b=some o->∃o',h'.get? b=some o')(rZ:∀b xs,H b=some (.tup xs)->H' b=some (.tup xs))(qd:∀b o u,H b=some (.gU o u)->H' b=some (.gU o u))(rA:∀b ps,H b=some (.kU ps)->∃more,H' b=some (.kU (ps++more)))(ns:∀m,s.heap.Ns X.env.locals m->h'.Ns X.env.locals m)(bS:iS X.prog X.w H' h')(hg:AllBare g'):
  Inv X pins σ H' {s with heap:=h',gens:=g',drawn:=d',toks:=t'}:=by
 have Xw:∀b o,X.kG.heap.get? b=some o->b≠X.env.locals:=fun b o e=>kg (pA (iK e) I.ok.above);have J0:∀b o,X.kG.heap.get? b=some o->b∉X.ex->b∉ch:=fun b o e hx hb=>by
  rcases (xq b hb).1 with z|z
  .exact hx z
  .exact absurd (pA (iK e) z) (w9 _)
 have cellK:∀x c,X.env.cells.lookup x=some c->∀v,s.heap.IsCell c v->h'.IsCell c v:=fun x c e v ⟨o,ho,hd⟩=>by
  have Gi:c∉ch:=fun z=>(xq c z).2.2.1 x c e rfl;by_cases hc:c∈X.fs
  .obtain ⟨sl,q⟩:=slot c o (I.BS x c e) hc Gi ho (I.qe x c e);exact ⟨_,q,hd⟩
  .exact ⟨o,keep c o (I.BS x c e) hc Gi ho (I.qe x c e),hd⟩
 refine ⟨I.ok,I.os,hg,⟨fun b o e n hb hx=>?_,fun b o e n hb hx=>?_,fun b o e n hx=>?_,fun b o e hx=>?_,fun b xs e=>rZ b xs (I.base.rZ b xs e),fun b o xs e=>qd b o xs (I.base.qd b o xs e),fun b ps e=>?_⟩,?_,fun x c e=>?_,?_,fun x c e=>?_,fun p hp=>?_,bS,I.len⟩
 .exact keep b o (Xw b o e) hb (J0 b o e hx) (I.base.keep b o e n hb hx) (I.base.free b o e n hx)
 .obtain ⟨sl,e1⟩:=I.base.slot b o e n hb hx;obtain ⟨DQ,e2⟩:=slot b _ (Xw b o e) hb (J0 b o e hx) e1 (I.base.free b o e n hx);exact ⟨DQ,e2⟩
 .obtain ⟨o',e1⟩:=I.base.there b o e hx;exact free b o' (J0 b o e hx) e1 (I.base.free b o e n hx)
 .obtain ⟨o',e1⟩:=I.base.there b o e hx;exact there b o' (J0 b o e hx) e1
 .obtain ⟨m1,e1⟩:=I.base.rA b ps e;obtain ⟨m2,e2⟩:=rA b _ e1;exact ⟨m1++m2,by rw[e2,agH]⟩
 .obtain ⟨m,hn,hl⟩:=I.loc;refine ⟨m,ns m hn,fun i x v e1 e2 e3=>?_⟩;obtain ⟨u,r,l⟩:=hl i x v e1 e2 e3;refine ⟨u,r,?_⟩;rcases l with l|⟨k,c,e,z⟩
  .exact .inl l
  .exact .inr ⟨k,c,e,cellK x c e _ z⟩
 .obtain ⟨v,z⟩:=I.cell x c e;exact ⟨v,cellK x c e v z⟩
 .obtain ⟨m,⟨o,_,_,ho,_⟩,_⟩:=I.loc;exact free _ o (fun z=>(xq _ z).2.1 rfl) ho I.free
 .obtain ⟨v,o,ho,hd⟩:=I.cell x c e;exact free c o (fun z=>(xq c z).2.2.1 x c e rfl) ho (I.qe x c e)
 .obtain ⟨e,n,ne,nf,d⟩:=I.pin p hp;have Gi:p.1∉ch:=fun z=>(xq p.1 z).2.2.2 p hp rfl;exact ⟨keep p.1 p.2 ne nf Gi e n,free p.1 p.2 Gi e n,ne,nf,d⟩
theorem Inv.un{t':Nat}(I:Inv X pins σ H s)(u:Un X.fs [] H H' s.heap h')(bS:iS X.prog X.w H' h'):Inv X pins σ H' {s with heap:=h',toks:=t'}:=by
 obtain ⟨m,⟨o,es,ep,ho,r⟩,_⟩:=id I.loc;obtain ⟨sl,hL⟩:=u.any ho I.free (by simp);exact I.step (g':=s.gens) (d':=s.drawn) (ch:=[]) (fun _ z=>nomatch z) (fun b o _ hb _ e n=>u.keep b o e n hb (by simp)) (fun b o _ hb _ e n=>u.slot b o e n hb (by simp)) (fun b o _ e n=>u.free b o e n (by simp)) (fun b o _ e=>u.there b o e (by simp)) u.rZ u.qd u.rA (fun m' hm=>by
  obtain ⟨o',Af,xr,p8,r'⟩:=hm;rw[ho]at p8;cases p8;exact ⟨_,Af,xr,hL,r'⟩) bS I.bare
theorem Inv.call{g':Array GenState}{t':Nat}{d':Drawn}{ch:List Addr}(I:Inv X pins σ H s)(u:Un (kh X.stack) ch H H' s.heap h')(bS:iS X.prog X.w H' h')(hg:AllBare g')(xq:∀b∈ch,(b∈X.ex∨X.kG.heap.objs.size<=b)/\b≠X.env.locals/\(∀x c,X.env.cells.lookup x=some c->c≠b)/\∀p∈X.pn++pins,p.1≠b):
  Inv X pins σ H' {s with heap:=h',gens:=g',drawn:=d',toks:=t'}:=by
 obtain ⟨m,⟨o,es,ep,ho,r⟩,_⟩:=id I.loc;obtain ⟨sl,hL⟩:=u.any ho I.free fun z=>(xq _ z).2.1 rfl;exact I.step (ch:=ch) xq (fun b o hL hb hc e n=>u.keep b o e n (fun z=>(f6.mp (I.OU b z)).elim hL hb) hc) (fun b o _ _ hc e n=>u.any e n hc) (fun b o hc e n=>u.free b o e n hc) (fun b o hc e=>u.there b o e hc) u.rZ u.qd u.rA (fun m' hm=>by
  obtain ⟨o',Af,xr,p8,r'⟩:=hm;rw[ho]at p8;cases p8;exact ⟨_,Af,xr,hL,r'⟩) bS hg
theorem Inv.turned{t':Nat}{it:Addr}(I:Inv X pins σ H s)(k:∀b o,b≠it->s.heap.get? b=some o->h'.get? b=some o)(hn:H it=none)(hL:it≠X.env.locals)(U:it∈X.ex∨X.kG.heap.objs.size<=it)(h2:∀x c,X.env.cells.lookup x=some c->c≠it)(h3:∀p∈X.pn++pins,p.1≠it):Inv X pins σ H {s with heap:=h',toks:=t'}:=by
 have Ag:∀b u,H b=some u->b≠it:=fun b u e z=>by rw[z,hn]at e;cases e
 refine I.step (g':=s.gens) (d':=s.drawn) (ch:=[it]) (fun b hb=>?_) (fun b o _ _ hc e _=>k b o (fun z=>hc (by simp[z])) e) (fun b o _ _ hc e _=>⟨o.slots,k b o (fun z=>hc (by simp[z])) e⟩) (fun _ _ _ _ n=>n)
  (fun b o hc e=>⟨o,k b o (fun z=>hc (by simp[z])) e⟩) (fun _ _ e=>e) (fun _ _ _ e=>e) (fun b ps e=>⟨#[],by rw[e];simp⟩) (fun m hm=>?_) (fun b u e=>?_) I.bare
 .have e:b=it:=by simpa using hb
  subst e;exact ⟨U,hL,h2,h3⟩
 .obtain ⟨o,es,ep,ho,r⟩:=hm;exact ⟨o,es,ep,k _ o (xa hL) ho,r⟩
 .refine (I.bS b u e).uh (fun c v hc q=>k c v ?_ q) (fun _ q=>q) fun _ _ q=>q;rcases hc with z|z
  .rw[z];exact Ag b u e
  .exact Ag c _ z
theorem Inv.tok(I:Inv X pins σ H s)(t:Nat):Inv X pins σ H {s with toks:=t}:=I.un (h':=s.heap) (t':=t) Un.refl I.bS
theorem Inv.kept{t':Nat}(I:Inv X pins σ H s)(k:∀b u,s.heap.get? b=some u->h'.get? b=some u):Inv X pins σ H {s with heap:=h',toks:=t'}:=I.un (Un.kept k) (I.bS.kept k)
theorem Inv.laid{a:Addr}{o:HO}{t':Nat}(I:Inv X pins σ H s)(k:∀b u,s.heap.get? b=some u->h'.get? b=some u)(hp:s.heap.objs.size<=a)(new:j5 X.prog X.w (upd H a o) h' a o):
  Inv X pins σ (upd H a o) {s with heap:=h',toks:=t'}:=I.un (Un.laid k hp (I.bS.fresh hp)) (I.bS.laid k hp new)
theorem Inv.write{x e:Addr}{o:HO}{t':Nat}(I:Inv X pins σ H s)(mu:yz (H x))(he:e=x∨H e=some (.own x))(k:∀b u,b≠e->s.heap.get? b=some u->h'.get? b=some u)(DP:∃u,h'.get? e=some u)(new:j5 X.prog X.w (upd H x o) h' x o):Inv X pins σ (upd H x o) {s with heap:=h',toks:=t'}:=I.un (Un.write mu he k DP) (I.bS.write mu he k DP new)
theorem Inv.weak{cV:List (Option V)}(I:Inv X pins σ H s)(hl:cV.length=σ.length)(w:∀(i:Nat) v,cV[i]? =some (some v)->σ[i]? =some (some v)):Inv X pins cV H s:=
 ⟨I.ok,I.os,I.bare,I.base,let ⟨m,hn,Gj⟩:=I.loc;⟨m,hn,fun i x v e1 e2 e3=>Gj i x v e1 (w i v e2) e3⟩,I.cell,I.free,I.qe,I.pin,I.bS,hl.trans I.len⟩
theorem Inv.Xx{vU:List (Addr×Obj)}(I:Inv X pins σ H s)(h:∀p∈vU,s.heap.get? p.1=some p.2/\H p.1=none/\p.1≠X.env.locals/\p.1∉X.fs/\∀v,p.2.data≠.cell v):Inv X vU σ H s:=
 ⟨I.ok,I.os,I.bare,I.base,I.loc,I.cell,I.free,I.qe,fun p hp=>(kN.mp hp).elim (fun z=>I.pin p (vL _ z)) (h p),I.bS,I.len⟩
theorem OV{N:List Str}(hN:N.Nodup){i j:Nat}{x:Str}(a:N[i]? =some x)(b:N[j]? =some x):i=j:=by
 obtain ⟨U,e1⟩:=gq.mp a;obtain ⟨h2,e2⟩:=gq.mp b;exact (agL hN).mp (e1.trans e2.symm)
theorem Xy{M:Model}{A:gc}{E:aq->a9->Prop}{i:Nat}{x:Str}{v:V}{u:aq}{Q:Unit->a9->Prop}(I:Inv X pins σ H s)(hN:X.N.Nodup)(hi:X.N[i]? =some x)(hx:Loc X.env.scope x)(r:RelV v u)(h:∀s',Inv X pins (σ.set i (some v)) H s'->(∃a,Heap.SameBut a s.heap s'.heap/\(a=X.env.locals∨X.env.cells.lookup x=some a))->Q () s')(hf:X.fn x=true∨X.env.scope.names.lookup x=some .local:=by first|exact .inl rfl|exact .inr rfl|assumption):bV M A (storeName X.env x u) Q E s:=by
 obtain ⟨m,hn,hl⟩:=id I.loc;have aje:(X.env.scope.kind==.class||(X.env.scope.kind==.module&&X.env.locals !=X.env.globals))=false:=by rw[I.ok.kind];rfl
 have Xz:i<σ.length:=by rw[I.len];exact (gq.mp hi).1
 have BS:=I.BS;have tracked:∀{a:Addr}{h':Heap},(∃o,s.heap.get? a=some o/\H a=none)->Heap.SameBut a s.heap h'->iS X.prog X.w H h':=fun {a h'} ha hs b ob e=>by
  obtain ⟨_,_,DU⟩:=ha;refine (I.bS b ob e).uh (fun c w' hc q=>(hs.2 c ?_).trans q) (fun _ q=>q) fun _ _ q=>q;rintro rfl;rcases hc with rfl|hc
  .rw[DU]at e;cases e
  .rw[DU]at hc;cases hc
 rcases hx with hk|hk
 .refine wpAny_storeName_local hk hn (fun h' DV hs=>?_) aje;obtain ⟨oL,_,_,BU,_⟩:=id hn;refine h _ ⟨I.ok,I.os,I.bare,⟨fun b o e n hb hx=>?_,fun b o e n hb hx=>?_,I.base.free,fun b o e hx=>?_,I.base.rZ,I.base.qd,I.base.rA⟩,⟨_,DV,fun j y v' e1 e2 e3=>?_⟩,fun y c e=>?_,I.free,I.qe,fun p hp=>?_,tracked ⟨oL,BU,I.free⟩ hs,by simpa using I.len⟩ ⟨_,hs,.inl rfl⟩
  .exact (hs.2 b (kg (pA (iK e) I.ok.above))).trans (I.base.keep b o e n hb hx)
  .obtain ⟨sl,e1⟩:=I.base.slot b o e n hb hx;exact ⟨sl,(hs.2 b (kg (pA (iK e) I.ok.above))).trans e1⟩
  .obtain ⟨o',e1⟩:=I.base.there b o e hx;exact ⟨o',(hs.2 b (kg (pA (iK e) I.ok.above))).trans e1⟩
  .by_cases hj:j=i
   .subst hj;rw[hi]at e1;cases e1;rw[Jn Xz]at e2;cases e2;exact ⟨u,r,.inl ⟨hk,by simp⟩⟩
   .rw[Jo (xa hj)]at e2;obtain ⟨u',r',q⟩:=hl j y v' e1 e2 e3;refine ⟨u',r',?_⟩;rcases q with ⟨k,e⟩|⟨k,c,e,z⟩
    .refine .inl ⟨k,?_⟩;have:y≠x:=fun e=>hj (OV hN e1 (e▸hi));simp[this,e]
    .exact .inr ⟨k,c,e,z.sameBut hs (BS y c e)⟩
  .obtain ⟨w',z⟩:=I.cell y c e;exact ⟨w',z.sameBut hs (BS y c e)⟩
  .obtain ⟨e,n,ne,nf,d⟩:=I.pin p hp;exact ⟨(hs.2 p.1 ne).trans e,n,ne,nf,d⟩
 .have OW:X.fn x=true:=by
   rcases hf with z|z
   .exact z
   .rw[z]at hk;cases hk
  obtain ⟨c,hc⟩:=I.ok.has x (.inl hk);obtain ⟨w',z⟩:=I.cell x c hc;refine wpAny_storeName_cell I.ok.kind hk hc z (fun h' Ah hs=>?_);obtain ⟨oc,XA,ajg⟩:=id z;refine h {s with heap:=h'} ⟨I.ok,I.os,I.bare,⟨fun b o e n hb hx=>?_,fun b o e n hb hx=>?_,I.base.free,fun b o e hx=>?_,I.base.rZ,I.base.qd,I.base.rA⟩,⟨m,hn.sameBut hs (xa (BS x c hc)),fun j y v' e1 e2 e3=>?_⟩,fun y c' e=>?_,I.free,I.qe,fun p hp=>?_,tracked ⟨oc,XA,I.qe x c hc⟩ hs,by simpa using I.len⟩ ⟨c,hs,.inr hc⟩
  .exact (hs.2 b (kg (pA (iK e) (I.ok.DR x c OW hc)))).trans (I.base.keep b o e n hb hx)
  .obtain ⟨sl,e1⟩:=I.base.slot b o e n hb hx;exact ⟨sl,(hs.2 b (kg (pA (iK e) (I.ok.DR x c OW hc)))).trans e1⟩
  .obtain ⟨o',e1⟩:=I.base.there b o e hx;exact ⟨o',(hs.2 b (kg (pA (iK e) (I.ok.DR x c OW hc)))).trans e1⟩
  .by_cases hj:j=i
   .subst hj;rw[hi]at e1;cases e1;rw[Jn Xz]at e2;cases e2;exact ⟨u,r,.inr ⟨.inl hk,c,hc,Ah⟩⟩
   .rw[Jo (xa hj)]at e2;obtain ⟨u',r',q⟩:=hl j y v' e1 e2 e3;refine ⟨u',r',?_⟩;rcases q with q|⟨k,c',e,z'⟩
    .exact .inl q
    .refine .inr ⟨k,c',e,z'.sameBut hs ?_⟩;rintro rfl;exact hj (OV hN e1 (I.ok.inj _ _ _ e hc▸hi))
  .by_cases J5:c'=c
   .subst J5;exact ⟨_,Ah⟩
   .obtain ⟨w2,z2⟩:=I.cell y c' e;exact ⟨w2,z2.sameBut hs J5⟩
  .obtain ⟨e,n,ne,nf,d⟩:=I.pin p hp;refine ⟨(hs.2 p.1 ?_).trans e,n,ne,nf,d⟩;intro q;rw[q,XA]at e;have q':oc=p.2:=gE e;exact d w' (by rw[<-q'];exact ajg)
theorem J6{M:Model}{A:gc}{E:aq->a9->Prop}{i:Nat}{x:Str}{v:V}{u:aq}{Q:Unit->a9->Prop}(I:Inv X pins σ H s)(hN:X.N.Nodup)(hi:X.N[i]? =some x)(hx:Loc X.env.scope x)(r:RelV v u)(h:∀s',Inv X pins (σ.set i (some v)) H s'->Q () s')(hf:X.fn x=true∨X.env.scope.names.lookup x=some .local:=by first|exact .inl rfl|exact .inr rfl|assumption):bV M A (storeName X.env x u) Q E s:=
 Xy I hN hi hx r (fun s' I' _=>h s' I') hf
theorem Inv.OX{s':a9}{ch:List Addr}(I:Inv X pins σ H s)(ho:s'.os=s.os)(u:Un (kh X.stack) ch H H' s.heap s'.heap)(bS:iS X.prog X.w H' s'.heap)(hg:AllBare s'.gens)(xq:∀b∈ch,(b∈X.ex∨X.kG.heap.objs.size<=b)/\b≠X.env.locals/\(∀x c,X.env.cells.lookup x=some c->c≠b)/\∀p∈X.pn++pins,p.1≠b):Inv X pins σ H' s':=by
 obtain ⟨h',g',d',t',o'⟩:=s';have e:o'=s.os:=ho;subst e;exact I.call (g':=g') (t':=t') (d':=d') u bS hg xq
end
abbrev XK:=aq->Option Addr->Hp->Prop
abbrev St:=List (Option V)
abbrev VK:=V->Hp->Prop
abbrev TE:=St->Hp->VK->Prop
abbrev TT:=St->Hp->(Bool->Hp->Prop)->Prop
abbrev TA:=St->Hp->(List V->Hp->Prop)->Prop
structure Ends where
 nx:St->Hp->Prop
 rt:VK
 bk:St->Hp->Prop:=fun _ _=>False
 ct:St->Hp->Prop:=fun _ _=>False
abbrev TS:=Ends->St->Hp->Prop
def EP(X:Cx)(pins:List (Addr×Obj))(σ:St)(Q:VK)(u:aq)(s':a9):Prop:=∃v H',Inv X pins σ H' s'/\RelV v u/\Q v H'
def TP(X:Cx)(pins:List (Addr×Obj))(σ:St)(Q:Bool->Hp->Prop)(b:Bool)(s':a9):Prop:=∃H',Inv X pins σ H' s'/\Q b H'
def AP(X:Cx)(pins:List (Addr×Obj))(σ:St)(Q:List V->Hp->Prop)(us:List aq)(s':a9):Prop:=∃vs H',Inv X pins σ H' s'/\Vals vs us/\Q vs H'
def SP(X:Cx)(pins:List (Addr×Obj))(D:Ends)(f:Flow)(s':a9):Prop:=
 match f with
 | .next=>∃cV H',Inv X pins cV H' s'/\D.nx cV H'
 | .brk=>∃cV H',Inv X pins cV H' s'/\D.bk cV H'
 | .cont=>∃cV H',Inv X pins cV H' s'/\D.ct cV H'
 | .ret u=>∃v cV H',Inv X pins cV H' s'/\RelV v u/\D.rt v H'
def PE(X:Cx)(e:Expr)(t:TE):Prop:=
 ∀(pins:List (Addr×Obj))(s:a9)(σ:St)(H:Hp)(Q:VK),Inv X pins σ H s->t σ H Q->bV (model X.prog X.w) X.A (eval e X.env) (EP X pins σ Q) X.xe s
def PT(X:Cx)(e:Expr)(t:TT):Prop:=
 ∀(pins:List (Addr×Obj))(s:a9)(σ:St)(H:Hp)(Q:Bool->Hp->Prop),Inv X pins σ H s->t σ H Q->bV (model X.prog X.w) X.A (isTrue e X.env (eval e X.env)) (TP X pins σ Q) X.xe s
def PW(X:Cx)(e:Expr)(t:TT):Prop:=
 ∀(whole:Sem aq)(pins:List (Addr×Obj))(s:a9)(σ:St)(H:Hp)(Q:Bool->Hp->Prop),Inv X pins σ H s->t σ H Q->bV (model X.prog X.w) X.A (isTrue e X.env whole) (TP X pins σ Q) X.xe s
theorem PW.pt{X:Cx}{e:Expr}{t:TT}(h:PW X e t):PT X e t:=h _
def PA(X:Cx)(es:List Expr)(t:TA):Prop:=
 ∀(pos:Pos)(pins:List (Addr×Obj))(s:a9)(σ:St)(H:Hp)(Q:List V->Hp->Prop),Inv X pins σ H s->t σ H Q->bV (model X.prog X.w) X.A (spliced (backTo pos (iP es X.env))) (AP X pins σ Q) X.xe s
def PS(X:Cx)(st:Stmt)(t:TS):Prop:=
 ∀(pins:List (Addr×Obj))(s:a9)(σ:St)(H:Hp)(D:Ends),Inv X pins σ H s->t D σ H->bV (model X.prog X.w) X.A (exec st X.env) (SP X pins D) X.xe s
def rC(X:Cx)(st:List Stmt)(t:TS):Prop:=
 ∀(pins:List (Addr×Obj))(s:a9)(σ:St)(H:Hp)(D:Ends),Inv X pins σ H s->t D σ H->bV (model X.prog X.w) X.A (execs st X.env) (SP X pins D) X.xe s
theorem dt{α:Type}{t:Sem α}{Q Q':α->a9->Prop}{M:Model}{A:gc}{E:aq->a9->Prop}{s:a9}(h:bV M A t Q E s)(hQ:∀a s,Q a s->Q' a s):bV M A t Q' E s:=ou h hQ fun _ _ x=>x
section
variable{X:Cx}
inductive J7(o:Option (Option V))(Q:VK)(H:Hp):Prop
 |mk (v:V) (e:o=some (some v)) (q:Q v H):J7 o Q H
def Ai(i:Nat):TE:=fun σ H Q=>J7 σ[i]? Q H
def tC(v:V):TE:=fun _ H Q=>Q v H
theorem aji{i:Nat}{x:Str}{pos:Pos}(hN:X.N[i]? =some x)(hv:BR X.env.scope x)(hd:(x==("__debug__":Str))=false:=by decide)(qJ:(x==("__classdict__":Str))=false:=by decide):PE X (.Name x pos) (Ai i):=by
 intro pins s σ H Q I h;obtain ⟨v,e,h⟩:=h;obtain ⟨m,hn,hl⟩:=I.loc;obtain ⟨u,r,l⟩:=hl i x v hN e hv;have fin:EP X pins σ Q u s:=⟨v,H,I,r,h⟩;rcases l with ⟨hk,hm⟩|⟨hk,c,hc,yB⟩
 .exact VJ (agM I.ok.kind hk hn hm fin) hd
 .rcases hk with hk|hk
  .exact VJ (agN I.ok.kind hk hc yB fin) hd
  .exact VJ (wpAny_loadName_free I.ok.kind hk hc yB fin qJ) hd
theorem gg{i j pos}:PE X (.Constant (.int i) j pos) (tC (.int i)):=fun _ _ _ H _ I h=>wpAny_Constant_int ⟨.int i,H,I.tok _,⟨_,rfl⟩,h⟩
theorem BW{b j pos}:PE X (.Constant (.bool b) j pos) (tC (.bl b)):=fun _ _ _ H _ I h=>Constant_bool ⟨.bl b,H,I,rfl,h⟩
theorem ajj{j pos}:PE X (.Constant .none j pos) (tC .eM):=fun _ _ _ H _ I h=>Constant_none ⟨.eM,H,I,rfl,h⟩
def Gl(X:Cx)(x:Str):Prop:=X.env.kindOf x=some .globalImplicit
theorem yC{E:aq->a9->Prop}{pins:List (Addr×Obj)}{s:a9}{σ:St}{H:Hp}{x:Str}{u:aq}{pos:Pos}{Q:aq->a9->Prop}(I:Inv X pins σ H s)(hg:Gl X x)(hm:X.mg x=some u)(h:Q u s)(hd:(x==("__debug__":Str))=false:=by decide):bV (model X.prog X.w) X.A (eval (.Name x pos) X.env) Q E s:=
 agO I.ok.kind hg (Calls.loadGlobal_global (by rw[I.ok.glob];exact I.mod.glob.keeps I.bk) hm h) hd
theorem BX{E:aq->a9->Prop}{pins:List (Addr×Obj)}{s:a9}{σ:St}{H:Hp}{x:Str}{u:aq}{pos:Pos}{Q:aq->a9->Prop}(I:Inv X pins σ H s)(hg:Gl X x)(hm:X.mg x=none)(hv:bootBuiltins x=some u)(h:Q u s)(hn:x≠"__name__":=by decide)(hd:(x==("__debug__":Str))=false:=by decide):bV (model X.prog X.w) X.A (eval (.Name x pos) X.env) Q E s:=by
 obtain ⟨mb,U,h2⟩:=I.mod.blt;exact agO I.ok.kind hg (Calls.loadGlobal_builtin (by rw[I.ok.glob];exact I.mod.glob.keeps I.bk) hm (by rw[I.ok.blt];exact U.keeps I.bk) ((h2 x hn).trans hv) h) hd
theorem ajk{x:Str}{v:V}{u:aq}{pos:Pos}(hg:Gl X x)(hm:X.mg x=some u)(r:RelV v u)(hd:(x==("__debug__":Str))=false:=by decide):PE X (.Name x pos) (tC v):=
 fun _ _ _ H _ I h=>yC I hg hm ⟨v,H,I,r,h⟩ hd
variable{a b:Expr}{ta tb:TE}{pos:Pos}
def PC(X:Cx)(op:CmpOp)(a b:Expr)(t:TE):Prop:=
 ∀(pins:List (Addr×Obj))(s:a9)(σ:St)(H:Hp)(Q:VK),Inv X pins σ H s->t σ H Q->
  bV (model X.prog X.w) X.A (eval a X.env) (fun v gO=>bV (model X.prog X.w) X.A (eval b X.env) (fun u pE=>bV (model X.prog X.w) X.A (compareOp op v u) (EP X pins σ Q) X.xe pE) X.xe gO) X.xe s
theorem ajl(b:Expr){op:CmpOp}(h:op≠.In)(h2:op≠.NotIn):behindInMarks op b=false:=by
 have e1:(op==CmpOp.In)=false:=by cases op<;>first|rfl|exact absurd rfl h
 have e2:(op==CmpOp.NotIn)=false:=by cases op<;>first|rfl|exact absurd rfl h2
 cases b<;>simp[behindInMarks,e1,e2]
def tB(t:TE):TT:=fun σ H Q=>t σ H fun x H1=>∃c,x=.bl c/\Q c H1
theorem vV{op:CmpOp}{t:TE}(h:PC X op a b t)(U:behindInMarks op b=false:=by first|exact ajl _ (by decide) (by decide)|rfl):PT X (.Compare a [op] [b] pos) (tB t):=by
 intro pins s σ H Q I hw;refine agP (dt (h pins s σ H _ I hw) fun v s1 U=>dt U fun u s2 h2=>dt h2 fun c s3 ⟨x,H1,I1,r1,q1⟩=>?_) U;obtain ⟨d,rfl,q⟩:=q1;cases r1;exact BA ⟨H1,I1,q⟩
theorem tF{e:Expr}{t:TE}(h:PE X e t)(he:∀whole,isTrue e X.env whole=(do let v <-whole;standAt e.pos;holding [v] (truthy v)):=by intro _;rfl):PT X e (tB t):=by
 intro pins s σ H Q I hw;refine isTrue_plain (dt (h pins s σ H _ I hw) fun v s1 ⟨x,H1,I1,r1,q1⟩=>?_) (he _);obtain ⟨d,rfl,q⟩:=q1;cases r1;exact BA ⟨H1,I1,q⟩
variable{tA J8:TT}{rest:List Expr}
def ajm(t u:TT):TT:=fun σ H Q=>t σ H fun c H1=>if c=true then u σ H1 Q else Q false H1
def tOr(t u:TT):TT:=fun σ H Q=>t σ H fun c H1=>if c=true then Q true H1 else u σ H1 Q
def ajo(t:TT):TT:=fun σ H Q=>t σ H fun c H1=>Q (!c) H1
theorem XC(ha:PT X a tA):PW X (.BoolOp .And [a] pos) tA:=by
 intro wh pins s σ H Q I h;refine isTrue_and (dt (ha pins s σ H Q I h) fun c s1 e=>?_);cases c with
 |true=>exact isTrue_and_nil e
 |false=>exact e
theorem O0(ha:PT X a tA):PW X (.BoolOp .Or [a] pos) tA:=by
 intro wh pins s σ H Q I h;refine isTrue_or (dt (ha pins s σ H Q I h) fun c s1 e=>?_);cases c with
 |false=>exact isTrue_or_nil e
 |true=>exact e
theorem XD(ha:PT X a tA)(hb:PW X (.BoolOp .And (b::rest) pos) J8):PW X (.BoolOp .And (a::b::rest) pos) (ajm tA J8):=by
 intro wh pins s σ H Q I h;refine isTrue_and (dt (ha pins s σ H _ I h) fun c s1 ⟨H1,I1,q1⟩=>?_);cases c with
 |true=>exact hb wh pins s1 σ H1 Q I1 q1
 |false=>exact ⟨H1,I1,q1⟩
theorem J9(ha:PT X a tA)(hb:PW X (.BoolOp .Or (b::rest) pos) J8):PW X (.BoolOp .Or (a::b::rest) pos) (tOr tA J8):=by
 intro wh pins s σ H Q I h;refine isTrue_or (dt (ha pins s σ H _ I h) fun c s1 ⟨H1,I1,q1⟩=>?_);cases c with
 |true=>exact ⟨H1,I1,q1⟩
 |false=>exact hb wh pins s1 σ H1 Q I1 q1
theorem DW(ha:PT X a tA):PT X (.UnaryOp .Not a pos) (ajo tA):=by
 intro pins s σ H Q I h;exact isTrue_not (ha pins s σ H (fun c H1=>Q (!c) H1) I h)
def ajp(ta tb:TE):TE:=fun σ H Q=>ta σ H fun x H1=>∃c,x=.bl c/\if c=true then tb σ H1 Q else Q (.bl false) H1
def ajq(ta:TE):TE:=fun σ H Q=>ta σ H fun x H1=>∃c,x=.bl c/\Q (.bl (!c)) H1
theorem ajr{op}{t:TE}(h:PE X a t):PE X (.BoolOp op [a] pos) t:=fun pins s σ H Q I hw=>BoolOp_one (h pins s σ H Q I hw)
theorem ajs(ha:PE X a ta)(hb:PE X (.BoolOp .And (b::rest) pos) tb):PE X (.BoolOp .And (a::b::rest) pos) (ajp ta tb):=by
 intro pins s σ H Q I h;refine BoolOp_and (dt (ha pins s σ H _ I h) fun v s1 ⟨x,H1,I1,r1,q1⟩=>?_);obtain ⟨c,rfl,q1⟩:=q1;cases r1;refine BA ?_;cases c with
 |true=>exact hb pins s1 σ H1 Q I1 q1
 |false=>exact ⟨.bl false,H1,I1,rfl,q1⟩
theorem XE(ha:PE X a ta):PE X (.UnaryOp .Not a pos) (ajq ta):=by
 intro pins s σ H Q I h;refine UnaryOp_ (dt (ha pins s σ H _ I h) fun v s1 ⟨x,H1,I1,r1,q1⟩=>?_);obtain ⟨c,rfl,q1⟩:=q1;cases r1;exact not_of (BA ⟨.bl (!c),H1,I1,rfl,q1⟩)
def tIf(t:TT)(ta tb:TE):TE:=fun σ H Q=>t σ H fun c H1=>if c=true then ta σ H1 Q else tb σ H1 Q
theorem Ka{c:Expr}(hc:PT X c tA)(ha:PE X a ta)(hb:PE X b tb):PE X (.IfExp c a b pos) (tIf tA ta tb):=by
 intro pins s σ H Q I h;refine wpAny_IfExp (dt (hc pins s σ H _ I h) fun d s1 ⟨H1,I1,q1⟩=>?_);cases d with
 |true=>exact ha pins s1 σ H1 Q I1 q1
 |false=>exact hb pins s1 σ H1 Q I1 q1
end
def aD(K:cB)(H:Hp)(a:Addr)(xs:List V):Prop:=
 Rd H a (.lst xs)∨
  ∃(o:Obj)(bD:Array aq)(n:Nat),K.lookup a=some o/\o.cls=.type "list"/\o.dict=none/\o.data=.seq bD n/\bD.size<=cJ/\Vals xs bD.toList
def kj(K:cB)(H:Hp)(a:Addr)(xs:List V):Prop:=
 Rd H a (.tup xs)∨
  ∃(o:Obj)(bD:Array aq)(n:Nat),K.lookup a=some o/\o.cls=.type "tuple"/\o.data=.seq bD n/\bD.size<=cJ/\Vals xs bD.toList
def aju:aq->Option V
 | .none=>some .eM
 | .bool b=>some (.bl b)
 | .int i _=>some (.int i)
 | .str x _=>some (.str x)
 | .bytes b _=>some (.qG b)
 | .float b _=>some (.JV b)
 | .ref a=>some (.ref a)
 | .type n=>some (.ty n)
 |_=>none
theorem RelV.abs{x:V}{u:aq}(r:RelV x u):aju u=some x:=by
 cases x with
 |eM=>cases r;rfl
 |bl _=>cases r;rfl
 |int _=>obtain ⟨t,rfl⟩:=r;rfl
 |str _=>obtain ⟨t,rfl⟩:=r;rfl
 |qG _=>obtain ⟨t,rfl⟩:=r;rfl
 |JV _=>obtain ⟨t,rfl⟩:=r;rfl
 |ref _=>cases r;rfl
 |ty _=>cases r;rfl
theorem RelV.inj{x y:V}{u:aq}(r:RelV x u)(q:RelV y u):x=y:=gE (r.abs.symm.trans q.abs)
theorem Vals.inj:∀{xs ys:List V}{us:List aq},Vals xs us->Vals ys us->xs=ys
 |_,_,_,.nil,.nil=>rfl
 |_,_,_,.cons r t,.cons r' t'=>by rw[r.inj r',Vals.inj t t']
section
variable{X:Cx}{pins:List (Addr×Obj)}{σ:St}{H:Hp}{s:a9}{a:Addr}{xs ys:List V}
theorem aD.of{K:cB}(h:H a=some (.lst xs)):aD K H a xs:=.inl (.inl h)
theorem kj.of{K:cB}(h:H a=some (.tup xs)):kj K H a xs:=.inl (.inl h)
theorem Inv.list(I:Inv X pins σ H s)(h:aD X.K H a xs):∃bD:List aq,Vals xs bD/\PlainL s.heap a bD.toArray/\xs.length<=cJ:=by
 rcases h with h|⟨o,bD,n,hk,hc,hd,hs,hz,r⟩
 .obtain ⟨z,bD,n,r,e⟩:=h.ok I.bS;exact ⟨bD,r,⟨_,n,e,rfl,rfl,rfl⟩,z⟩
 .refine ⟨bD.toList,r,⟨o,n,I.m8 a o hk,hc,hd,by simpa using hs⟩,?_⟩;have e:=r.length;simp only[BB]at e;omega
theorem Inv.tuple(I:Inv X pins σ H s)(h:kj X.K H a xs):∃bD:List aq,Vals xs bD/\IsTup s.heap a bD.toArray/\xs.length<=cJ:=by
 rcases h with h|⟨o,bD,n,hk,hc,hs,hz,r⟩
 .obtain ⟨z,bD,r,p⟩:=h.ok I.bS;exact ⟨bD,r,p,z⟩
 .refine ⟨bD.toList,r,⟨o,I.m8 a o hk,hc,n,by simpa using hs⟩,?_⟩;have e:=r.length;simp only[BB]at e;omega
theorem Inv.Gq(I:Inv X pins σ H s)(h:aD X.K H a xs)(h':aD X.K H a ys):xs=ys:=by
 obtain ⟨bD,r,⟨o,n,e,_,_,d⟩,_⟩:=I.list h;obtain ⟨its',r',⟨o',n',e',_,_,d'⟩,_⟩:=I.list h';rw[e]at e';cases e';rw[d]at d';injection d' with d1 _
 have:bD=its':=by simpa using congrArg Array.toList d1
 subst this;exact r.inj r'
end
abbrev Cx.uq(X:Cx)(E:aq->a9->Prop):Cx:={X with xe:=E}
abbrev Cx.va(X:Cx):Cx:=X.uq fun _ _=>False
theorem Cx.Ok.uq{X:Cx}(ok:X.Ok)(E:aq->a9->Prop):(X.uq E).Ok:=
 ⟨ok.mod,ok.kind,ok.glob,ok.blt,ok.above,ok.inj,ok.has,ok.DR,ok.hd,ok.frames,ok.uj,ok.Gg,ok.bs,ok.um,ok.DS,ok.DT,ok.r6,ok.xp⟩
theorem Cx.Ok.vW{X:Cx}{E:aq->a9->Prop}(ok:(X.uq E).Ok):X.Ok:=
 ⟨ok.mod,ok.kind,ok.glob,ok.blt,ok.above,ok.inj,ok.has,ok.DR,ok.hd,ok.frames,ok.uj,ok.Gg,ok.bs,ok.um,ok.DS,ok.DT,ok.r6,ok.xp⟩
section
variable{X:Cx}{pins:List (Addr×Obj)}{σ:St}{H:Hp}{s:a9}{E:aq->a9->Prop}
theorem Inv.uq(I:Inv X pins σ H s)(E:aq->a9->Prop):Inv (X.uq E) pins σ H s:=⟨I.ok.uq E,I.os,I.bare,I.base,I.loc,I.cell,I.free,I.qe,I.pin,I.bS,I.len⟩
theorem Inv.vW(I:Inv (X.uq E) pins σ H s):Inv X pins σ H s:=⟨I.ok.vW,I.os,I.bare,I.base,I.loc,I.cell,I.free,I.qe,I.pin,I.bS,I.len⟩
theorem SP.vW{D:Ends}{f:Flow}{s':a9}(h:SP (X.uq E) pins D f s'):SP X pins D f s':=by
 cases f with
 |next=>obtain ⟨cV,H',I,q⟩:=h;exact ⟨cV,H',I.vW,q⟩
 |brk=>obtain ⟨cV,H',I,q⟩:=h;exact ⟨cV,H',I.vW,q⟩
 |cont=>obtain ⟨cV,H',I,q⟩:=h;exact ⟨cV,H',I.vW,q⟩
 |ret u=>obtain ⟨v,cV,H',I,r,q⟩:=h;exact ⟨v,cV,H',I.vW,r,q⟩
theorem PE.va{e:Expr}{t:TE}(h:PE X.va e t):PE X e t:=fun pins s σ H Q I hw=>
 ou (h pins s σ H Q (I.uq _) hw) (fun _ _ ⟨v,H',I',r,q⟩=>⟨v,H',I'.vW,r,q⟩) fun _ _ z=>False.elim z
theorem PT.va{e:Expr}{t:TT}(h:PT X.va e t):PT X e t:=fun pins s σ H Q I hw=>
 ou (h pins s σ H Q (I.uq _) hw) (fun _ _ ⟨H',I',q⟩=>⟨H',I'.vW,q⟩) fun _ _ z=>False.elim z
theorem rC.va{st:List Stmt}{t:TS}(h:rC X.va st t):rC X st t:=fun pins s σ H D I hw=>
 ou (h pins s σ H D (I.uq _) hw) (fun _ _ q=>q.vW) fun _ _ z=>False.elim z
end
section
variable{X:Cx}{st:Stmt}{rest:List Stmt}{t u:TS}{e:Expr}{te:TE}{pos:Pos}
def XF:TS:=fun D σ H=>D.nx σ H
def ajv(t u:TS):TS:=fun D σ H=>t {D with nx:=u D} σ H
theorem mP:rC X [] XF:=fun _ _ σ H _ I h=>FQ ⟨σ,H,I,h⟩
theorem bF(U:PS X st t)(h2:rC X rest u):rC X (st::rest) (ajv t u):=by
 intro pins s σ H D I h;refine VL (dt (U pins s σ H {D with nx:=u D} I h) fun f s1 q=>?_);cases f with
 |next=>
  obtain ⟨cV,H',I',q⟩:=q;exact h2 pins s1 cV H' D I' q
 |ret v=>exact q
 |brk=>exact q
 |cont=>exact q
theorem cy(U:PS X st t):rC X [st] t:=by
 intro pins s σ H D I h;refine VL (dt (U pins s σ H D I h) fun f s1 q=>?_);cases f with
 |next=>exact FQ q
 |ret v=>exact q
 |brk=>exact q
 |cont=>exact q
def ajw:TS:=fun D σ H=>D.ct σ H
theorem ajx:PS X (.Pass pos) XF:=fun _ _ σ H _ I h=>wpAny_Pass ⟨σ,H,I,h⟩
theorem ajy:PS X (.Continue pos) ajw:=fun _ _ σ H _ I h=>wpAny_Continue ⟨σ,H,I,h⟩
theorem Inv.quiet{pins:List (Addr×Obj)}{σ:St}{H:Hp}{s:a9}(I:Inv X pins σ H s):interactive X.env=false:=by simp[interactive,I.ok.kind]
def ajz(te:TE):TS:=fun D σ H=>te σ H fun _ H1=>D.nx σ H1
theorem jv(he:PE X e te)(hs:swapsWith e none pos.line X.env=pure false:=by rfl):PS X (.Expr e pos) (ajz te):=by
 intro pins s σ H D I h;exact wpAny_Expr_any (dt (he pins s σ H _ I h) fun v s1 ⟨x,H1,I1,r1,q1⟩=>⟨σ,H1,I1,q1⟩) I.quiet hs
def ajA(te:TE):TS:=fun D σ H=>te σ H D.rt
theorem eN(he:PE X e te):PS X (.Return (some e) pos) (ajA te):=by
 intro pins s σ H D I h;exact wpAny_Return_some (dt (he pins s σ H _ I h) fun v s1 ⟨x,H1,I1,r1,q1⟩=>⟨x,σ,H1,I1,r1,q1⟩)
def ajB(c:TT)(t u:TS):TS:=fun D σ H=>c σ H fun b H1=>if b=true then t D σ H1 else u D σ H1
theorem mQ{c:Expr}{a b:List Stmt}{tc:TT}(hc:PT X c tc)(ha:rC X a t)(hb:rC X b u):PS X (.If c a b pos) (ajB tc t u):=by
 intro pins s σ H D I h;refine wpAny_If (dt (hc pins s σ H _ I h) fun d s1 ⟨H1,I1,q1⟩=>?_);cases d with
 |true=>exact ha pins s1 σ H1 D I1 q1
 |false=>exact hb pins s1 σ H1 D I1 q1
end
abbrev TG:=V->St->Hp->(St->Hp->Prop)->Prop
abbrev Aj:=List V->St->Hp->(St->Hp->Prop)->Prop
def PG(X:Cx)(target:Expr)(t:TG):Prop:=
 ∀(pins:List (Addr×Obj))(s:a9)(σ:St)(H:Hp)(v:V)(u:aq)(Q:St->Hp->Prop),Inv X pins σ H s->RelV v u->t v σ H Q->
  bV (model X.prog X.w) X.A (assign target X.env u) (fun _ s'=>∃cV H',Inv X pins cV H' s'/\Q cV H') X.xe s
def Gr(X:Cx)(ts:List Expr)(t:Aj):Prop:=
 ∀(pins:List (Addr×Obj))(s:a9)(σ:St)(H:Hp)(vs:List V)(us:List aq)(Q:St->Hp->Prop),Inv X pins σ H s->Vals vs us->t vs σ H Q->
  bV (model X.prog X.w) X.A (assignInOrder ((assignEach ts X.env).map (·.2)) us) (fun _ s'=>∃cV H',Inv X pins cV H' s'/\Q cV H') X.xe s
abbrev O1:=V->V->V->Hp->(Hp->Prop)->Prop
def XG(X:Cx)(t:O1):Prop:=
 ∀(pins:List (Addr×Obj))(s:a9)(σ:St)(H:Hp)(o i v:V)(ov iv u:aq)(Q:Hp->Prop),Inv X pins σ H s->RelV o ov->RelV i iv->RelV v u->t o i v H Q->
  bV (model X.prog X.w) X.A (setItem ov iv u) (fun _ s'=>∃H',Inv X pins σ H' s'/\Q H') X.xe s
abbrev Kb:=V->V->Hp->VK->Prop
def XH(X:Cx)(op:Operator)(t:Kb):Prop:=
 ∀(pins:List (Addr×Obj))(s:a9)(σ:St)(H:Hp)(x y:V)(v u:aq)(Q:VK),Inv X pins σ H s->RelV x v->RelV y u->t x y H Q->
  bV (model X.prog X.w) X.A (inplaceOp op v u) (EP X pins σ Q) X.xe s
section
variable{X:Cx}{pos:Pos}
def Kc(i:Nat):TG:=fun v σ H Q=>Q (σ.set i (some v)) H
theorem gG{i:Nat}{x:Str}(hN:X.N.Nodup)(hi:X.N[i]? =some x)(hx:Loc X.env.scope x)(hf:X.fn x=true∨X.env.scope.names.lookup x=some .local:=by first|exact .inl rfl|exact .inr rfl|assumption):PG X (.Name x pos) (Kc i):=by
 intro pins s σ H v u Q I r h;exact agQ (J6 I hN hi hx r (fun s' I'=>⟨_,H,I',h⟩) hf)
def ajC:Aj:=fun vs σ H Q=>vs=[]/\Q σ H
inductive XI(vs:List V)(k:V->List V->Prop):Prop
 |mk (v:V) (r:List V) (e:vs=v::r) (q:k v r):XI vs k
def ajD(t:TG)(u:Aj):Aj:=fun vs σ H Q=>XI vs fun v r=>t v σ H fun cV H'=>u r cV H' Q
theorem xx:Gr X [] ajC:=by
 intro pins s σ H vs us Q I r h;obtain ⟨e,h⟩:=h;subst e;cases r;exact assignInOrder_nil ⟨σ,H,I,h⟩
theorem oB{e:Expr}{es:List Expr}{t:TG}{u:Aj}(U:PG X e t)(h2:Gr X es u)(hs:(assignEach (e::es) X.env).map (·.2)=assign e X.env::(assignEach es X.env).map (·.2):=by rfl):Gr X (e::es) (ajD t u):=by
 intro pins s σ H vs us Q I r h;obtain ⟨v,vr,e1,h⟩:=h;subst e1;cases r with
 |cons r rr=>
  rw[hs];refine assignInOrder_cons (dt (U pins s σ H _ _ _ I r h) fun _ s1 ⟨DX,H1,I1,q1⟩=>?_);exact h2 pins s1 DX H1 _ _ Q I1 rr q1
inductive XJ(K:cB)(H:Hp)(n:Nat)(v:V)(k:List V->Prop):Prop
 |mk (a:Addr) (xs:List V) (e:v=.ref a) (s:kj K H a xs) (l:xs.length=n) (q:k xs):XJ K H n v k
def XM(K:cB)(n:Nat)(t:Aj):TG:=fun v σ H Q=>XJ K H n v fun xs=>t xs σ H Q
theorem Ak{es:List Expr}{k:Nat}{t:Aj}{n:Nat}(hc:X.calm=true)(h:Gr X es t)(hn:(assignEach es X.env).length=n:=by rfl)(oC:(assignEach es X.env).findIdx? (·.1)=none:=by rfl):PG X (.Tuple es k pos) (XM X.K n t):=by
 intro pins s σ H v u Q I r hw;obtain ⟨a,xs,e1,hq,hl,hw⟩:=hw;subst e1;cases r;obtain ⟨bD,rv,ht,hz⟩:=I.tuple hq;refine assign_Tuple_tuple (I.ok.hd hc) ht (by simp[hn,<-hl,rv.length]) oC fun h' hx=>?_;have I1:Inv X pins σ H {s with heap:=h'}:=I.kept (t':=s.toks) fun b o e=>hx b o (kg (iK e)) e;exact h pins _ σ H xs _ Q I1 (by simpa using rv) hw
def O2(to ti:TE)(t:O1):TG:=fun v σ H Q=>to σ H fun o H1=>ti σ H1 fun i H2=>t o i v H2 fun H3=>Q σ H3
theorem Gs{o i:Expr}{to ti:TE}{t:O1}(ho:PE X o to)(hi:PE X i ti)(hs:XG X t)(ha:∀v,assign (.Subscript o i pos) X.env v=(do
   let ov <-holding [v] (eval o X.env)
   let iv <-holding [v,ov] (eval i X.env)
   standAt pos
   holding [v,ov,iv] (setItem ov iv v)
   release [v,ov,iv] []):=by intro _;rfl):PG X (.Subscript o i pos) (O2 to ti t):=by
 intro pins s σ H v u Q I r h;rw[ha];refine cE (yq (dt (ho pins s σ H _ I h) fun ov s1 ⟨x,H1,I1,r1,q1⟩=>?_));refine cE (yq (dt (hi pins s1 σ H1 _ I1 q1) fun iv s2 ⟨y,H2,I2,r2,q2⟩=>?_));refine cE (VM (cE (yq (dt (hs pins s2 σ H2 x y v ov iv u _ I2 r1 r2 r q2) fun _ s3 ⟨H3,I3,q3⟩=>?_))));exact wpAny_release ⟨σ,H3,I3,q3⟩
def Gu(te:TE)(g:TG):TS:=fun D σ H=>te σ H fun x H1=>g x σ H1 D.nx
theorem Gv{tg e:Expr}{te:TE}{g:TG}(he:PE X e te)(hg:PG X tg g)(hs:swapsWithSole [tg] e pos.line X.env=pure false:=by rfl)(hw:swappedStores [tg] e X.env=pure none:=by rfl)(U:(assignEach [tg] X.env).map (·.2)=[assign tg X.env]:=by rfl):PS X (.Assign [tg] e pos) (Gu te g):=by
 intro pins s σ H D I h;refine wpAny_Assign_stores (dt (he pins s σ H _ I h) fun v s1 ⟨x,H1,I1,r1,q1⟩=>?_) hs hw;rw[U];exact dt (hg pins s1 σ H1 x v _ I1 r1 q1) fun _ s2 q=>q
theorem dB{i:Nat}{x:Str}{e:Expr}{te:TE}{pos':Pos}(hN:X.N.Nodup)(hi:X.N[i]? =some x)(hx:Loc X.env.scope x)(he:PE X e te)(hs:swapsWith e (some (.Name x pos')) pos.line X.env=pure false:=by rfl)(hf:X.fn x=true∨X.env.scope.names.lookup x=some .local:=by first|exact .inl rfl|exact .inr rfl|assumption):
  PS X (.Assign [.Name x pos'] e pos) (Gu te (Kc i)):=by
 intro pins s σ H D I h;refine agR (dt (he pins s σ H _ I h) fun v s1 ⟨y,H1,I1,r1,q1⟩=>?_) hs;exact J6 I1 hN hi hx r1 (fun s2 I2=>⟨_,H1,I2,q1⟩) hf
def ajE(i:Nat)(te:TE)(ti:Kb):TS:=fun D σ H=>∃x,σ[i]? =some (some x)/\te σ H fun y H1=>ti x y H1 fun z H2=>D.nx (σ.set i (some z)) H2
theorem XN{i:Nat}{x:Str}{e:Expr}{te:TE}{op:Operator}{ti:Kb}{pos':Pos}(hN:X.N.Nodup)(hi:X.N[i]? =some x)(hx:Loc X.env.scope x)(he:PE X e te)(ho:XH X op ti)(hf:X.fn x=true∨X.env.scope.names.lookup x=some .local:=by first|exact .inl rfl|exact .inr rfl|assumption):
  PS X (.AugAssign (.Name x pos') op e pos) (ajE i te ti):=by
 intro pins s σ H D I h;obtain ⟨v,e1,h⟩:=h;obtain ⟨m,hn,hl⟩:=I.loc;have vis:BR X.env.scope x:=by rcases hx with k|k;exact .inl k;exact .inr (.inl k)
 obtain ⟨u,r,l⟩:=hl i x v hi e1 vis;refine wpAny_AugAssign_Name ?_;have go:bV (model X.prog X.w) X.A (eval e X.env) (fun w pE=>bV (model X.prog X.w) X.A (inplaceOp op u w) (fun r Al=>bV (model X.prog X.w) X.A (storeName X.env x r) (fun _=>SP X pins D .next) X.xe Al) X.xe pE) X.xe s:=by
  refine dt (he pins s σ H _ I h) fun w s1 ⟨y,H1,I1,r1,q1⟩=>?_;refine dt (ho pins s1 σ H1 v y u w _ I1 r r1 q1) fun z s2 ⟨zv,H2,I2,r2,q2⟩=>?_;exact J6 I2 hN hi hx r2 (fun s3 I3=>⟨_,H2,I3,q2⟩) hf
 rcases l with ⟨hk,hm⟩|⟨hk,c,hc,yB⟩
 .exact agM I.ok.kind hk hn hm go
 .rcases hk with hk|hk
  .exact agN I.ok.kind hk hc yB go
  .rcases hx with k|k
   .have:X.env.scope.names.lookup x=some .free:=hk;rw[k]at this;cases this
   .have:X.env.scope.names.lookup x=some .free:=hk;rw[k]at this;cases this
def ipI(f:Int->Int->Int):Kb:=fun x y H Q=>∃i j,x=.int i/\y=.int j/\Q (.int (f i j)) H
theorem XO:XH X .Add (ipI fun i j=>i+j):=by
 intro pins s σ H x y v u Q I r1 r2 h;obtain ⟨i,j,e1,e2,q⟩:=h;subst e1;subst e2;obtain ⟨t,rfl⟩:=r1;obtain ⟨t',rfl⟩:=r2;exact iadd_int ⟨.int _,H,I.tok _,⟨_,rfl⟩,q⟩
end
section
variable{X:Cx}{pos:Pos}
def ajH(c:TT)(tb:TS):TS:=fun D σ H=>∃W:Nat->St->Hp->Prop,(∃m,W m σ H)/\∀m σ H,W m σ H->
 c σ H fun b H1=>if b=true then ∃N:St->Hp->Prop,(∀cV H',N cV H'->∃m',m'<m/\W m' cV H')/\tb {D with nx:=N,ct:=N,bk:=D.nx} σ H1 else D.nx σ H1
theorem BY{c:Expr}{body:List Stmt}{tc:TT}{tb:TS}(hp:NT (model X.prog X.w) X.A X.env X.xe)(hc:PT X c tc)(hb:rC X body tb):PS X (.While c body [] pos) (ajH tc tb):=by
 intro pins s σ H D I h;obtain ⟨W,⟨m0,w0⟩,turn⟩:=h;refine wpAny_While (codeAny_whileLoop (fun n s'=>∃cV H',Inv X pins cV H' s'/\W n cV H') ?_ m0 ⟨σ,H,I,w0⟩);rintro n s1 ⟨DX,H1,I1,w1⟩;refine Dv hp (dt (hc pins s1 DX H1 _ I1 (turn n DX H1 w1)) fun b s2 ⟨H2,I2,q2⟩=>?_);cases b with
 |true=>
  obtain ⟨N,hN,q2⟩:=q2;rw[if_pos rfl];refine Dv hp (dt (hb pins s2 DX H2 _ I2 q2) fun f s3 q3=>?_);cases f with
  |next=>
   obtain ⟨vZ,H3,I3,n3⟩:=q3;obtain ⟨m',hm,w3⟩:=hN vZ H3 n3;exact ⟨m',hm,vZ,H3,I3,w3⟩
  |cont=>
   obtain ⟨vZ,H3,I3,n3⟩:=q3;obtain ⟨m',hm,w3⟩:=hN vZ H3 n3;exact ⟨m',hm,vZ,H3,I3,w3⟩
  |brk=>exact q3
  |ret v=>exact q3
 |false=>
  rw[if_neg jt];exact FQ ⟨DX,H2,I2,q2⟩
end
structure It where
 go:Nat->Hp->Prop
 wb:Nat->Hp->V->Hp->Prop
 stop:Nat->Hp->Prop
def vb(X:Cx)(pins:List (Addr×Obj))(H:Hp)(b:Addr):Prop:=
 H b=none/\b≠X.env.locals/\b∉X.fs/\(b∈X.ex∨X.kG.heap.objs.size<=b)/\(∀x c,X.env.cells.lookup x=some c->c≠b)/\∀p∈X.pn++pins,p.1≠b
theorem Inv.DY{X:Cx}{pins:List (Addr×Obj)}{σ:St}{H H':Hp}{s:a9}{b:Addr}(I:Inv X pins σ H s)(hb:s.heap.objs.size<=b)(hn:H' b=none):vb X pins H' b:=by
 refine ⟨hn,yr (pA I.lt hb),I.JZ hb,.inr (gN I.sz hb),fun x c e z=>?_,fun p hp z=>?_⟩
 .obtain ⟨v,q⟩:=I.cell x c e;exact absurd (pA q.lt (by rw[z];exact hb)) (w9 _)
 .exact absurd (pA (iK (I.pin p hp).1) (by rw[z];exact hb)) (w9 _)
structure Turn(P:eS)(w:eJ)(K:cB)(tg:Expr)(J:It)(fp:List Addr)(it:Addr)(tn:Nat->Heap->Prop):Prop where
 mem:it∈fp
 obj:∀i h,tn i h->∀b∈fp,∃o,h.get? b=some o/\∀v,o.data≠.cell v
 keep:∀i h h',tn i h->(∀b∈fp,∀o,h.get? b=some o->h'.get? b=some o)->tn i h'
 item:∀(X:Cx),X.prog=P->X.w=w->X.K=K->X.calm=true->∀(i:Nat)(pins:List (Addr×Obj))(s:a9)(σ:St)(H:Hp)(E:aq->a9->Prop),Inv X pins σ H s->(∀b∈fp,vb X pins H b)->tn i s.heap->J.go i H->
  bV (model P w) X.A (pyNext (.ref it)) (fun r s1=>∃u,r=some u/\
   bV (model P w) X.A (letOwnedTupleGo tg (.ref it) u) (fun _ s2=>∃x H',Inv X pins σ H' s2/\RelV x u/\J.wb i H x H'/\tn (i+1) s2.heap/\∀b∈fp,H' b=none) E s1) E s
 done:∀(X:Cx),X.prog=P->X.w=w->X.K=K->X.calm=true->∀(i:Nat)(pins:List (Addr×Obj))(s:a9)(σ:St)(H:Hp)(E:aq->a9->Prop),Inv X pins σ H s->(∀b∈fp,vb X pins H b)->tn i s.heap->J.stop i H->
  bV (model P w) X.A (pyNext (.ref it)) (fun r s1=>r=none/\Inv X pins σ H s1) E s
 self:∀(A:gc)(i:Nat)(s:a9)(Q:aq->a9->Prop)(E:aq->a9->Prop),tn i s.heap->Q (.ref it) s->bV (model P w) A (pyIter (.ref it)) Q E s
abbrev TI:=St->Hp->(It->Hp->Prop)->Prop
def Kd(X:Cx)(pins:List (Addr×Obj))(σ:St)(tg:Expr)(R:It->Hp->Prop)(O3:aq)(s2:a9):Prop:=
 ∃(it:Addr)(fp:List Addr)(tn:Nat->Heap->Prop)(J:It)(H':Hp),O3=.ref it/\Inv X pins σ H' s2/\Turn X.prog X.w X.K tg J fp it tn/\tn 0 s2.heap/\(∀b∈fp,vb X pins H' b)/\R J H'
def PI(X:Cx)(tg iter:Expr)(wi:TI):Prop:=
 ∀(pins:List (Addr×Obj))(s:a9)(σ:St)(H:Hp)(R:It->Hp->Prop),Inv X pins σ H s->wi σ H R->
  bV (model X.prog X.w) X.A (eval iter X.env) (fun v s1=>bV (model X.prog X.w) X.A (pyIter v) (Kd X pins σ tg R) X.xe s1) X.xe s
theorem XQ{M:Model}{A:gc}{E:aq->a9->Prop}{s:a9}{tg:Expr}{it:Addr}{u:aq}{o:Obj}{n:String}{vs:Array aq}{Q:Unit->a9->Prop}(ho:s.heap.get? it=some o)(hc:o.cls=.type n)(hd:o.data=.fields vs)(hn:["enumerate","zip","dict_itemiterator","dict_reverseitemiterator","odict_iterator","itertools.zip_longest","itertools.pairwise"].contains n=false)(hQ:Q () s):bV M A (letOwnedTupleGo tg (.ref it) u) Q E s:=by
  unfold letOwnedTupleGo
  cases tg<;>first
    |exact ij hQ
    | (cases u<;>first
        |exact ij hQ
        | (refine cE (wpAny_load ho ?_)
           rw[hc,hd]
           show bV M A (if (["enumerate","zip","dict_itemiterator","dict_reverseitemiterator","odict_iterator","itertools.zip_longest","itertools.pairwise"].contains n&&vs[0]? ==some (rawInt _))=true then _ else _) Q E s
           rw[if_neg (by intro h;rw[hn,agS]at h;cases h)]
           exact ij hQ))
def An(K:cB)(a:Addr):It:=
 ⟨fun i H=>∃xs x,aD K H a xs/\xs[i]? =some x,fun i H x H'=>H'=H/\∀xs,aD K H a xs->xs[i]? =some x,fun i H=>∃xs,aD K H a xs/\xs.length<=i⟩
def yE(lo:Int)(n:Nat):It:=⟨fun i _=>i<n,fun i H x H'=>H'=H/\x=.int (lo+i),fun i _=>n<=i⟩
theorem ajI{P:eS}{w:eJ}{K:cB}{tg:Expr}(a it:Addr):Turn P w K tg (An K a) [it] it (fun i h=>h.IsListIter it a i) where
 mem:=by simp
 obj:=fun i h st b hb=>by
  have e:b=it:=by simpa using hb
  subst e;obtain ⟨o,e,c,d⟩:=st;exact ⟨o,e,fun v z=>by rw[d]at z;cases z⟩
 keep:=fun i h h' st k=>st.at fun o e=>k it (by simp) o e
 item:=by
  intro X hP hw hK hc i pins s σ H E I hf st hg;subst hP hw hK;obtain ⟨xs,x,hq,hx⟩:=hg;obtain ⟨bD,rv,p,hz⟩:=I.list hq;obtain ⟨u,hu,ru⟩:=rv.get hx;obtain ⟨f0,f1,f2,f3,f4,f5⟩:=hf it (by simp);refine wpAny_pyNext_list_item st p.isList (x:=u) (by simpa using hu) fun h' ur sb=>?_;have I1:Inv X pins σ H {s with heap:=h'}:=I.turned (t':=s.toks) (fun b o hb e=>(sb.2 b hb).trans e) f0 f1 f3 f4 f5;obtain ⟨o,e,c,d⟩:=id ur;exact ⟨u,rfl,XQ (s:={s with heap:=h'}) e c d (by decide) ⟨x,H,I1,ru,⟨rfl,fun ys hy=>by rw[I.Gq hy hq];exact hx⟩,ur,fun b hb=>(hf b hb).1⟩⟩
 done:=by
  intro X hP hw hK hc i pins s σ H E I hf st hg;subst hP hw hK;obtain ⟨xs,hq,hx⟩:=hg;obtain ⟨bD,rv,p,hz⟩:=I.list hq;obtain ⟨f0,f1,f2,f3,f4,f5⟩:=hf it (by simp);have hl:=rv.length;exact wpAny_pyNext_list_end (I.ok.hd hc) st p.isList (by simp;omega) fun h' eb=>⟨rfl,I.turned (t':=s.toks) (fun b o hb e=>eb b o hb e) f0 f1 f3 f4 f5⟩
 self:=fun _ _ _ _ _ st h=>wpAny_pyIter_listiter st h
theorem ajJ{P:eS}{w:eJ}{K:cB}{tg:Expr}(it:Addr)(lo:Int)(n:Nat):Turn P w K tg (yE lo n) [it] it (fun i h=>IsRangeIter h it (lo+(i:Nat)*1) ((n:Int)-(i:Nat)) 1) where
 mem:=by simp
 obj:=fun i h st b hb=>by
  have e:b=it:=by simpa using hb
  subst e;exact ⟨_,st,fun v z=>by
   have z':Data.fields _=Data.cell v:=z;cases z'⟩
 keep:=fun i h h' st k=>k it (by simp) _ st
 item:=by
  intro X hP hw hK hc i pins s σ H E I hf st hg;subst hP hw hK;obtain ⟨f0,f1,f2,f3,f4,f5⟩:=hf it (by simp);have W:=Walks.range (prog:=X.prog) (w:=X.w) (I.ok.hd hc) it lo 1 n;refine W.item i s _ _ hg st fun v h' tk hv ur kk=>?_;obtain ⟨t,rfl⟩:=hv;have I1:Inv X pins σ H {s with heap:=h',toks:=tk}:=I.turned (fun b o hb e=>kk b o (by simpa using hb) e) f0 f1 f3 f4 f5;refine ⟨_,rfl,XQ (s:={s with heap:=h',toks:=tk}) (n:="range_iterator") ur rfl rfl (by decide) ⟨.int (lo+i),H,I1,⟨t,?_⟩,⟨rfl,rfl⟩,ur,fun b hb=>(hf b hb).1⟩⟩;rw[Int.mul_one]
 done:=by
  intro X hP hw hK hc i pins s σ H E I hf st hg;subst hP hw hK;obtain ⟨f0,f1,f2,f3,f4,f5⟩:=hf it (by simp);exact wpAny_pyNext_range_end (I.ok.hd hc) st (by have:n<=i:=hg;omega) fun h' eb=>⟨rfl,I.turned (t':=s.toks) (fun b o hb e=>eb b o hb e) f0 f1 f3 f4 f5⟩
 self:=fun _ _ _ _ _ st h=>wpAny_pyIter_rangeiter st h
section
variable{X:Cx}{tg:Expr}
inductive XR(K:cB)(H:Hp)(x:V)(k:Addr->Prop):Prop
 |mk (a:Addr) (e:x=.ref a) (s:∃xs,aD K H a xs) (q:k a):XR K H x k
def ajK(K:cB)(tl:TE):TI:=fun σ H R=>tl σ H fun x H1=>XR K H1 x fun a=>R (An K a) H1
theorem l0{l:Expr}{tl:TE}(hl:PE X l tl):PI X tg l (ajK X.K tl):=by
 intro pins s σ H R I h;refine dt (hl pins s σ H _ I h) fun v s1 ⟨x,H1,I1,r1,q1⟩=>?_;obtain ⟨a,e,⟨xs,hq⟩,q⟩:=q1;subst e;cases r1;obtain ⟨bD,rv,p,hz⟩:=I1.list hq;refine FR p.isList ?_;refine ⟨s1.heap.objs.size,[s1.heap.objs.size],_,_,H1,rfl,I1.kept (t':=s1.toks) fun b o e=>gF _ e,ajI a _,⟨_,lV _ rfl,rfl,rfl⟩,fun b hb=>?_,q⟩;have e:b=s1.heap.objs.size:=by simpa using hb
 subst e;exact I1.DY (dR _) (I1.bS.fresh (dR _))
theorem ajL{pins:List (Addr×Obj)}{σ:St}{H:Hp}{s:a9}{R:It->Hp->Prop}{E:aq->a9->Prop}{lo hi:Int}{t u v:Tok}{tk:Nat}(I:Inv X pins σ H s)(U:-(2 ^ 62)<=lo)(h2:lo<2 ^ 62)(h3:-(2 ^ 62)<=hi)(h4:hi<2 ^ 62)(q:R (yE lo (hi-lo).toNat) H):bV (model X.prog X.w) X.A (pyIter (.ref s.heap.objs.size)) (Kd X pins σ tg R) E {s with heap:=s.heap.push {cls:=.type "range",data:=.fields #[.int lo t,.int hi u,.int 1 v]},toks:=tk}:=by
 refine wpAny_pyIter_range (IsRange.new ..) (small_one U h2 h3 h4) ?_;have I1:Inv X pins σ H {s with heap:=s.heap.push {cls:=.type "range",data:=.fields #[.int lo t,.int hi u,.int 1 v]},toks:=tk}:=I.kept fun b o e=>gF _ e;refine ⟨(s.heap.push {cls:=.type "range",data:=.fields #[.int lo t,.int hi u,.int 1 v]}).objs.size,[(s.heap.push {cls:=.type "range",data:=.fields #[.int lo t,.int hi u,.int 1 v]}).objs.size],_,_,H,rfl,
  I1.kept (t':=tk) fun b o e=>gF _ e,ajJ _ lo (hi-lo).toNat,?_,fun b hb=>?_,q⟩
 .have e1:lo+((0:Nat):Int)*1=lo:=by simp
  have e2:(((hi-lo).toNat:Nat):Int)-((0:Nat):Int)=Builtin.Range.rangeSize lo hi 1:=by rw[rangeSize_one];split<;>omega
  show IsRangeIter _ _ (lo+((0:Nat):Int)*1) ((((hi-lo).toNat:Nat):Int)-((0:Nat):Int)) 1;rw[e1,e2];exact lV _ rfl
 .have e:b=(s.heap.push {cls:=.type "range",data:=.fields #[.int lo t,.int hi u,.int 1 v]}).objs.size:=by simpa using hb
  subst e;exact I1.DY (dR _) (I1.bS.fresh (dR _))
def ajM(ta:TA):TI:=fun σ H R=>ta σ H fun vs H1=>∃j:Int,vs=[.int j]/\-(2 ^ 62)<=j/\j<2 ^ 62/\R (yE 0 j.toNat) H1
theorem B0{a:Expr}{ta:TA}{p pos:Pos}(hg:Gl X "range")(hm:X.mg "range"=none)(ha:PA X [a] ta)(hs:iP [a] X.env=[(false,eval a X.env)]:=by rfl):PI X tg (.Call (.Name "range" p) [a] [] pos) (ajM ta):=by
 intro pins s σ H R I h;refine Call_ (BX I hg hm boot_range (NU (dt (ha pos pins s σ H _ I h) fun us s1 ⟨vs,H1,I1,r1,q1⟩=>?_) hs rfl));obtain ⟨j,e,q1,q2,q⟩:=q1;subst e;cases r1 with
 |cons r rr=>
  cases rr;obtain ⟨t,rfl⟩:=r;exact call_range_1 (ajL I1 (by omega) (by omega) q1 q2 (by simpa using q))
def ajN(wi:TI)(g:TG)(tb:TS):TS:=fun D σ H=>wi σ H fun J H1=>∃W:Nat->Nat->St->Hp->Prop,(∃m,W 0 m σ H1)/\∀i m σ H,W i m σ H->
 (J.stop i H/\D.nx σ H)∨(J.go i H/\∃N:St->Hp->Prop,(∀cV H',N cV H'->∃m',m'<m/\W (i+1) m' cV H')/\∀x H',J.wb i H x H'->g x σ H' fun ib H2=>tb {D with nx:=N,ct:=N,bk:=D.nx} ib H2)
def Gx(fp:List Addr)(h:Heap):List (Addr×Obj):=fp.filterMap fun b=>(h.get? b).map fun o=>(b,o)
theorem O4{fp:List Addr}{h:Heap}{b:Addr}{o:Obj}(hb:b∈fp)(e:h.get? b=some o):(b,o)∈Gx fp h:=Ds.mpr ⟨b,hb,by rw[e];rfl⟩
theorem ajO{fp:List Addr}{h:Heap}{p:Addr×Obj}(hp:p∈Gx fp h):p.1∈fp/\h.get? p.1=some p.2:=by
 obtain ⟨b,hb,e⟩:=Ds.mp hp;cases q:h.get? b with
 |none=>rw[q]at e;cases e
 |some o=>
  rw[q]at e;have e':(b,o)=p:=gE e;subst e';exact ⟨hb,q⟩
theorem Inv.pinned{pins:List (Addr×Obj)}{σ:St}{H:Hp}{s:a9}{fp:List Addr}(I:Inv X pins σ H s)(hf:∀b∈fp,vb X pins H b)(ho:∀b∈fp,∃o,s.heap.get? b=some o/\∀v,o.data≠.cell v):Inv X (pins++Gx fp s.heap) σ H s:=
 I.Xx fun p hp=>(kN.mp hp).elim (fun z=>I.pin p (uT _ z)) fun z=>by
  obtain ⟨hb,e⟩:=ajO z;obtain ⟨f0,f1,f2,_⟩:=hf p.1 hb;obtain ⟨o,e',d⟩:=ho p.1 hb;rw[e]at e';cases e';exact ⟨e,f0,f1,f2,d⟩
theorem Inv.Ke{pins pl:List (Addr×Obj)}{σ:St}{H:Hp}{s:a9}(I:Inv X (pins++pl) σ H s):Inv X pins σ H s:=I.Xx fun p hp=>I.pin p (uT _ (vL _ hp))
theorem kW{iter:Expr}{body:List Stmt}{wi:TI}{g:TG}{tb:TS}{pos:Pos}(hp:NT (model X.prog X.w) X.A X.env X.xe)(hc:X.calm=true)(hi:PI X tg iter wi)(hg:PG X tg g)(hb:rC X body tb)(hs:∀x,foldedSetIterable iter X.env x=pure x:=by intro _;rfl):PS X (.For tg iter body [] pos) (ajN wi g tb):=by
 intro pins s σ H D I h;refine wpAny_For (dt (hi pins s σ H _ I h) fun v s1 U=>dt U fun O3 s2 h2=>?_) hs;obtain ⟨it,fp,tn,J,H2,e,I2,T,Kf,f2,W,⟨m0,w0⟩,turn⟩:=h2;subst e;have B1:∀{H':Hp},(∀b∈fp,H' b=none)->∀b∈fp,vb X pins H' b:=fun hn b hb=>⟨hn b hb,(f2 b hb).2⟩;refine codeAny_forLoop_any (fun n s'=>∃i cV H',Inv X pins cV H' s'/\tn i s'.heap/\(∀b∈fp,H' b=none)/\W i n cV H') ?_ m0 ⟨0,σ,H2,I2,Kf,fun b hb=>(f2 b hb).1,w0⟩;rintro n s3 ⟨i,vZ,H3,I3,Kg,XS,w3⟩;rcases turn i n vZ H3 w3 with ⟨stop,qn⟩|⟨go,N,hN,step⟩
 .refine Dv hp (dt (T.done X rfl rfl rfl hc i pins s3 vZ H3 X.xe I3 (B1 XS) Kg stop) fun r s4 ⟨hr,I4⟩=>?_);subst hr;exact FQ ⟨vZ,H3,I4,qn⟩
 .refine Dv hp (dt (T.item X rfl rfl rfl hc i pins s3 vZ H3 X.xe I3 (B1 XS) Kg go) fun r s4 ⟨u,hr,h4⟩=>?_);subst hr;refine Dv hp (dt h4 fun _ s5 ⟨x,H5,I5,r5,y5,DZ,fr5⟩=>?_);have I5':=I5.pinned (B1 fr5) (T.obj _ _ DZ);refine Dv hp (dt (hg _ s5 vZ H5 x u _ I5' r5 (step x H5 y5)) fun _ s6 ⟨σ6,H6,I6,q6⟩=>?_);refine Dv hp (dt (hb _ s6 σ6 H6 _ I6 q6) fun f s7 q7=>?_);have again:∀{wd:St}{H7:Hp},Inv X (pins++Gx fp s5.heap) wd H7 s7->N wd H7->∃m,m<n/\∃i cV H',Inv X pins cV H' s7/\tn i s7.heap/\(∀b∈fp,H' b=none)/\W i m cV H':=fun {wd H7} I7 n7=>by
   obtain ⟨m',hm,w7⟩:=hN wd H7 n7;refine ⟨m',hm,i+1,wd,H7,I7.Ke,T.keep _ _ _ DZ fun b hb o e=>(I7.pin (b,o) (uT _ (uT _ (O4 hb e)))).1,fun b hb=>?_,w7⟩;obtain ⟨o,e,d⟩:=T.obj _ _ DZ b hb;exact (I7.pin (b,o) (uT _ (uT _ (O4 hb e)))).2.1
  cases f with
  |next=>obtain ⟨wd,H7,I7,n7⟩:=q7;exact again I7 n7
  |cont=>obtain ⟨wd,H7,I7,n7⟩:=q7;exact again I7 n7
  |brk=>obtain ⟨wd,H7,I7,q7⟩:=q7;exact ⟨wd,H7,I7.Ke,q7⟩
  |ret v=>obtain ⟨x7,wd,H7,I7,r7,q7⟩:=q7;exact ⟨x7,wd,H7,I7.Ke,r7,q7⟩
end
theorem qK{K:cB}{a:Addr}{xs:List V}{g:TG}{tb:TS}{D:Ends}{σ:St}{H:Hp}(Pv:Nat->St->Hp->Prop)(h0:Pv 0 σ H)(hl:∀i σ H,i<=xs.length->Pv i σ H->aD K H a xs)(hs:∀i x σ H,xs[i]? =some x->Pv i σ H->g x σ H fun ib H2=>tb {D with nx:=Pv (i+1),ct:=Pv (i+1),bk:=D.nx} ib H2)(hd:∀σ H,Pv xs.length σ H->D.nx σ H):
  ∃W:Nat->Nat->St->Hp->Prop,(∃m,W 0 m σ H)/\∀i m σ H,W i m σ H->
   ((An K a).stop i H/\D.nx σ H)∨((An K a).go i H/\∃N:St->Hp->Prop,(∀cV H',N cV H'->∃m',m'<m/\W (i+1) m' cV H')/\∀x H',(An K a).wb i H x H'->g x σ H' fun ib H2=>tb {D with nx:=N,ct:=N,bk:=D.nx} ib H2):=by
 refine ⟨fun i m σ H=>m=xs.length-i/\i<=xs.length/\Pv i σ H,⟨xs.length,by simp,dU _,h0⟩,?_⟩;rintro i m σ H ⟨rfl,hi,p⟩;have q:=hl i σ H hi p;by_cases eU:i<xs.length
 .refine .inr ⟨⟨xs,xs[i],q,by simp[eU]⟩,Pv (i+1),fun cV H' p'=>⟨xs.length-(i+1),by omega,rfl,eU,p'⟩,fun x H' y=>?_⟩;obtain ⟨e,y⟩:=y;subst e;exact hs i x σ _ (y xs q) p
 .have e:i=xs.length:=by omega
  subst e;exact .inl ⟨⟨xs,q,dR _⟩,hd σ H p⟩
theorem D0{lo:Int}{n:Nat}{g:TG}{tb:TS}{D:Ends}{σ:St}{H:Hp}(Pv:Nat->St->Hp->Prop)(h0:Pv 0 σ H)(hs:∀i σ H,i<n->Pv i σ H->g (.int (lo+i)) σ H fun ib H2=>tb {D with nx:=Pv (i+1),ct:=Pv (i+1),bk:=D.nx} ib H2)(hd:∀σ H,Pv n σ H->D.nx σ H):
  ∃W:Nat->Nat->St->Hp->Prop,(∃m,W 0 m σ H)/\∀i m σ H,W i m σ H->
   ((yE lo n).stop i H/\D.nx σ H)∨((yE lo n).go i H/\∃N:St->Hp->Prop,(∀cV H',N cV H'->∃m',m'<m/\W (i+1) m' cV H')/\∀x H',(yE lo n).wb i H x H'->g x σ H' fun ib H2=>tb {D with nx:=N,ct:=N,bk:=D.nx} ib H2):=by
 refine ⟨fun i m σ H=>m=n-i/\i<=n/\Pv i σ H,⟨n,by simp,dU _,h0⟩,?_⟩;rintro i m σ H ⟨rfl,hi,p⟩;by_cases eU:i<n
 .refine .inr ⟨eU,Pv (i+1),fun cV H' p'=>⟨n-(i+1),by omega,rfl,eU,p'⟩,fun x H' y=>?_⟩;obtain ⟨e,y⟩:=y;subst e y;exact hs i σ _ eU p
 .have e:i=n:=by omega
  subst e;exact .inl ⟨dR _,hd σ H p⟩
abbrev R2:=V->V->Hp->VK->Prop
def qg(X:Cx)(f:aq->aq->Sem aq)(r:R2):Prop:=
 ∀(pins:List (Addr×Obj))(s:a9)(σ:St)(H:Hp)(x y:V)(v u:aq)(Q:VK),Inv X pins σ H s->RelV x v->RelV y u->r x y H Q->
  bV (model X.prog X.w) X.A (f v u) (EP X pins σ Q) X.xe s
def O6(X:Cx)(f:aq->Sem aq)(r:V->Hp->VK->Prop):Prop:=
 ∀(pins:List (Addr×Obj))(s:a9)(σ:St)(H:Hp)(x:V)(v:aq)(Q:VK),Inv X pins σ H s->RelV x v->r x H Q->
  bV (model X.prog X.w) X.A (f v) (EP X pins σ Q) X.xe s
def Ap(X:Cx)(f:aq)(r:List V->Hp->VK->Prop):Prop:=
 ∀(pins:List (Addr×Obj))(s:a9)(σ:St)(H:Hp)(xs:List V)(us:List aq)(Q:VK),Inv X pins σ H s->Vals xs us->r xs H Q->
  bV (model X.prog X.w) X.A (call f us) (EP X pins σ Q) X.xe s
def Kh(r:R2)(ta tb:TE):TE:=fun σ H Q=>ta σ H fun x H1=>tb σ H1 fun y H2=>r x y H2 Q
def tUn(r:V->Hp->VK->Prop)(ta:TE):TE:=fun σ H Q=>ta σ H fun x H1=>r x H1 Q
inductive XT(x y:V)(k:Int->Int->Prop):Prop
 |mk (i j:Int) (ex:x=.int i) (ey:y=.int j) (q:k i j):XT x y k
def Aq(g:Int->Int->V):R2:=fun x y H Q=>XT x y fun i j=>Q (g i j) H
def rU(g:Int->V):V->Hp->VK->Prop:=fun x H Q=>∃i,x=.int i/\Q (g i) H
section
variable{X:Cx}{a b c:Expr}{ta tb tc:TE}{pos:Pos}
theorem Pa(ha:PE X a ta)(hb:PE X b tb){pins:List (Addr×Obj)}{s:a9}{σ:St}{H:Hp}{R:V->V->Hp->Prop}(I:Inv X pins σ H s)(h:ta σ H fun x H1=>tb σ H1 fun y H2=>R x y H2){Q:aq->a9->Prop}{f:aq->aq->Sem aq}(hf:∀v u s2 x y H2,Inv X pins σ H2 s2->RelV x v->RelV y u->R x y H2->bV (model X.prog X.w) X.A (f v u) Q X.xe s2):
  bV (model X.prog X.w) X.A (eval a X.env) (fun v gO=>bV (model X.prog X.w) X.A (eval b X.env) (fun u pE=>bV (model X.prog X.w) X.A (f v u) Q X.xe pE) X.xe gO) X.xe s:=by
 refine dt (ha pins s σ H _ I h) fun v s1 ⟨x,H1,I1,r1,q1⟩=>?_;refine dt (hb pins s1 σ H1 _ I1 q1) fun u s2 ⟨y,H2,I2,r2,q2⟩=>?_;exact hf v u s2 x y H2 I2 r1 r2 q2
theorem o6{op:Operator}{r:R2}(ho:qg X (binaryOp op) r)(ha:PE X a ta)(hb:PE X b tb):PE X (.BinOp a op b pos) (Kh r ta tb):=by
 intro pins s σ H Q I h;exact wpAny_BinOp (Pa ha hb I h fun v u s2 x y H2 I2 rx ry q=>ho pins s2 σ H2 x y v u Q I2 rx ry q)
theorem Ki{op:UnaryOp}{r:V->Hp->VK->Prop}(ho:O6 X (unaryOp op) r)(ha:PE X a ta):PE X (.UnaryOp op a pos) (tUn r ta):=by
 intro pins s σ H Q I h;exact UnaryOp_ (dt (ha pins s σ H _ I h) fun v s1 ⟨x,H1,I1,r1,q1⟩=>ho pins s1 σ H1 x v Q I1 r1 q1)
theorem XW{f:aq->aq->Sem aq}{g:Int->Int->Int}(rule:∀(i j:Int) (t u:Tok) (s:a9) (Q:aq->a9->Prop) (E:aq->a9->Prop),Q (.int (g i j) s.toks) {s with toks:=s.toks+1}->bV (model X.prog X.w) X.A (f (.int i t) (.int j u)) Q E s):
  qg X f (Aq fun i j=>.int (g i j)):=by
 intro pins s σ H x y v u Q I rx ry h;obtain ⟨i,j,rfl,rfl,q⟩:=h;obtain ⟨t,rfl⟩:=rx;obtain ⟨t',rfl⟩:=ry;exact rule i j t t' s _ _ ⟨.int (g i j),H,I.tok _,⟨_,rfl⟩,q⟩
theorem Kj{f:aq->aq->Sem aq}{g:Int->Int->Bool}(rule:∀(i j:Int) (t u:Tok) (s:a9) (Q:aq->a9->Prop) (E:aq->a9->Prop),Q (.bool (g i j)) s->bV (model X.prog X.w) X.A (f (.int i t) (.int j u)) Q E s):
  qg X f (Aq fun i j=>.bl (g i j)):=by
 intro pins s σ H x y v u Q I rx ry h;obtain ⟨i,j,rfl,rfl,q⟩:=h;obtain ⟨t,rfl⟩:=rx;obtain ⟨t',rfl⟩:=ry;exact rule i j t t' s _ _ ⟨.bl (g i j),H,I,rfl,q⟩
def XX(i j:Int):Prop:=(-(2 ^ 64)<i/\i<2 ^ 64)∨(-(2 ^ 64)<j/\j<2 ^ 64)
theorem XX.ok{i j:Int}(h:XX i j):IntMulOk i j:=by
 rcases h with ⟨U,h2⟩|⟨U,h2⟩
 .exact .of_left (intBits_le_64 U h2)
 .exact .of_right (intBits_le_64 U h2)
theorem Gy:qg X (binaryOp .Add) (Aq fun i j=>.int (i+j)):=XW fun _ _ _ _ _ _ _ q=>add_int q
theorem Pb:qg X (binaryOp .Sub) (Aq fun i j=>.int (i-j)):=XW fun _ _ _ _ _ _ _ q=>sub_int q
theorem unI{f:aq->Sem aq}{g:Int->Int}(rule:∀(i:Int) (t:Tok) (s:a9) (Q:aq->a9->Prop) (E:aq->a9->Prop),Q (.int (g i) s.toks) {s with toks:=s.toks+1}->bV (model X.prog X.w) X.A (f (.int i t)) Q E s):
  O6 X f (rU fun i=>.int (g i)):=by
 intro pins s σ H x v Q I rx h;obtain ⟨i,rfl,q⟩:=h;obtain ⟨t,rfl⟩:=rx;exact rule i t s _ _ ⟨.int (g i),H,I.tok _,⟨_,rfl⟩,q⟩
theorem Kk:O6 X (unaryOp .USub) (rU fun i=>.int (-i)):=unI fun _ _ _ _ _ q=>neg_int q
end
def XY:V->V->Bool
 | .eM,.eM=>true| .eM,.int _=>true| .int _,.eM=>true| .eM,.bl _=>true| .bl _,.eM=>true| .eM,.str _=>true| .str _,.eM=>true
 | .int _,.int _=>true| .bl _,.bl _=>true| .str _,.str _=>true| .qG _,.qG _=>true
 | .int _,.str _=>true| .str _,.int _=>true| .bl _,.str _=>true| .str _,.bl _=>true
 |_,_=>false
def rEq:R2:=fun x y H Q=>XY x y=true/\Q (.bl (decide (x=y))) H
def rNe:R2:=fun x y H Q=>XY x y=true/\Q (.bl (!decide (x=y))) H
theorem XZ{i j:Int}:decide (V.int i=V.int j)=(i==j):=by
 rw[n4];simp
theorem X0{i j:Bool}:decide (V.bl i=V.bl j)=(i==j):=by
 rw[n4];simp
theorem X1{i j:Str}:decide (V.str i=V.str j)=(i==j):=by
 rw[n4];simp
theorem X2{i j:Array UInt8}:decide (V.qG i=V.qG j)=(i.toList==j.toList):=by
 rw[n4];cases i;cases j;simp
section
variable{X:Cx}{a b c:Expr}{ta tb tc:TE}{pos:Pos}
theorem kX{pins:List (Addr×Obj)}{σ:St}{H:Hp}{s:a9}{Q:VK}{k k':Bool}(I:Inv X pins σ H s)(q:Q (.bl k) H)(e:k=k'):EP X pins σ Q (.bool k') s:=by
 subst e;exact ⟨.bl k,H,I,rfl,q⟩
theorem Kl:qg X (compareOp .Eq) rEq:=by
 intro pins s σ H x y v u Q I rx ry h;obtain ⟨hs,q⟩:=h;cases x with
 |eM=>
  cases rx;cases y with
  |eM=>cases ry;exact PySem.EqNone.eq_none_none (kX I q (by simp))
  |bl j=>cases ry;exact PySem.EqNone.eq_none_bool (kX I q (by simp))
  |int j=>obtain ⟨t',rfl⟩:=ry;exact PySem.EqNone.eq_none_int (kX I q (by simp))
  |str j=>obtain ⟨t',rfl⟩:=ry;exact PySem.EqNone.eq_none_str (kX I q (by simp))
  |_=>exact absurd (show false=true from hs) jt
 |bl i=>
  cases rx;cases y with
  |eM=>cases ry;exact PySem.EqNone.eq_bool_none (kX I q (by simp))
  |bl j=>cases ry;exact eq_bool (kX I q X0)
  |str j=>obtain ⟨t',rfl⟩:=ry;exact PySem.EqMixed.eq_bool_str (kX I q (by simp))
  |_=>exact absurd (show false=true from hs) jt
 |int i=>
  obtain ⟨t,rfl⟩:=rx;cases y with
  |eM=>cases ry;exact PySem.EqNone.eq_int_none (kX I q (by simp))
  |int j=>obtain ⟨t',rfl⟩:=ry;exact eq_int (kX I q XZ)
  |str j=>obtain ⟨t',rfl⟩:=ry;exact PySem.EqMixed.eq_int_str (kX I q (by simp))
  |_=>exact absurd (show false=true from hs) jt
 |str i=>
  obtain ⟨t,rfl⟩:=rx;cases y with
  |eM=>cases ry;exact PySem.EqNone.eq_str_none (kX I q (by simp))
  |bl j=>cases ry;exact PySem.EqMixed.eq_str_bool (kX I q (by simp))
  |int j=>obtain ⟨t',rfl⟩:=ry;exact PySem.EqMixed.eq_str_int (kX I q (by simp))
  |str j=>obtain ⟨t',rfl⟩:=ry;exact eq_str (kX I q X1)
  |_=>exact absurd (show false=true from hs) jt
 |qG i=>
  obtain ⟨t,rfl⟩:=rx;cases y with
  |qG j=>obtain ⟨t',rfl⟩:=ry;exact PySem.W.eq_bytes (kX I q X2)
  |_=>exact absurd (show false=true from hs) jt
 |_=>cases y<;>exact absurd (show false=true from hs) jt
theorem uu:qg X (compareOp .NotEq) rNe:=by
 intro pins s σ H x y v u Q I rx ry h;obtain ⟨hs,q⟩:=h;cases x with
 |eM=>
  cases rx;cases y with
  |eM=>cases ry;exact PySem.EqNone.ne_none_none (kX I q (by simp))
  |bl j=>cases ry;exact PySem.EqNone.ne_none_bool (kX I q (by simp))
  |int j=>obtain ⟨t',rfl⟩:=ry;exact PySem.EqNone.ne_none_int (kX I q (by simp))
  |str j=>obtain ⟨t',rfl⟩:=ry;exact PySem.EqNone.ne_none_str (kX I q (by simp))
  |_=>exact absurd (show false=true from hs) jt
 |bl i=>
  cases rx;cases y with
  |eM=>cases ry;exact PySem.EqNone.ne_bool_none (kX I q (by simp))
  |bl j=>cases ry;exact ne_bool (kX I q (congrArg not X0))
  |str j=>obtain ⟨t',rfl⟩:=ry;exact PySem.EqMixed.ne_bool_str (kX I q (by simp))
  |_=>exact absurd (show false=true from hs) jt
 |int i=>
  obtain ⟨t,rfl⟩:=rx;cases y with
  |eM=>cases ry;exact PySem.EqNone.ne_int_none (kX I q (by simp))
  |int j=>obtain ⟨t',rfl⟩:=ry;exact ne_int (kX I q (congrArg not XZ))
  |str j=>obtain ⟨t',rfl⟩:=ry;exact PySem.EqMixed.ne_int_str (kX I q (by simp))
  |_=>exact absurd (show false=true from hs) jt
 |str i=>
  obtain ⟨t,rfl⟩:=rx;cases y with
  |eM=>cases ry;exact PySem.EqNone.ne_str_none (kX I q (by simp))
  |bl j=>cases ry;exact PySem.EqMixed.ne_str_bool (kX I q (by simp))
  |int j=>obtain ⟨t',rfl⟩:=ry;exact PySem.EqMixed.ne_str_int (kX I q (by simp))
  |str j=>obtain ⟨t',rfl⟩:=ry;exact ne_str (kX I q (congrArg not X1))
  |_=>exact absurd (show false=true from hs) jt
 |qG i=>
  obtain ⟨t,rfl⟩:=rx;cases y with
  |qG j=>obtain ⟨t',rfl⟩:=ry;exact PySem.W.ne_bytes (kX I q (congrArg not X2))
  |_=>exact absurd (show false=true from hs) jt
 |_=>cases y<;>exact absurd (show false=true from hs) jt
theorem Km:qg X (compareOp .Lt) (Aq fun i j=>.bl (decide (i<j))):=Kj fun _ _ _ _ _ _ _ q=>lt_int q
theorem aj0:qg X (compareOp .LtE) (Aq fun i j=>.bl (decide (i<=j))):=Kj fun _ _ _ _ _ _ _ q=>le_int q
theorem Kn:qg X (compareOp .Gt) (Aq fun i j=>.bl (decide (j<i))):=Kj fun _ _ _ _ _ _ _ q=>gt_int q
theorem aj1:qg X (compareOp .GtE) (Aq fun i j=>.bl (decide (j<=i))):=Kj fun _ _ _ _ _ _ _ q=>ge_int q
theorem mS(b:Expr){op:CmpOp}(h:op≠.In:=by decide)(h2:op≠.NotIn:=by decide):behindInMarks op b=false:=by
 have e1:(op==CmpOp.In)=false:=by cases op<;>first|rfl|exact absurd rfl h
 have e2:(op==CmpOp.NotIn)=false:=by cases op<;>first|rfl|exact absurd rfl h2
 cases b<;>simp[behindInMarks,e1,e2]
theorem Pc{op:CmpOp}{r:R2}(ho:qg X (compareOp op) r)(ha:PE X a ta)(hb:PE X b tb)(hm:behindInMarks op b=false):PE X (.Compare a [op] [b] pos) (Kh r ta tb):=by
 intro pins s σ H Q I h;exact wpAny_Compare1 (Pa ha hb I h fun v u s2 x y H2 I2 rx ry q=>ho pins s2 σ H2 x y v u Q I2 rx ry q) hm
def aj2(t:TE):TT:=fun σ H Q=>t σ H fun x H'=>∃k,x=.bl k/\Q k H'
theorem ng{op:CmpOp}{r:R2}(ho:qg X (compareOp op) r)(ha:PE X a ta)(hb:PE X b tb)(hm:behindInMarks op b=false):PT X (.Compare a [op] [b] pos) (aj2 (Kh r ta tb)):=by
 intro pins s σ H Q I h;refine agP (dt (ha pins s σ H _ I h) fun v s1 ⟨x,H1,I1,r1,q1⟩=>dt (hb pins s1 σ H1 _ I1 q1) fun u s2 ⟨y,H2,I2,r2,q2⟩=>
  dt (ho pins s2 σ H2 x y v u _ I2 r1 r2 q2) fun c s3 ⟨z,H3,I3,r3,k,e,q3⟩=>?_) hm
 subst e;cases r3;exact BA ⟨H3,I3,q3⟩
def aj3(r r':R2)(ta tb tc:TE):TE:=fun σ H Q=>ta σ H fun x H1=>tb σ H1 fun y H2=>r x y H2 fun z H3=>∃k,z=.bl k/\
 (if k=true then tc σ H3 fun w' H4=>r' y w' H4 Q else Q (.bl false) H3)
theorem aj4{op Pd:CmpOp}{r r':R2}(ho:qg X (compareOp op) r)(p8:qg X (compareOp Pd) r')(ha:PE X a ta)(hb:PE X b tb)(hc:PE X c tc)(hm:lastMarks [op,Pd] [b,c]=false:=by with_unfolding_all rfl):PE X (.Compare a [op,Pd] [b,c] pos) (aj3 r r' ta tb tc):=by
 intro pins s σ H Q I h;refine Compare_chain (dt (ha pins s σ H _ I h) fun v s1 ⟨x,H1,I1,r1,q1⟩=>chain_link (dt (hb pins s1 σ H1 _ I1 q1) fun u s2 ⟨y,H2,I2,r2,q2⟩=>
  dt (ho pins s2 σ H2 x y v u _ I2 r1 r2 q2) fun d s3 ⟨z,H3,I3,r3,k,e,q3⟩=>?_)) hm
 subst e;cases r3;refine BA ?_;cases k with
 |false=>exact ite_ff ⟨.bl false,H3,I3,rfl,q3⟩
 |true=>exact ite_tt (chain_last (dt (hc pins s3 σ H3 _ I3 q3) fun w' s4 ⟨z',H4,I4,r4,q4⟩=>p8 pins s4 σ H4 y z' u w' Q I4 r2 r4 q4))
theorem Ko:(cJ:Nat)<2 ^ 63:=by rw[eE];decide
theorem vals1{x:V}{us:List aq}(r:Vals [x] us):∃u,us=[u]/\RelV x u:=by
 cases r with
 |cons r1 r2=>cases r2;exact ⟨_,rfl,r1⟩
end
structure B4(h:Heap)(x dx C:Addr)(mA:Str->Option aq):Prop where
 obj:h.get? x=some (PySem.W.instObj C dx)
 ns:h.Ns1 dx mA
 ne:dx≠x
theorem aj5{h:Heap}{dx:Addr}{mA:Str->Option aq}(n:h.Ns1 dx mA):∃od,h.get? dx=some od/\∀name,PySem.W.lookIn name od=some (mA name):=by
 obtain ⟨o,es,ep,ho,hd,hk,_,hm⟩:=n;refine ⟨o,ho,fun name=>?_⟩;have e:=hm name;unfold nsFind findBy at e;rw[<-Array.find?_toList]at e;unfold PySem.W.lookIn;rw[hd];dsimp only
 split
 .rename_i y q;rw[q]at e;exact congrArg some e
 .rename_i q;rw[q]at e;have a:es.toList.any (·.refKey)=false:=by
   rw[List.any_eq_false];intro y hy;obtain ⟨z,t,Gz⟩:=hk y (Array.mem_toList_iff.mp hy);simp[DictEntry.refKey,Gz]
  have a':¬es.toList.any (·.refKey)=true:=by rw[a];exact jt
  rw[if_neg a'];exact congrArg some e
theorem B4.look{h:Heap}{x dx C:Addr}{mA:Str->Option aq}(I:B4 h x dx C mA):∃od,PySem.W.InstAt h x (PySem.W.instObj C dx) C (some od)/\∀name,PySem.W.lookIn name od=some (mA name):=
 let ⟨od,ho,hl⟩:=aj5 I.ns
 ⟨od,⟨I.obj,rfl,rfl,ho⟩,hl⟩
section
variable{prog:eS}{w:eJ}{A:gc}{E:aq->a9->Prop}{s:a9}{K:cB}{x dx C f:Addr}{mA:Str->Option aq}{name:Str}{v:aq}
theorem get_map{expr:Bool}{Q:aq->a9->Prop}(X:K.In s.heap)(I:B4 s.heap x dx C mA)(hg:PySem.W.plainGet K C name=true)(hh:PySem.W.hasDictIn K C=true)(ha:uU K (.ref C) name=some none)(hv:mA name=some v)(Kp:PySem.W.handedIn v=true)(h:Q v {s with toks:=s.toks+1}):
  bV (model prog w) A (getAttr (.ref x) name expr) Q E s:=by
 obtain ⟨od,J,hl⟩:=I.look;exact PySem.W.get_value X J (VN hg).1 (PySem.W.findObj_own hh ha rfl (by rw[hl,hv])) Kp h
theorem aj6{pl:Sem Bool}{Q:aq×List aq->a9->Prop}(X:K.In s.heap)(I:B4 s.heap x dx C mA)(hg:PySem.W.plainGet K C name=true)(hf:uU K (.ref C) name=some (some (.ref f)))(ht:PySem.W.isFn K (.ref f)=true)(hv:mA name=none)(h:Q (.ref f,[.ref x]) s):
  bV (model prog w) A (getMethod (.ref x) name pl) Q E s:=by
 obtain ⟨od,J,hl⟩:=I.look;exact PySem.W.method_fn X J (VN hg).1 (VN hg).2 hf (beq_iff_eq.mp ht) (by show (PySem.W.lookIn name od).map (·.isSome)=some false;rw[hl,hv];rfl) h
theorem aj7{ns:List Str}{Q:Unit->a9->Prop}(X:K.In s.heap)(I:B4 s.heap x dx C mA)(hs:uU K (.ref C) "__setattr__"=some (some (.builtin "object.__setattr__")))(hp:PySem.W.plainOver K C=true)(ht:PySem.W.takerIn K C name=some none)(hh:PySem.W.hasDictIn K C=true)(hw:PySem.Within mA ns)(hsz:ns.length<=cJ)(h:∀h',B4 h' x dx C (fun y=>if y=name then some v else mA y)->Heap.SameBut dx s.heap h'->Q () {s with heap:=h',toks:=s.toks+2}):
  bV (model prog w) A (setAttr (.ref x) name v) Q E s:=by
 obtain ⟨od,J,hl⟩:=I.look;refine PySem.W.set_plain X J hs (PySem.W.osa_open (s:={s with toks:=s.toks+1}) (r:=none) X J hp ht fun b=>?_);obtain ⟨cd,hc,OT⟩:=PySem.W.any_some hh;have hx:s.heap.get? x=some ⟨.ref C,some dx,.plain,#[]⟩:=I.obj;refine cE (ij (cE (cE (wpAny_loadPart hx (cE (PySem.W.Looks.here (s:={s with toks:=s.toks+1}) (PySem.W.looks_clsIn X hc) ?_))))));rw[OT];refine ij (a:=some dx) (cE (ij (cE ?_)));refine wpAny_nsSet1 (s:={s with toks:=s.toks+1}) I.ns fun h' DO yF=>?_;obtain ⟨oD,esD,epD,hoD,hdD,hcD⟩:=DO.count (PySem.Within.cons name v hw);refine cE (wpAny_lookBehind hoD (by rw[hdD];exact pastItsLine_dict (gN hcD (by rw[iz];omega))) ?_);exact ij (h _ ⟨(yF.2 _ (xa I.ne)).trans I.obj,DO,I.ne⟩ yF)
theorem akb{R:Result->a9->Prop}{vs:List aq}{kw:List (Str×aq)}(X:K.In s.heap)(hm:PySem.W.makesIn K C=true)(hi:uU K (.ref C) "__init__"=some (some (.ref f)))(hf:PySem.W.typeIn K (.ref f)=some (.type "function"))(h:codeAny (model prog w) (A.under (.builtin "type.__call__" ⟨.ref C::vs,kw⟩)) (.call (.ref f) ⟨.ref (s.heap.objs.size+1)::vs,kw⟩) (PySem.W.InitBack (s.heap.objs.size+1) R)
   {s with heap:=(s.heap.push PySem.W.emptyDict).push (PySem.W.instObj C s.heap.objs.size)}):
  codeAny (model prog w) A (.call (.ref C) ⟨vs,kw⟩) R s:=by
 obtain ⟨hh,g,d,t,os⟩:=s;exact PySem.W.make_core (PySem.W.makes_of X hm) (PySem.W.looks_findIn X hi) (fun self=>PySem.W.bind_fn X self hf) (.inl rfl) h
end
def jc(f:Str)(v:V):List (Str×V)->List (Str×V)
 | []=>[(f,v)]
 | (g,x)::r=>if g=f then (g,v)::r else (g,x)::jc f v r
theorem X3(f g:Str)(v:V):∀fs:List (Str×V),(jc f v fs).lookup g=if g=f then some v else fs.lookup g
 | []=>by
  show List.lookup g [(f,v)]=_;by_cases h:g=f
  .have hb:(g==f)=true:=beq_iff_eq.mpr h;simp only[List.lookup,hb,if_pos h]
  .have hb:(g==f)=false:=beq_eq_false_iff_ne.mpr h;simp only[List.lookup,hb,if_neg h]
 | (k,x)::r=>by
  have ih:=X3 f g v r;rw[show jc f v ((k,x)::r)=(if k=f then (k,v)::r else (k,x)::jc f v r) from rfl];by_cases hk:k=f
  .rw[if_pos hk];by_cases h:g=k
   .have hb:(g==k)=true:=beq_iff_eq.mpr h;simp only[List.lookup,hb,if_pos (h.trans hk)]
   .have hb:(g==k)=false:=beq_eq_false_iff_ne.mpr h;simp only[List.lookup,hb,if_neg (fun e:g=f=>h (e.trans hk.symm))]
  .rw[if_neg hk];by_cases h:g=k
   .have hb:(g==k)=true:=beq_iff_eq.mpr h;simp only[List.lookup,hb,if_neg (fun e:g=f=>hk (h.symm.trans e))]
   .have hb:(g==k)=false:=beq_eq_false_iff_ne.mpr h;simp only[List.lookup,hb];exact ih
theorem Pe(f:Str)(v:V):∀fs:List (Str×V),f∈(jc f v fs).map (·.1)/\∀g,g∈fs.map (·.1)->g∈(jc f v fs).map (·.1)
 | []=>⟨by simp[jc],fun g h=>by simp at h⟩
 | (k,x)::r=>by
  obtain ⟨i1,i2⟩:=Pe f v r;rw[show jc f v ((k,x)::r)=(if k=f then (k,v)::r else (k,x)::jc f v r) from rfl];by_cases hk:k=f
  .rw[if_pos hk];subst hk;exact ⟨by simp,fun g h=>by simpa using h⟩
  .rw[if_neg hk];refine ⟨?_,fun g h=>?_⟩
   .rw[jx];exact lU _ i1
   .rw[jx]at h ⊢;rcases f6.mp h with e|e
    .exact f6.mpr (.inl e)
    .exact lU _ (i2 g e)
theorem X4(f:Str)(v:V):∀fs:List (Str×V),(jc f v fs).length<=fs.length+1
 | []=>by simp[jc]
 | (k,x)::r=>by
  have ih:=X4 f v r;rw[show jc f v ((k,x)::r)=(if k=f then (k,v)::r else (k,x)::jc f v r) from rfl];by_cases hk:k=f
  .rw[if_pos hk,iz,iz];omega
  .rw[if_neg hk,iz,iz];omega
theorem qc.some_of{v:V}{o:Option aq}(r:qc (some v) o):∃u,o=some u/\RelV v u:=by
 cases o with
 |none=>exact (show False from r).elim
 |some u=>exact ⟨u,rfl,r⟩
theorem qc.none_of{o:Option aq}(r:qc none o):o=none:=by
 cases o with
 |none=>rfl
 |some u=>exact (show False from r).elim
theorem akc{v:V}{u:aq}(r:RelV v u):PySem.W.handedIn u=true:=by
 cases v with
 |eM=>cases (show u=Value.none from r);rfl
 |bl b=>cases (show u=Value.bool b from r);rfl
 |int i=>obtain ⟨t,e⟩:=(show ∃t,u=Value.int i t from r);cases e;rfl
 |str x=>obtain ⟨t,e⟩:=(show ∃t,u=Value.str x t from r);cases e;rfl
 |qG b=>obtain ⟨t,e⟩:=(show ∃t,u=Value.bytes b t from r);cases e;rfl
 |JV b=>obtain ⟨t,e⟩:=(show ∃t,u=Value.float b t from r);cases e;rfl
 |ref a=>cases (show u=Value.ref a from r);rfl
 |ty n=>cases (show u=Value.type n from r);rfl
section
variable{P:eS}{w:eJ}{H H':Hp}{h h':Heap}{a C dx:Addr}{fs pC:List (Str×V)}
theorem Pf(bS:iS P w H h)(e:H a=some (.ins C dx fs)):∃mA,B4 h a dx C mA/\(∀f,qc (fs.lookup f) (mA f))/\PySem.Within mA (fs.map (·.1))/\fs.length<=1000/\H dx=some (.own a):=by
 obtain ⟨d,z,ne,ob,mA,n,r,q⟩:=(show j5 P w H h a (.ins C dx fs) from bS a _ e);exact ⟨mA,⟨ob,n,ne⟩,r,q,z,d⟩
end
structure qL(K:cB)(C:Addr):Prop where
 pg:PySem.W.plainGet K C Str.empty=true
 hd:PySem.W.hasDictIn K C=true
 po:PySem.W.plainOver K C=true
 sa:uU K (.ref C) "__setattr__"=some (some (.builtin "object.__setattr__"))
theorem qL.get{K:cB}{C:Addr}(c:qL K C)(f:Str):PySem.W.plainGet K C f=true:=c.pg
def lE(K:cB)(C:Addr)(f:Str):Prop:=uU K (.ref C) f=some none
theorem lE.ake{K:cB}{C:Addr}{f:Str}(n:lE K C f):PySem.W.takerIn K C f=some none:=by
 unfold PySem.W.takerIn;rw[show uU K (.ref C) f=some none from n];rfl
structure Meth(K:cB)(C:Addr)(m:Str)(f:Addr):Prop where
 at_:uU K (.ref C) m=some (some (.ref f))
 fn:PySem.W.isFn K (.ref f)=true
 kp:pZ K (.ref f)=true
section
variable{X:Cx}{pins:List (Addr×Obj)}{σ:St}{H:Hp}{s:a9}{a C dx:Addr}{fs:List (Str×V)}{f:Str}{v:V}{A:gc}{E:aq->a9->Prop}
theorem X5{b:Bool}{Q:aq->a9->Prop}(I:Inv X pins σ H s)(e:H a=some (.ins C dx fs))(c:qL X.K C)(n:lE X.K C f)(l:fs.lookup f=some v)(h:∀u s',Inv X pins σ H s'->RelV v u->Q u s'):bV (model X.prog X.w) A (getAttr (.ref a) f b) Q E s:=by
 obtain ⟨mA,O,r,_,_,_⟩:=Pf I.bS e;obtain ⟨u,hu,ru⟩:=qc.some_of (v:=v) (o:=mA f) (by rw[<-l];exact r f);exact get_map I.m8 O (c.get f) c.hd n hu (akc ru) (h u _ (I.tok _) ru)
theorem X6{m:Str}{g:Addr}{pl:Sem Bool}{Q:aq×List aq->a9->Prop}(I:Inv X pins σ H s)(e:H a=some (.ins C dx fs))(c:qL X.K C)(k:Meth X.K C m g)(l:fs.lookup m=none)(h:Q (.ref g,[.ref a]) s):bV (model X.prog X.w) A (getMethod (.ref a) m pl) Q E s:=by
 obtain ⟨mA,O,r,_,_,_⟩:=Pf I.bS e;have hn:mA m=none:=qc.none_of (by rw[<-l];exact r m);exact aj6 I.m8 O (c.get m) k.at_ k.fn hn h
theorem X7{y:V}{u:aq}{Q:Unit->a9->Prop}(I:Inv X pins σ H s)(e:H a=some (.ins C dx fs))(c:qL X.K C)(n:lE X.K C f)(hl:fs.length<1000)(ry:RelV y u)(h:∀s',Inv X pins σ (upd H a (.ins C dx (jc f y fs))) s'->Q () s'):bV (model X.prog X.w) A (setAttr (.ref a) f u) Q E s:=by
 obtain ⟨mA,O,r,wi,_,ho⟩:=Pf I.bS e;have hz:(fs.map (·.1)).length<=cJ:=by rw[bt,eE];omega
 refine aj7 I.m8 O c.sa c.po n.ake c.hd wi hz fun h' O' sb=>h _ ?_;have hd:∃o,h'.get? dx=some o:=let ⟨o,_,_,e',_⟩:=O'.ns;⟨o,e'⟩
 refine I.write (x:=a) (e:=dx) (by rw[e];exact True.intro) (.inr ho) (fun b q hb z=>(sb.2 b hb).trans z) hd ?_;refine ⟨by rw[bC O.ne];exact ho,?_,O.ne,O'.obj,_,O'.ns,fun g=>?_,fun g hg=>?_⟩
 .have:=X4 f y fs;omega
 .show qc ((jc f y fs).lookup g) (if g=f then some u else mA g);rw[X3];by_cases q:g=f
  .rw[if_pos q,if_pos q];exact ry
  .rw[if_neg q,if_neg q];exact r g
 .by_cases q:g=f
  .rw[q];exact (Pe f y fs).1
  .refine (Pe f y fs).2 g (wi g fun z=>hg ?_);show (if g=f then some u else mA g)=none;rw[if_neg q];exact z
theorem Inv.made(I:Inv X pins σ H s):Inv X pins σ (upd (upd H s.heap.objs.size (.own (s.heap.objs.size+1))) (s.heap.objs.size+1) (.ins C s.heap.objs.size []))
  {s with heap:=(s.heap.push PySem.W.emptyDict).push (PySem.W.instObj C s.heap.objs.size)}:=by
 have e1:(s.heap.push PySem.W.emptyDict).get? s.heap.objs.size=some PySem.W.emptyDict:=lV s.heap rfl;have e2:((s.heap.push PySem.W.emptyDict).push (PySem.W.instObj C s.heap.objs.size)).get? (s.heap.objs.size+1)=some (PySem.W.instObj C s.heap.objs.size):=by
  have:=lV (s.heap.push PySem.W.emptyDict) (o:=PySem.W.instObj C s.heap.objs.size) rfl
  rwa [p7]at this
 have e3:(s.heap.push PySem.W.emptyDict).Ns s.heap.objs.size (fun _=>none):=⟨PySem.W.emptyDict,#[],_,e1,rfl,(fun e he=>absurd he (by simp)),fun _=>rfl⟩;have I1:=I.laid (a:=s.heap.objs.size) (o:=.own (s.heap.objs.size+1)) (h':=s.heap.push PySem.W.emptyDict) (t':=s.toks) (fun b u q=>gF _ q) (dR _) ⟨_,e1⟩;refine I1.laid (a:=s.heap.objs.size+1) (o:=.ins C s.heap.objs.size []) (t':=s.toks) (fun b u q=>gF _ q) (NV (p7 _ _)) ?_;have ne:s.heap.objs.size≠s.heap.objs.size+1:=kg (FT _);refine ⟨by rw[bC ne,aJ],dU _,ne,e2,fun _=>none,(Heap.Ns1.of_empty e3).at fun o q=>gF _ q,fun _=>True.intro,fun y hy=>absurd rfl hy⟩
theorem akg{prog:eS}{w:eJ}{env:Env}{e:Expr}{f:Str}{pos:Pos}{s:a9}{Q:aq->a9->Prop}(hb:attributeBase e f env (eval e env)=eval e env)(h:bV (model prog w) A (eval e env) (fun o gO=>bV (model prog w) A (getAttr o f true) Q E gO) E s):bV (model prog w) A (eval (.Attribute e f pos) env) Q E s:=
 Attribute_any_ h (by rw[arm_eval_Attribute,hb])
end
inductive X8(K:cB)(f:Str)(Q:VK)(H:Hp):V->Prop
 |mk {a C dx:Addr} {fs:List (Str×V)} {v:V} (h:H a=some (.ins C dx fs)) (c:qL K C) (n:lE K C f) (l:fs.lookup f=some v) (q:Q v H):X8 K f Q H (.ref a)
def Kq(K:cB)(ta:TE)(f:Str):TE:=fun σ H Q=>ta σ H fun x H1=>X8 K f Q H1 x
inductive X9(K:cB)(f:Str)(H:Hp)(x:V)(k:Addr->Addr->Addr->List (Str×V)->Prop):Prop
 |mk (a C dx:Addr) (fs:List (Str×V)) (e:x=.ref a) (h:H a=some (.ins C dx fs)) (c:qL K C) (n:lE K C f) (l:fs.length<1000) (q:k a C dx fs):X9 K f H x k
def akh(K:cB)(ta tv:TE)(f:Str):TS:=fun D σ H=>tv σ H fun y H1=>ta σ H1 fun x H2=>X9 K f H2 x fun a C dx fs=>D.nx σ (upd H2 a (.ins C dx (jc f y fs)))
def Ya(X:Cx)(op:Operator)(rd:V->V->Hp->VK->Prop):Prop:=
 ∀(pins:List (Addr×Obj))(s:a9)(σ:St)(H:Hp)(x y:V)(u v:aq)(Q:VK),Inv X pins σ H s->RelV x u->RelV y v->rd x y H Q->bV (model X.prog X.w) X.A (inplaceOp op u v) (EP X pins σ Q) X.xe s
def aki(K:cB)(ta tv:TE)(rd:V->V->Hp->VK->Prop)(f:Str):TS:=fun D σ H=>ta σ H fun x H1=>∃a C dx fs v,x=.ref a/\H1 a=some (.ins C dx fs)/\qL K C/\lE K C f/\fs.lookup f=some v/\
 tv σ H1 fun y H2=>rd v y H2 fun z H3=>∃B5 pC,H3 a=some (.ins C B5 pC)/\pC.length<1000/\D.nx σ (upd H3 a (.ins C B5 (jc f z pC)))
section
variable{X:Cx}{o e value:Expr}{f:Str}{pos pos' r9:Pos}{ta tv:TE}
theorem cO(he:PE X e ta)(hb:attributeBase e f X.env (eval e X.env)=eval e X.env):PE X (.Attribute e f pos) (Kq X.K ta f):=by
 intro pins s σ H Q I h;refine akg hb (dt (he pins s σ H _ I h) fun u s1 ⟨x,H1,I1,rx,h⟩=>?_);cases h with
 |mk ea c n l q=>
 obtain rfl:u=Value.ref _:=rx;exact X5 I1 ea c n l fun u' s2 I2 ru=>⟨_,H1,I2,ru,q⟩
theorem mT(ha:PE X o ta)(hv:PE X value tv)(hs:swapsWith value (some (.Attribute o f pos')) pos.line X.env=pure false):PS X (.Assign [.Attribute o f pos'] value pos) (akh X.K ta tv f):=by
 intro pins s σ H D I h;refine plainObj_wpAny_Assign_Attribute (dt (hv pins s σ H _ I h) fun u s1 ⟨y,H1,I1,ry,q⟩=>dt (ha pins s1 σ H1 _ I1 q) fun ov s2 ⟨x,H2,I2,rx,a,C,dx,fs,ex,ea,c,n,l,q2⟩=>?_) hs;subst ex;obtain rfl:ov=Value.ref a:=rx;exact X7 I2 ea c n l ry fun s3 I3=>⟨σ,_,I3,q2⟩
theorem Yb{op:Operator}{rd:V->V->Hp->VK->Prop}(ha:PE X o ta)(hv:PE X value tv)(hop:Ya X op rd):PS X (.AugAssign (.Attribute o f r9) op value pos) (aki X.K ta tv rd f):=by
 intro pins s σ H D I h;refine wpAny_AugAssign_AttributeAny (dt (ha pins s σ H _ I h) fun ov s1 ⟨x,H1,I1,rx,a,C,dx,fs,v,ex,ea,c,n,l,q⟩=>?_);subst ex;obtain rfl:ov=Value.ref a:=rx;refine X5 I1 ea c n l fun u s2 I2 ru=>dt (hv pins s2 σ H1 _ I2 q) fun w3 s3 ⟨y,H2,I3,ry,q3⟩=>dt (hop pins s3 σ H2 v y u w3 _ I3 ru ry q3) fun w4 s4 ⟨z,H3,I4,rz,B5,pC,ea',l',q4⟩=>?_;exact X7 I4 ea' c n l' rz fun s5 I5=>⟨σ,_,I5,q4⟩
def akl:V->V->Hp->VK->Prop:=fun x y H Q=>∃i j,x=.int i/\y=.int j/\Q (.int (i+j)) H
theorem Yc:Ya X .Add akl:=by
 rintro pins s σ H x y u v Q I rx ry ⟨i,j,rfl,rfl,q⟩;obtain ⟨t,rfl⟩:=(show ∃t,u=Value.int i t from rx);obtain ⟨t',rfl⟩:=(show ∃t',v=Value.int j t' from ry);exact PyProof.Rows.iadd_int ⟨.int (i+j),H,I.tok _,⟨_,rfl⟩,q⟩
end
section
variable{X:Cx}{pins:List (Addr×Obj)}{σ:St}{H:Hp}{s:a9}{A:gc}{E:aq->a9->Prop}{Q:aq->a9->Prop}{c:aq}{b:Bool}
end
structure dQ(k:Nat)(A:gc):Prop where
 hd:A.handled=none
 dp:A.depth+3*k+5<recursionLimit
 un:A.units+16*k+200<cLine
theorem dQ.mono{j k:Nat}{A:gc}(r:dQ k A)(h:j<=k):dQ j A:=⟨r.hd,by have:=r.dp;omega,by have:=r.un;omega⟩
theorem dQ.deeper{k:Nat}{A:gc}(r:dQ (k+1) A)(env:Env):dQ k (A.deeper env):=
 ⟨r.hd,by have:=r.dp;show A.depth+1+3*k+5<_;omega,by have:=r.un;show A.units+3+16*k+200<_;omega⟩
theorem dQ.in1{k:Nat}{A:gc}(r:dQ (k+1) A):dQ k A.in1:=
 ⟨r.hd,by have:=r.dp;show A.depth+3*k+5<_;omega,by have:=r.un;show A.units+1+16*k+200<_;omega⟩
theorem akm{A:gc}{C:Addr}{us:List aq}{kw:List (Str×aq)}:(A.under (.builtin "type.__call__" ⟨.ref C::us,kw⟩)).depth=A.depth+1:=by
 first|rfl|simp[Around.under,Code.weight,Code.isCreation,Code.isGuard,Code.isCaller,Code.frames,Code.isFrame,guardIds]
theorem akn{A:gc}{C:Addr}{us:List aq}{kw:List (Str×aq)}:(A.under (.builtin "type.__call__" ⟨.ref C::us,kw⟩)).units=A.units+1:=by
 first|rfl|simp[Around.under,Code.cUnits,Code.frames,Code.isFrame]
theorem dQ.make{k:Nat}{A:gc}(r:dQ (k+1) A)(C:Addr)(us:List aq)(kw:List (Str×aq)):dQ k (A.under (.builtin "type.__call__" ⟨.ref C::us,kw⟩)):=
 ⟨r.hd,by have:=r.dp;rw[akm];omega,by have:=r.un;rw[akn];omega⟩
theorem dQ.depth{k:Nat}{A:gc}(r:dQ k A):A.depth<recursionLimit:=by have:=r.dp;omega
theorem dQ.units{k:Nat}{A:gc}(r:dQ k A):A.units+64<cLine:=by have:=r.un;omega
theorem dQ.ako{k:Nat}{A:gc}(r:dQ k A):A.units<cLine:=by have:=r.un;omega
def As:TA:=fun _ H Q=>Q [] H
def GB(ta:TE)(tr:TA):TA:=fun σ H Q=>ta σ H fun x H1=>tr σ H1 fun xs H2=>Q (x::xs) H2
section
variable{X:Cx}{e:Expr}{es:List Expr}{te:TE}{t:TA}{pos:Pos}
theorem aO:PA X [] As:=fun _ _ _ _ H Q I h=>agT ⟨[],H,I,.nil,h⟩
theorem ax(ha:PE X e te)(hr:PA X es t)(hs:iP (e::es) X.env=(false,eval e X.env)::iP es X.env:=by rfl):PA X (e::es) (GB te t):=by
 intro pos pins s σ H Q I h;rw[hs];show bV _ _ (spliced ((false,eval e X.env)::backTo pos (iP es X.env))) _ _ s;refine VO (dt (ha pins s σ H _ I h) fun u s1 ⟨x,H1,I1,r1,q1⟩=>?_);exact dt (hr pos pins s1 σ H1 _ I1 q1) fun us s2 ⟨xs,H2,I2,r2,q2⟩=>⟨x::xs,H2,I2,.cons r1 r2,q2⟩
def akp(t:TA):TE:=fun σ H Q=>t σ H fun xs H1=>xs.length<=cJ/\∀p,H1 p=none->Q (.ref p) (upd H1 p (.tup xs))
def akq(t:TA):TE:=fun σ H Q=>t σ H fun xs H1=>xs.length<=cJ/\∀p,H1 p=none->Q (.ref p) (upd H1 p (.lst xs))
theorem B6{x1}(h:PA X es t):PE X (.Tuple es x1 pos) (akp t):=by
 intro pins s σ H Q I hq;refine wpAny_Tuple_spliced (dt (h pos pins s σ H _ I hq) fun us s1 ⟨xs,H1,I1,r,z,q⟩=>⟨by rw[<-r.length];exact z,?_⟩);have hf:H1 s1.heap.objs.size=none:=I1.bS.fresh (dR _);refine ⟨.ref s1.heap.objs.size,upd H1 s1.heap.objs.size (.tup xs),I1.laid (t':=s1.toks) (fun b u e=>gF _ e) (dR _) ?_,rfl,q _ hf⟩;exact ⟨z,us,r,⟨_,lV _ rfl,rfl,_,rfl⟩⟩
theorem dG(h:PA X es t):PE X (.List es pos) (akq t):=by
 intro pins s σ H Q I hq;refine wpAny_List_spliced (dt (h pos pins s σ H _ I hq) fun us s1 ⟨xs,H1,I1,r,z,q⟩=>⟨by rw[<-r.length];exact z,?_⟩);have hf:H1 s1.heap.objs.size=none:=I1.bS.fresh (dR _);refine ⟨.ref s1.heap.objs.size,upd H1 s1.heap.objs.size (.lst xs),I1.laid (t':=s1.toks) (fun b u e=>gF _ e) (dR _) ?_,rfl,q _ hf⟩;exact ⟨z,us,0,r,lV _ rfl⟩
end
abbrev Sp:=List V->Hp->VK->XK->Prop
abbrev o7:=List Env->Hp->a9->XK->aq->a9->Prop
structure xC(P:eS)(w:eJ)(K:cB)(mg:Str->Option aq)(base:Heap)(A:gc)(outer:List Env)(s:a9)(H:Hp):Prop where
 frames:A.frames=some outer
 mod:Mod K mg base
 bs:∀b o,base.get? b=some o->s.heap.get? b=some o/\H b=none
 um:base.objs.size<=s.heap.objs.size
 r6:s.heap.FunFrames base outer
 xp:∀b∈kh outer,H b=none
 bS:iS P w H s.heap
 bare:AllBare s.gens
def CE(outer:List Env)(P:eS)(w:eJ)(H:Hp)(s:a9)(Q:VK)(u:aq)(s':a9):Prop:=
 ∃v H',s'.os=s.os/\AllBare s'.gens/\Un (kh outer) [] H H' s.heap s'.heap/\iS P w H' s'.heap/\RelV v u/\Q v H'
def CR(CX:o7)(outer:List Env)(P:eS)(w:eJ)(H:Hp)(s:a9)(Q:VK)(E:XK)(r:Result)(s':a9):Prop:=
 match r with
 | .ok (.ret u)=>CE outer P w H s Q u s'
 | .ok _=>False
 | .error e=>CX outer H s E e s'
structure c8(P:eS)(w:eJ)(K:cB)(mg:Str->Option aq)(base:Heap)(CX:o7)(k:Nat)(f:Addr)(fd:dn)(ps:List Str)(sp:Sp):Prop where
 len:∀vs H Q E,sp vs H Q E->vs.length=ps.length
 run:∀(A:gc)(outer:List Env)(s:a9)(H:Hp)(args:Args)(us:List aq)(vs:List V)(Q:VK)(E:XK),dQ k A->xC P w K mg base A outer s H->BindsTo s fd args (ps.zip us)->Vals vs us->sp vs H Q E->
  codeAny (model P w) A (.call (.ref f) args) (CR CX outer P w H s Q E) s
theorem c8.mono{P:eS}{w:eJ}{K:cB}{mg:Str->Option aq}{base:Heap}{CX:o7}{j k:Nat}{f:Addr}{fd:dn}{ps:List Str}{sp:Sp}(F:c8 P w K mg base CX j f fd ps sp)(h:j<=k):
  c8 P w K mg base CX k f fd ps sp:=⟨F.len,fun A outer s H args us vs Q E hr=>F.run A outer s H args us vs Q E (hr.mono h)⟩
theorem c8.imp{P:eS}{w:eJ}{K:cB}{mg:Str->Option aq}{base:Heap}{CX:o7}{k:Nat}{f:Addr}{fd:dn}{ps:List Str}{sp Ye:Sp}(F:c8 P w K mg base CX k f fd ps sp)(h:∀vs H Q E,Ye vs H Q E->sp vs H Q E):c8 P w K mg base CX k f fd ps Ye:=
 ⟨fun vs H Q E q=>F.len vs H Q E (h _ _ _ _ q),fun A outer s H args us vs Q E hr he hb hv hs=>F.run A outer s H args us vs Q E hr he hb hv (h _ _ _ _ hs)⟩
theorem xC.make{P:eS}{w:eJ}{K:cB}{mg:Str->Option aq}{base:Heap}{A:gc}{outer:List Env}{s:a9}{H:Hp}(e:xC P w K mg base A outer s H)(C:Addr)(us:List aq)(kw:List (Str×aq)):
  xC P w K mg base (A.under (.builtin "type.__call__" ⟨.ref C::us,kw⟩)) outer s H:=⟨by first|exact e.frames|(simpa[Around.under,Code.envs,Code.isFrame,pushEnvs]using e.frames),e.mod,e.bs,e.um,e.r6,e.xp,e.bS,e.bare⟩
theorem xC.in1{P:eS}{w:eJ}{K:cB}{mg:Str->Option aq}{base:Heap}{A:gc}{outer:List Env}{s:a9}{H:Hp}(e:xC P w K mg base A outer s H):
  xC P w K mg base A.in1 outer s H:=⟨e.frames,e.mod,e.bs,e.um,e.r6,e.xp,e.bS,e.bare⟩
section
variable{X:Cx}{pins:List (Addr×Obj)}{σ:St}{H:Hp}{s s':a9}
theorem Inv.Kr(I:Inv X pins σ H s):xC X.prog X.w X.K X.mg X.base X.A X.stack s H:=
 ⟨I.ok.frames,I.ok.mod,I.bs,gN I.ok.um I.sz,I.stack,I.Gh,I.bS,I.bare⟩
theorem Inv.after{Q:VK}{u:aq}(I:Inv X pins σ H s)(h:CE X.stack X.prog X.w H s Q u s'):EP X pins σ Q u s':=by
 obtain ⟨v,H',os,bare,un,bS,r,q⟩:=h;obtain ⟨hh,g,d,t,B7⟩:=s';obtain rfl:B7=s.os:=os;exact ⟨v,H',I.call (h':=hh) (g':=g) (d':=d) (t':=t) (ch:=[]) un bS bare (fun b z=>absurd z (by simp)),r,q⟩
end
def Pj(sp:Sp)(mU:List V)(E:XK)(t:TA):TE:=fun σ H Q=>t σ H fun vs H1=>sp (vs++mU) H1 Q E
inductive Yf(C:Addr)(m:Str)(H:Hp)(x:V)(k:Prop):Prop
 |mk (a dx:Addr) (fs:List (Str×V)) (e:x=.ref a) (h:H a=some (.ins C dx fs)) (l:fs.lookup m=none) (q:k):Yf C m H x k
def Yg(C:Addr)(m:Str)(sp:Sp)(mU:List V)(E:XK)(ta:TE)(t:TA):TE:=fun σ H Q=>ta σ H fun x H1=>Yf C m H1 x (t σ H1 fun vs H2=>sp (x::(vs++mU)) H2 Q E)
def Yh(C:Addr)(sp:Sp)(mU:List V)(E:XK)(t:TA):TE:=fun σ H Q=>t σ H fun vs H1=>∀x dx,H1 x=none->H1 dx=none->dx≠x->
 sp (.ref x::(vs++mU)) (upd (upd H1 dx (.own x)) x (.ins C dx [])) (fun v H2=>v=.eM/\Q (.ref x) H2) E
def Binds(K:cB)(fd:dn)(ps:List Str)(ds:List aq):Prop:=
 ∀(s:a9)(us:List aq),K.In s.heap->(us++ds).length=ps.length->BindsTo s fd ⟨us,[]⟩ (ps.zip (us++ds))
theorem Binds.all{K:cB}{fd:dn}{ps:List Str}(h:∀us:List aq,us.length=ps.length->bindArgs fd ⟨us,[]⟩=pure (ps.zip us)):Binds K fd ps []:=fun s us _ hl=>by
 rw[nZ]at hl ⊢;exact .of_eq (h us hl)
def Passes(CX:o7)(X:Cx)(E:XK):Prop:=∀(pins:List (Addr×Obj))(σ:St)(H:Hp)(s:a9)(e:aq)(s':a9),Inv X pins σ H s->CX X.stack H s E e s'->X.xe e s'
section
variable{X:Cx}{CX:o7}{k:Nat}{f C:Addr}{fd:dn}{ps:List Str}{sp:Sp}{mU:List V}{ds:List aq}{E:XK}{x m:Str}{p pos apos:Pos}{e o:Expr}{es:List Expr}{ta:TE}{t:TA}
theorem GC{pins:List (Addr×Obj)}{σ:St}{H:Hp}{s:a9}{Q:VK}{us:List aq}{vs:List V}(F:c8 X.prog X.w X.K X.mg X.base CX k f fd ps sp)(hr:dQ k X.A)(hb:Binds X.K fd ps ds)(hd:Vals mU ds)(hx:Passes CX X E)(I:Inv X pins σ H s)(r:Vals vs us)(h:sp (vs++mU) H Q E):bV (model X.prog X.w) X.A (call (.ref f) us) (EP X pins σ Q) X.xe s:=by
 have r2:Vals (vs++mU) (us++ds):=r.append hd;have hl:(us++ds).length=ps.length:=by rw[<-r2.length];exact F.len _ _ _ _ h
 refine NW (Dx (F.run X.A X.stack s H ⟨us,[]⟩ (us++ds) (vs++mU) Q E hr I.Kr (hb s us I.m8 hl) r2 h) fun r s' hq=>?_);cases r with
 |error e=>exact hx pins σ H s e s' I hq
 |ok fl=>
  cases fl with
  |ret u=>exact I.after hq
  |next=>exact False.elim hq
  |brk=>exact False.elim hq
  |cont=>exact False.elim hq
theorem eB(F:c8 X.prog X.w X.K X.mg X.base CX k f fd ps sp)(hr:dQ k X.A)(hg:Gl X x)(hm:X.mg x=some (.ref f))(hk:pZ X.K (.ref f)=true)(hb:Binds X.K fd ps ds)(hd:Vals mU ds)(hx:Passes CX X E)(ha:PA X (e::es) t)(qM:(x==("__debug__":Str))=false:=by decide)(he:iP (e::es) X.env=(false,eval e X.env)::iP es X.env:=by rfl)(l6:(backTo pos (iP es X.env)).any (·.1)=false:=by rfl):
  PE X (.Call (.Name x p) (e::es) [] pos) (Pj sp mU E t):=by
 intro pins s σ H Q I h;refine zR (yC I hg hm ?_ qM);refine Jx (h₀:=X.base) I.ok.mod.BQ hk (dt (ha pos pins s σ H _ I h) fun us s1 ⟨vs,H1,I1,r,q⟩=>⟨I1.m8,?_⟩) he l6;exact GC F hr hb hd hx I1 r q
theorem akr(F:c8 X.prog X.w X.K X.mg X.base CX k f fd ps sp)(hr:dQ k X.A)(hg:Gl X x)(hm:X.mg x=some (.ref f))(hk:pZ X.K (.ref f)=true)(hb:Binds X.K fd ps ds)(hd:Vals mU ds)(hx:Passes CX X E)(qM:(x==("__debug__":Str))=false:=by decide):PE X (.Call (.Name x p) [] [] pos) (Pj sp mU E As):=by
 intro pins s σ H Q I h;refine zR (yC I hg hm ?_ qM);exact VP I.m8 hk (GC (us:=[]) F hr hb hd hx I .nil h)
theorem uw{pl:Sem Bool}(he:PE X o ta)(c:qL X.K C)(hm:Meth X.K C m f)(F:c8 X.prog X.w X.K X.mg X.base CX k f fd ps sp)(hr:dQ k X.A)(hb:Binds X.K fd ps ds)(hd:Vals mU ds)(hx:Passes CX X E)(ha:PA X (e::es) t)(oC:iP (e::es) X.env=(false,eval e X.env)::iP es X.env:=by rfl)(l6:(backTo pos (iP es X.env)).any (·.1)=false:=by rfl)(ht:eval (.Call (.Attribute o m apos) (e::es) [] pos) X.env=(do
   let ov <-eval o X.env
   standAt apos.atName
   let (f,first) <-holding [ov] (getMethod ov m pl)
   callWith pos f first (backTo pos (iP (e::es) X.env)) (backToKw pos (keywordEach [] X.env))):=by rfl):
  PE X (.Call (.Attribute o m apos) (e::es) [] pos) (Yg C m sp mU E ta t):=by
 intro pins s σ H Q I h;refine agU (pl:=pl) (dt (he pins s σ H _ I h) fun u s1 ⟨x,H1,I1,rx,a,dx,fs,ex,ea,l,q⟩=>?_) ht;subst ex;obtain rfl:u=Value.ref a:=rx;refine X6 I1 ea c hm l ?_;refine Jx (first:=[.ref a]) (h₀:=X.base) I.ok.mod.BQ hm.kp (dt (ha pos pins s1 σ H1 _ I1 q) fun us s2 ⟨vs,H2,I2,r,q2⟩=>⟨I2.m8,?_⟩) oC l6;exact GC (us:=.ref a::us) (vs:=.ref a::vs) F hr hb hd hx I2 (.cons rfl r) q2
theorem B8{pl:Sem Bool}(he:PE X o ta)(c:qL X.K C)(hm:Meth X.K C m f)(F:c8 X.prog X.w X.K X.mg X.base CX k f fd ps sp)(hr:dQ k X.A)(hb:Binds X.K fd ps ds)(hd:Vals mU ds)(hx:Passes CX X E)(ht:eval (.Call (.Attribute o m apos) [] [] pos) X.env=(do
   let ov <-eval o X.env
   standAt apos.atName
   let (f,first) <-holding [ov] (getMethod ov m pl)
   callWith pos f first (backTo pos (iP [] X.env)) (backToKw pos (keywordEach [] X.env))):=by rfl):
  PE X (.Call (.Attribute o m apos) [] [] pos) (Yg C m sp mU E ta As):=by
 intro pins s σ H Q I h;refine agU (pl:=pl) (dt (he pins s σ H _ I h) fun u s1 ⟨x,H1,I1,rx,a,dx,fs,ex,ea,l,q⟩=>?_) ht;subst ex;obtain rfl:u=Value.ref a:=rx;refine X6 I1 ea c hm l ?_;exact VP (first:=[.ref a]) I1.m8 hm.kp (GC (us:=[.ref a]) (vs:=[.ref a]) F hr hb hd hx I1 (.cons rfl .nil) q)
structure Mk(K:cB)(C f:Addr):Prop where
 makes:PySem.W.makesIn K C=true
 init:uU K (.ref C) "__init__"=some (some (.ref f))
 fn:PySem.W.isFn K (.ref f)=true
 kp:pZ K (.ref C)=true
theorem Yi{pins:List (Addr×Obj)}{σ:St}{H:Hp}{s:a9}{Q:VK}{us:List aq}{vs:List V}(M:Mk X.K C f)(F:c8 X.prog X.w X.K X.mg X.base CX k f fd ps sp)(hr:dQ (k+1) X.A)(hb:Binds X.K fd ps ds)(hd:Vals mU ds)(hx:Passes CX X E)(I:Inv X pins σ H s)(r:Vals vs us)(h:∀x dx,H x=none->H dx=none->dx≠x->sp (.ref x::(vs++mU)) (upd (upd H dx (.own x)) x (.ins C dx [])) (fun v H2=>v=.eM/\Q (.ref x) H2) E):
  bV (model X.prog X.w) X.A (call (.ref C) us) (EP X pins σ Q) X.xe s:=by
 have hq:=h (s.heap.objs.size+1) s.heap.objs.size (I.bS.fresh (agV _)) (I.bS.fresh (dR _)) (kg (FT _));have I2:=Inv.made (C:=C) I;have r2:Vals (V.ref (s.heap.objs.size+1)::(vs++mU)) (Value.ref (s.heap.objs.size+1)::(us++ds)):=.cons rfl (r.append hd);have hl:(Value.ref (s.heap.objs.size+1)::us++ds).length=ps.length:=by
  have e:=r2.length;rw[F.len _ _ _ _ hq]at e;exact e.symm
 refine NW (akb (f:=f) I.m8 M.makes M.init (beq_iff_eq.mp M.fn) (Dx (F.run _ X.stack _ _ ⟨Value.ref (s.heap.objs.size+1)::us,[]⟩ (Value.ref (s.heap.objs.size+1)::(us++ds)) _ _ E (hr.make C us [])
  (I2.Kr.make C us []) (hb _ (Value.ref (s.heap.objs.size+1)::us) I2.m8 hl) r2 hq) fun r s' tH=>?_))
 cases r with
 |error e=>exact hx pins σ _ _ e s' I2 tH
 |ok fl=>
  cases fl with
  |ret u=>
   obtain ⟨v,H',I3,rv,ev,q3⟩:=I2.after tH;subst ev;exact ⟨rv,⟨V.ref (s.heap.objs.size+1),H',I3,rfl,q3⟩⟩
  |next=>exact False.elim tH
  |brk=>exact False.elim tH
  |cont=>exact False.elim tH
theorem yG(M:Mk X.K C f)(F:c8 X.prog X.w X.K X.mg X.base CX k f fd ps sp)(hr:dQ (k+1) X.A)(hg:Gl X x)(hm:X.mg x=some (.ref C))(hb:Binds X.K fd ps ds)(hd:Vals mU ds)(hx:Passes CX X E)(ha:PA X (e::es) t)(qM:(x==("__debug__":Str))=false:=by decide)(he:iP (e::es) X.env=(false,eval e X.env)::iP es X.env:=by rfl)(l6:(backTo pos (iP es X.env)).any (·.1)=false:=by rfl):
  PE X (.Call (.Name x p) (e::es) [] pos) (Yh C sp mU E t):=by
 intro pins s σ H Q I h;refine zR (yC I hg hm ?_ qM);refine Jx (h₀:=X.base) I.ok.mod.BQ M.kp (dt (ha pos pins s σ H _ I h) fun us s1 ⟨vs,H1,I1,r,q⟩=>⟨I1.m8,?_⟩) he l6;exact Yi M F hr hb hd hx I1 r q
theorem aks(M:Mk X.K C f)(F:c8 X.prog X.w X.K X.mg X.base CX k f fd ps sp)(hr:dQ (k+1) X.A)(hg:Gl X x)(hm:X.mg x=some (.ref C))(hb:Binds X.K fd ps ds)(hd:Vals mU ds)(hx:Passes CX X E)(qM:(x==("__debug__":Str))=false:=by decide):PE X (.Call (.Name x p) [] [] pos) (Yh C sp mU E As):=by
 intro pins s σ H Q I h;refine zR (yC I hg hm ?_ qM);exact VP I.m8 M.kp (Yi (us:=[]) M F hr hb hd hx I .nil h)
end
section
variable{X:Cx}{CX:o7}{k:Nat}{f C:Addr}{fd:dn}{ps ks:List Str}{sp:Sp}{E:XK}{x m:Str}{p pos apos Ks:Pos}{e o:Expr}{es:List Expr}{kws:List Keyword}{te ta:TE}{t tk:TA}{nm:Option Str}
variable{g:List aq->List aq->List aq}{gV:List V->List V->List V}
end
structure fA(N P:List Str)(sc:jP):Prop where
 kind:sc.kind=.function
 co:sc.isCoroutine=false
 gen:sc.isGenerator=false
 nd:N.Nodup
 pre:N.take P.length=P
 par:∀x∈P,sc.names.lookup x=some .local∨sc.names.lookup x=some .cell
 akt:∀y∈sc.names,y.2≠.free
theorem Yj{kindOf:Str->Option rV}{x:Str}:∀{binds:List (Str×aq)}{m:Str->Option aq},(∀v,(x,v)∉binds)->bindL kindOf binds m x=m x
 | [],_,_=>rfl
 | (n,v)::r,m,h=>by
  unfold bindL;rw[Yj fun w hw=>h w (lU _ hw)]
  split
  .have:x≠n:=by rintro rfl;exact h v m4
   simp[this]
  .rfl
theorem Yk{kindOf:Str->Option rV}{x:Str}:∀{binds:List (Str×aq)}{m:Str->Option aq},(∀v,(x,v)∉binds)->bindC kindOf binds m x=m x
 | [],_,_=>rfl
 | (n,v)::r,m,h=>by
  unfold bindC;rw[Yk fun w hw=>h w (lU _ hw)]
  split
  .rfl
  .have:x≠n:=by rintro rfl;exact h v m4
   simp[this]
theorem Yl{kindOf:Str->Option rV}{x:Str}{v:aq}:∀{P:List Str}{vs:List aq}{i:Nat}{m:Str->Option aq},P.Nodup->P[i]? =some x->vs[i]? =some v->kindOf x=some .local->
  bindL kindOf (P.zip vs) m x=some v
 | [],_,_,_,_,h,_,_=>by simp at h
 |_::_,[],_,_,_,_,h,_=>by simp at h
 |p::P,w::vs,0,m,nd,U,h2,hk=>by
  simp at U h2;subst U;subst h2;show bindL kindOf ((p,w)::P.zip vs) m p=_;unfold bindL;rw[Yj fun v hv=>(t8.mp nd).1 (VQ hv).1,if_pos hk];simp
 |p::P,w::vs,i+1,m,nd,U,h2,hk=>by
  show bindL kindOf ((p,w)::P.zip vs) m x=_;unfold bindL;exact Yl (i:=i) (t8.mp nd).2 (by simpa using U) (by simpa using h2) hk
theorem Ym{kindOf:Str->Option rV}{x:Str}{v:aq}:∀{P:List Str}{vs:List aq}{i:Nat}{m:Str->Option aq},P.Nodup->P[i]? =some x->vs[i]? =some v->kindOf x≠some .local->
  bindC kindOf (P.zip vs) m x=some v
 | [],_,_,_,_,h,_,_=>by simp at h
 |_::_,[],_,_,_,_,h,_=>by simp at h
 |p::P,w::vs,0,m,nd,U,h2,hk=>by
  simp at U h2;subst U;subst h2;show bindC kindOf ((p,w)::P.zip vs) m p=_;unfold bindC;rw[Yk fun v hv=>(t8.mp nd).1 (VQ hv).1,if_neg hk];simp
 |p::P,w::vs,i+1,m,nd,U,h2,hk=>by
  show bindC kindOf ((p,w)::P.zip vs) m x=_;unfold bindC;exact Ym (i:=i) (t8.mp nd).2 (by simpa using U) (by simpa using h2) hk
def start(N:List Str)(vs:List V):St:=vs.map some++oV (N.length-vs.length) none
def we(CX:o7)(P:eS)(w:eJ)(K:cB)(mg:Str->Option aq)(base:Heap)(N:List Str)(qual:Str)(scope:jP)(f:Addr)(cd:aq)(A:gc)(outer:List Env)(s:a9)(H:Hp)(E:XK):Cx where
 prog:=P
 w:=w
 K:=K
 mg:=mg
 base:=base
 A:=A.deeper (envOfC qual scope s.heap.objs.size f cd)
 N:=N
 kG:=s
 vS:=H
 env:=envOfC qual scope s.heap.objs.size f cd
 outer:=outer
 stack:=envOfC qual scope s.heap.objs.size f cd::outer
 ex:=[]
 calm:=true
 fn:=fun _=>true
 pn:=[]
 xe:=fun e s'=>bV (model P w) (A.deeper (envOfC qual scope s.heap.objs.size f cd)) (leaving (envOfC qual scope s.heap.objs.size f cd) e) (fun _ B9=>CX outer H s E e B9) (fun e' B9=>CX outer H s E e' B9) s'
theorem Yn{sc:jP}{n:Nat}{x:Str}(h:sc.names.lookup x=some .cell):∃c,(cellsFrom n sc.names []).lookup x=some c:=by
 have q:=agW sc.names n [] (.inl h);exact agX.mp q
theorem aku{CX:o7}{P:eS}{w:eJ}{K:cB}{mg:Str->Option aq}{base:Heap}{N ps:List Str}{qual:Str}{scope:jP}{f:Addr}{cd:aq}{A:gc}{outer:List Env}{s s1:a9}{H:Hp}{E:XK}{us:List aq}{vs:List V}(S:fA N ps scope)(hd:A.handled=none)(e0:xC P w K mg base A outer s H)(hl:vs.length=ps.length)(r:Vals vs us)(x:InCallC s s.heap.objs.size (bindL (envOfC qual scope s.heap.objs.size f cd).kindOf (ps.zip us) fun _=>none) (cellsFrom (s.heap.objs.size+1) scope.names []) (bindC (envOfC qual scope s.heap.objs.size f cd).kindOf (ps.zip us) fun _=>none) s1):
  Inv (we CX P w K mg base N qual scope f cd A outer s H E) [] (start N vs) H s1:=by
 have l6:ps.length<=N.length:=by have:=congrArg List.length S.pre;rw[mB]at this;omega
 obtain ⟨U,tk,rfl,hk⟩:=x.done;have wg:∀b:Addr,b∉(we CX P w K mg base N qual scope f cd A outer s H E).ex:=fun b z=>absurd (show b∈([]:List Addr) from z) (by simp);refine ⟨⟨e0.mod,S.kind,rfl,rfl,dR _,fun y z c U h2=>?_,fun y hy=>?_,fun y c _ h=>?_,fun _=>hd,agY e0.frames,.inr ⟨rfl,rfl⟩,fun b z=>absurd z (wg b),e0.bs,e0.um,fun b _ _=>wg b,fun b z=>absurd z (wg b),e0.r6,e0.xp⟩,
  rfl,e0.bare,Un.kept hk,⟨_,x.toInCall.ns,fun i y v U h2 h3=>?_⟩,fun y c h=>⟨_,x.cell y c h⟩,e0.bS.fresh (dR _),fun y c h=>?_,fun p hp=>absurd (show p∈([]:List (Addr×Obj)) from hp) (by simp),e0.bS.kept hk,?_⟩
 .exact name_of_addr x.apart (oW U) (oW h2)
 .have hy:scope.names.lookup y=some .cell∨scope.names.lookup y=some .free:=hy;rcases hy with hy|hy
  .exact Yn hy
  .exact absurd rfl (S.akt _ (oW hy))
 .exact Du (x.above y c (oW h))
 .have hi:i<vs.length:=by
   unfold start at h2;by_cases hi:i<vs.length
   .exact hi
   .rw[NQ (by simpa using hi)]at h2;rw[VI]at h2
    split at h2<;>cases h2
  have ha:vs[i]? =some v:=by
   unfold start at h2;rw[By (by simpa using hi),gp]at h2;cases e:vs[i]? with
   |none=>rw[e]at h2;cases h2
   |some a=>rw[e]at h2;cases h2;rfl
  obtain ⟨u,hu,rv⟩:=r.get ha;have hp:ps[i]? =some y:=by
   rw[<-S.pre,List.getElem?_take_of_lt (by omega)];exact U
  have Yo:ps.Nodup:=by rw[<-S.pre];exact S.nd.sublist (NX _ _)
  refine ⟨u,rv,?_⟩;rcases S.par y (iy hp) with k|k
  .exact .inl ⟨k,Yl Yo hp hu k⟩
  .obtain ⟨c,e⟩:=Yn (n:=s.heap.objs.size+1) k;refine .inr ⟨.inl k,c,e,?_⟩;have q:=x.cell y c e;rw[Ym Yo hp hu (by show scope.names.lookup y≠_;rw[k];decide)]at q;exact q
 .exact e0.bS.fresh (Du (x.above y c (oW h)))
 .unfold start;show _=N.length;rw[gR,bt,agZ];omega
theorem Pk{CX:o7}{P:eS}{w:eJ}{K:cB}{mg:Str->Option aq}{base:Heap}{k:Nat}{f:Addr}{name qual:Str}{params:Arguments}{body:List Stmt}{scope:jP}{dV kV doc pm c6 ct oc:aq}{an od:Option Addr}{oi:Array (Option aq)}{N ps:List Str}{sp:Sp}(lk:K.lookup f=some ⟨oc,od,.func (ua name qual params body scope dV kV doc pm an c6 ct),oi⟩)(qJ:PySem.W.codeIn K c6 qual=true)(S:fA N ps scope)(len:∀vs H Q E,sp vs H Q E->vs.length=ps.length)(sd:∀(A:gc) (outer:List Env) (s:a9) (H:Hp) (vs:List V) (Q:VK) (E:XK),dQ k (A.deeper (envOfC qual scope s.heap.objs.size f c6))->sp vs H Q E->
   ∃t,rC (we CX P w K mg base N qual scope f c6 A outer s H E) body t/\t {nx:=fun _ H'=>Q .eM H',rt:=Q} (start N vs) H):
  c8 P w K mg base CX (k+1) f (ua name qual params body scope dV kV doc pm an c6 ct) ps sp:=by
 refine ⟨len,fun A outer s H args us vs Q E hr e0 hb r vd=>?_⟩;have hl:=len _ _ _ _ vd;have KX:K.In s.heap:=e0.mod.BQ.keeps fun b o e=>(e0.bs b o e).1;have lim:s.heap.NoLimit:=e0.mod.nolimit.keeps fun b o e=>(e0.bs b o e).1;have akv:∀y∈ps.zip us,scope.names.lookup y.1=some .local∨(scope.names.lookup y.1=some .cell/\((cellsFrom (s.heap.objs.size+1) scope.names []).lookup y.1).isSome=true):=fun ⟨n,v⟩ hy=>by
  rcases S.par n (VQ hy).1 with q|q
  .exact .inl q
  .exact .inr ⟨q,agW _ _ _ (.inl q)⟩
 refine codeAny_call_function hr.depth (KX _ _ lk) rfl S.co S.gen rfl (PySem.W.codeRec_of KX qJ) (hb _ _ _ _ ?_);refine wpAny_newFunctionEnv_cells S.kind akv fun env he s1 x=>?_;subst he;refine ⟨lim.keeps x.toInCall.keep,codeAny_func ?_⟩;obtain ⟨t,ht,hq⟩:=sd A outer s H vs Q E (hr.deeper _) vd;have I:Inv (we CX P w K mg base N qual scope f c6 A outer s H E) [] (start N vs) H s1:=aku S hr.hd e0 hl r x;refine ou (ht [] s1 (start N vs) H _ I hq) (fun fl s' hs=>?_) fun e s' hs=>hs;have fin:∀{cV:St}{H':Hp}{v:V}{u:aq},Inv (we CX P w K mg base N qual scope f c6 A outer s H E) [] cV H' s'->RelV v u->Q v H'->CE outer P w H s Q u s':=
  fun {cV H' v u} J rv q=>⟨v,H',J.os,J.bare,J.base,J.bS,rv,q⟩
 cases fl with
 |ret u=>
  obtain ⟨v,cV,H',J,rv,q⟩:=hs;exact fin J rv q
 |next=>
  obtain ⟨cV,H',J,q⟩:=hs;exact fin (v:=V.eM) (u:=Value.none) J rfl q
 |brk=>
  obtain ⟨_,_,_,q⟩:=hs;exact False.elim q
 |cont=>
  obtain ⟨_,_,_,q⟩:=hs;exact False.elim q
section
variable{X:Cx}{x:Str}{p pos:Pos}{e:Expr}{es:List Expr}{t:TA}{id T:String}{r:List V->Hp->VK->Prop}
def Yp(r:List V->Hp->VK->Prop)(t:TA):TE:=fun σ H Q=>t σ H fun vs H1=>r vs H1 Q
theorem jR(hc:Ap X (.builtin id) r)(hg:Gl X x)(hm:X.mg x=none)(hv:bootBuiltins x=some (.builtin id))(ha:PA X (e::es) t)(hn:x≠"__name__":=by decide)(qM:(x==("__debug__":Str))=false:=by decide)(he:iP (e::es) X.env=(false,eval e X.env)::iP es X.env:=by rfl)(l6:(backTo pos (iP es X.env)).any (·.1)=false:=by rfl):PE X (.Call (.Name x p) (e::es) [] pos) (Yp r t):=by
 intro pins s σ H Q I h;refine zR (BX I hg hm hv ?_ hn qM);exact PyProof.Rows.callWith_builtin1 (dt (ha pos pins s σ H _ I h) fun us s1 ⟨vs,H1,I1,r1,q1⟩=>hc pins s1 σ H1 vs us Q I1 r1 q1) he l6
theorem Yq(hc:Ap X (.type T) r)(hg:Gl X x)(hm:X.mg x=none)(hv:bootBuiltins x=some (.type T))(ha:PA X (e::es) t)(hn:x≠"__name__":=by decide)(qM:(x==("__debug__":Str))=false:=by decide)(he:iP (e::es) X.env=(false,eval e X.env)::iP es X.env:=by rfl)(l6:(backTo pos (iP es X.env)).any (·.1)=false:=by rfl):PE X (.Call (.Name x p) (e::es) [] pos) (Yp r t):=by
 intro pins s σ H Q I h;refine zR (BX I hg hm hv ?_ hn qM);exact NU (dt (ha pos pins s σ H _ I h) fun us s1 ⟨vs,H1,I1,r1,q1⟩=>hc pins s1 σ H1 vs us Q I1 r1 q1) he l6
end
end L2
namespace HT
def lexLt:List Int->List Int->Bool
 | [],[]=>false
 | [],_::_=>true
 |_::_,[]=>false
 |x::xs,y::ys=>if x=y then lexLt xs ys else decide (x<y)
theorem Eb(x y:Int)(xs ys:List Int):lexLt (x::xs) (y::ys)=if x=y then lexLt xs ys else decide (x<y):=rfl
theorem akw:lexLt [] []=false:=rfl
theorem akx(y:Int)(ys:List Int):lexLt [] (y::ys)=true:=rfl
theorem aky(x:Int)(xs:List Int):lexLt (x::xs) []=false:=rfl
theorem akz(A:gc)(s:a9)(a:Int)(t:Tok)(c:Int)(u:Tok):∃e,SeqAt.EqAt A s (.int a t) (.int c u) e/\(e=true↔a=c):=
 ⟨(a==c),ag0 a t c u,by simp⟩
theorem akA(A:gc)(s:a9)(a:Int)(t:Tok)(c:Int)(u:Tok)(prog:eS)(w:eJ)(E:aq->a9->Prop)(Q:aq->a9->Prop)(h:Q (.bool (decide (a<c))) s):
  bV (model prog w) A (richCompare .Lt (.int a t) (.int c u)) Q E s:=
 (PyProof.Rows.lt_int h:bV (model prog w) A (compareOp .Lt (.int a t) (.int c u)) Q E s)
section
open PySem.SeqAt
open PySem.AutoSeq1 (wpAny_loadPart')
open PySem.MeetsSeq PySem.MeetsSeq2 PySem.MeetsSeq3
theorem akB(l b:Addr)(items xD:Array aq)(n n2:Nat)(dd GF:Option Addr)(sl GG:Array (Option aq))(ns ms:List Int)(hi:IntsAre items.toList ns)(hj:IntsAre xD.toList ms):
  Meets (Builtin.«tuple.__lt__» ⟨[.ref l,.ref b],[]⟩)
   (fun _ R s=>s.heap.get? l=some {cls:=.type "tuple",dict:=dd,data:=.seq items n,slots:=sl}/\s.heap.get? b=some {cls:=.type "tuple",dict:=GF,data:=.seq xD n2,slots:=GG}/\
    R (.ok (.ret (.bool (lexLt ns ms)))) s):=
 .of_wp fun prog w A R s h=>by
  obtain ⟨hp,g,d,tk,os⟩:=s;obtain ⟨hl,hb,h⟩:=h;have f2:=ag3;have z1:items.size=ns.length:=by rw[<-hi.length];simp
  have z2:xD.size=ms.length:=by rw[<-hj.length];simp
  wp_walk using NY hl,NY hb,wpAny_forIn_list _ (fun rest b s'=>b.1=none/\s'=⟨hp,g,d,tk,os⟩/\∃(vs ws:List aq)(qN Ec:List Int),rest=vs.zip ws/\
   IntsAre vs qN/\IntsAre ws Ec/\qN.length+xD.size=Ec.length+items.size/\R (.ok (.ret (.bool (lexLt qN Ec)))) ⟨hp,g,d,tk,os⟩) _
  case turn=>
   rintro ⟨y,x⟩ rest b s' ⟨iU,rfl,vs,ws,qN,Ec,hz,GH,Au,hlen,hR⟩;cases GH with
   |nil=>rw[List.zip_nil_left]at hz;cases hz
   |cons a t akC=>
    cases Au with
    |nil=>rw[List.zip_nil_right]at hz;cases hz
    |cons c u akD=>
     rw[ag4]at hz;injection hz with GI akE
     injection GI with hy hx
     subst hy hx;rw[Eb]at hR;simp only[iz]at hlen;obtain ⟨e,he,Yr⟩:=akz A.in1 ⟨hp,g,d,tk,os⟩ a t c u;refine cE (he prog w _ _ ?_);cases e with
     |true=>
      rw[if_pos (Yr.mp rfl)]at hR
      wp_walk
      exact ⟨rfl,rfl,_,_,_,_,akE,akC,akD,by omega,hR⟩
     |false=>
      rw[if_neg (fun q=>absurd (Yr.mpr q) jt)]at hR;have hri:=akA A.in1 ⟨hp,g,d,tk,os⟩ a t c u prog w
      wp_walk using hri
      exact ⟨_,rfl,by simpa using hR⟩
  case fin=>
   rintro ⟨b1,b2⟩ s' ⟨iU,rfl,vs,ws,qN,Ec,hz,GH,Au,hlen,hR⟩;simp only at iU;subst iU;have hv:lexLt qN Ec=decide (items.size<xD.size):=by
    cases GH with
    |nil=>
     cases Au with
     |nil=>
      simp only[zS]at hlen;rw[akw];exact (decide_eq_false (by omega)).symm
     |cons c u hw=>
      simp only[zS,iz]at hlen;rw[akx];exact (decide_eq_true (by omega)).symm
    |cons a t hv=>
     cases Au with
     |nil=>
      simp only[zS,iz]at hlen;rw[aky];exact (decide_eq_false (by omega)).symm
     |cons c u hw=>
      rw[ag4]at hz;cases hz
   rw[hv]at hR
   wp_walk
   exact ⟨_,rfl,by simpa[Builtin.Tuple.tupleCompareSizes]using hR⟩
  case h=>
   exact ⟨rfl,rfl,items.toList,xD.toList,ns,ms,rfl,hi,hj,by omega,h⟩
end
section
variable{prog:eS}{w:eJ}{A:gc}{E:aq->a9->Prop}{s:a9}
theorem akG{l b:Addr}{items xD:Array aq}{ns ms:List Int}{Q:aq->a9->Prop}(hl:IsTup s.heap l items)(hb:IsTup s.heap b xD)(hi:IntsAre items.toList ns)(hj:IntsAre xD.toList ms)(hu:A.units<cLine)(h:Q (.bool (lexLt ns ms)) s):bV (model prog w) A (compareOp .Lt (.ref l) (.ref b)) Q E s:=by
 obtain ⟨⟨cls,dd,data,sl⟩,ho,hc,n,hd⟩:=id hl;obtain ⟨⟨Ys,GF,data2,GG⟩,se,Av,n2,hd2⟩:=id hb;simp only at hc hd Av hd2;subst hc hd Av hd2;exact richCompare_meets_room (op:=.Lt) ⟨_,ho,rfl⟩ ⟨_,se,rfl⟩ PySem.F.slot_tuple_lt PySem.F.entry_tuple_lt (PySem.F.args_tuple_lt_2 _ _) (akB l b items xD n n2 dd GF sl GG ns ms hi hj)
  ⟨ho,se,show Value.bool (lexLt ns ms)≠Value.notImplemented/\Q (.bool (lexLt ns ms)) s from ⟨(fun x=>nomatch x),h⟩⟩ hu
def qO(n d:Nat):Option Int->Nat
 |none=>d
 |some v=>if v<0 then (v+(n:Int)).toNat else min v.toNat n
theorem Yt(n d:Nat):qO n d none=d:=rfl
theorem Kt(n d k:Nat):qO n d (some (k:Int))=min k n:=by
 show (if (k:Int)<0 then ((k:Int)+(n:Int)).toNat else min (k:Int).toNat n)=min k n;rw[if_neg (by omega),Jy]
end
end HT
namespace L2
abbrev TO:=St->Hp->(Option Int->Hp->Prop)->Prop
def PO(X:Cx)(e:Option Expr)(t:TO):Prop:=
 ∀(pins:List (Addr×Obj))(s:a9)(σ:St)(H:Hp)(Q:Option Int->Hp->Prop),Inv X pins σ H s->t σ H Q->
  bV (model X.prog X.w) X.A (evalPart e X.env) (fun u s'=>∃o H',Inv X pins σ H' s'/\IsPart u o/\Q o H') X.xe s
def akH:TO:=fun _ H Q=>Q none H
def akI(t:TE):TO:=fun σ H Q=>t σ H fun x H1=>∃i,x=.int i/\Q (some i) H1
theorem intsAre_of{ns:List Int}:∀{us:List aq},Vals (ns.map V.int) us->IntsAre us ns:=by
 induction ns with
 |nil=>intro us r;rw[Dy]at r;cases r;exact .nil
 |cons n ns ih=>
  intro us r;rw[jx]at r;cases r with
  |cons r1 r2=>
   obtain ⟨t,e⟩:=r1;subst e;exact .cons n t (ih r2)
section
variable{X:Cx}{e:Expr}{te:TE}{lo hi:Option Expr}{tl th:TO}{pos p2:Pos}
theorem Yu:PO X none akH:=by
 intro pins s σ H Q I h;rw[evalPart_none];exact ij ⟨none,H,I,.none,h⟩
theorem Kw(h:PE X e te):PO X (some e) (akI te):=by
 intro pins s σ H Q I hw;rw[evalPart_some];refine dt (h pins s σ H _ I hw) fun u s1 ⟨x,H1,I1,r1,q1⟩=>?_;obtain ⟨i,rfl,q⟩:=q1;obtain ⟨t,rfl⟩:=r1;exact ⟨some i,H1,I1,.int i t,q⟩
def Yv(X:Cx)(r:V->Option Int->Option Int->Hp->VK->Prop):Prop:=
 ∀(pins:List (Addr×Obj))(s:a9)(σ:St)(H:Hp)(x:V)(v vl vu:aq)(lo hi:Option Int)(sl:Addr)(Q:VK),Inv X pins σ H s->RelV x v->s.heap.IsSliceOf sl vl vu .none->IsPart vl lo->IsPart vu hi->r x lo hi H Q->
  ∃T id,typeLookup (.type T) "__getitem__"=pure (some (.builtin id))/\s.TypeIs v T/\bV (model X.prog X.w) X.A (getItem v (.ref sl)) (EP X pins σ Q) X.xe s
def tSl(r:V->Option Int->Option Int->Hp->VK->Prop)(te:TE)(tl th:TO):TE:=fun σ H Q=>te σ H fun x H1=>tl σ H1 fun l H2=>th σ H2 fun u H3=>r x l u H3 Q
theorem Pn{r:V->Option Int->Option Int->Hp->VK->Prop}(hr:Yv X r)(he:PE X e te)(hl:PO X lo tl)(hu:PO X hi th):PE X (.Subscript e (.Slice lo hi none p2) pos) (tSl r te tl th):=by
 intro pins s σ H Q I h;refine VR (dt (he pins s σ H _ I h) fun v s1 ⟨x,H1,I1,r1,q1⟩=>?_);refine wpAny_Slice (dt (hl pins s1 σ H1 _ I1 q1) fun vl s2 ⟨l,H2,I2,pl,q2⟩=>dt (hu pins s2 σ H2 _ I2 q2) fun vu s3 ⟨u,H3,I3,pu,q3⟩=>?_);rw[evalPart_none];refine ij ?_;have I4:Inv X pins σ H3 {s3 with heap:=s3.heap.push {cls:=.type "slice",data:=.fields #[vl,vu,.none]}}:=I3.kept (t':=s3.toks) fun b ob q=>gF _ q;obtain ⟨T,id,hT,ht,hg⟩:=hr pins {s3 with heap:=s3.heap.push {cls:=.type "slice",data:=.fields #[vl,vu,.none]}} σ H3 x v vl vu l u s3.heap.objs.size Q I4 r1 (Heap.IsSliceOf.new ..) pl pu q3;show bV (model X.prog X.w) X.A (subscriptTail e (.Slice lo hi none p2) v (.ref s3.heap.objs.size)) (EP X pins σ Q) X.xe {s3 with heap:=s3.heap.push {cls:=.type "slice",data:=.fields #[vl,vu,.none]}};exact tail_any (ops:=[.ref s3.heap.objs.size,v]) ht hT hg (by with_unfolding_all rfl)
def nj(xs:List V)(lo hi:Option Int):List V:=(xs.drop (HT.qO xs.length 0 lo)).take (HT.qO xs.length xs.length hi-HT.qO xs.length 0 lo)
theorem akK(xs:List V)(lo hi:Option Int):(nj xs lo hi).length<=xs.length:=by
 unfold nj;rw[mB,Jz];omega
end
def xE(n:Nat)(i:Int):Option Nat:=if 0<=i then (if i<n then some i.toNat else none) else if -(n:Int)<=i then some (i+n).toNat else none
def mf{α:Type}(xs:List α)(i:Int):Option α:=(xE xs.length i).bind fun j=>xs[j]?
theorem Yw{n:Nat}{i:Int}{j:Nat}(h:xE n i=some j):seqIndex? i n=some j/\j<n/\-(n:Int)<=i/\i<n:=by
 unfold xE at h;by_cases h0:0<=i
 .rw[if_pos h0]at h;by_cases U:i<n
  .rw[if_pos U]at h;have e:i.toNat=j:=gE h;exact ⟨by rw[VS h0 U,e],by omega,by omega,U⟩
  .rw[if_neg U]at h;cases h
 .rw[if_neg h0]at h;by_cases U:-(n:Int)<=i
  .rw[if_pos U]at h;have e:(i+n).toNat=j:=gE h;exact ⟨by rw[VT (by omega) U,e],by omega,U,by omega⟩
  .rw[if_neg U]at h;cases h
theorem Yx{α:Type}{xs:List α}{i:Int}{v:α}(h:mf xs i=some v):∃j,seqIndex? i xs.length=some j/\xs[j]? =some v/\j<xs.length/\-(xs.length:Int)<=i/\i<xs.length:=by
 unfold mf at h;cases e:xE xs.length i with
 |none=>rw[e]at h;cases h
 |some j=>
  rw[e]at h;obtain ⟨U,h2,h3,h4⟩:=Yw e;exact ⟨j,U,h,h2,h3,h4⟩
theorem akL{α:Type}{xs:List α}{j:Nat}{v:α}(h:xs[j]? =some v):mf xs (j:Int)=some v:=by
 have hj:j<xs.length:=(gq.mp h).1;have e:xE xs.length (j:Int)=some j:=by
  unfold xE;rw[if_pos (by omega),if_pos (by omega)];simp
 unfold mf;rw[e];exact h
def akM(b:Expr):Prop:=∀o i,subscripted b false o i=operate [o,i] (getItem o i)
def GK(X:Cx)(r:R2):Prop:=
 ∀(value slice:Expr)(pins:List (Addr×Obj))(s:a9)(σ:St)(H:Hp)(x y:V)(v u:aq)(Q:VK),Inv X pins σ H s->RelV x v->RelV y u->r x y H Q->
  subscripted slice false v u=operate [v,u] (getItem v u)->bV (model X.prog X.w) X.A (subscriptTail value slice v u) (EP X pins σ Q) X.xe s
def Yy(X:Cx)(id:String)(r:V->List V->Hp->VK->Prop):Prop:=
 ∀(pins:List (Addr×Obj))(s:a9)(σ:St)(H:Hp)(x:V)(xs:List V)(v:aq)(us:List aq)(Q:VK),Inv X pins σ H s->RelV x v->Vals xs us->r x xs H Q->
  bV (model X.prog X.w) X.A (call (.builtin id) (v::us)) (EP X pins σ Q) X.xe s
section
variable{X:Cx}{a b:Expr}{ta tb:TE}{pos:Pos}
theorem gj{r:R2}(hr:GK X r)(ha:PE X a ta)(hb:PE X b tb)(hs:akM b):PE X (.Subscript a b pos) (Kh r ta tb):=by
 intro pins s σ H Q I h;exact VR (Pa ha hb I h fun v u s2 x y H2 I2 rx ry q=>hr a b pins s2 σ H2 x y v u Q I2 rx ry q (hs _ _))
inductive Yz(K:cB)(x y:V)(H:Hp)(Q:VK):Prop
 |mk (p:Addr) (xs:List V) (i:Int) (v:V) (ex:x=.ref p) (ey:y=.int i) (s:aD K H p xs) (a:mf xs i=some v) (q:Q v H):Yz K x y H Q
def YA(K:cB):R2:=fun x y H Q=>Yz K x y H Q
def YB(K:cB):R2:=fun x y H Q=>∃p xs i v,x=.ref p/\y=.int i/\kj K H p xs/\mf xs i=some v/\Q v H
theorem ia:GK X (YA X.K):=by
 intro value slice pins s σ H x y v u Q I rx ry h hs;obtain ⟨p,xs,i,z,rfl,rfl,hq,he,q⟩:=h;cases rx;obtain ⟨t,rfl⟩:=ry;obtain ⟨bD,r,pl,hz⟩:=I.list hq;obtain ⟨j,U,h2,h3,h4,h5⟩:=Yx he;obtain ⟨w,ew,wj⟩:=r.get h2;have hl:=r.length;have hn:=Ko;have fin:EP X pins σ Q w s:=⟨z,H,I,wj,q⟩;by_cases h0:0<=i
 .have hj:i.toNat=j:=by
   rw[VS h0 h5]at U;exact gE U
  exact item_listR pl.isList h0 (by omega) (by rw[hj];simpa using ew) fin hs
 .have hj:(i+(bD.toArray.size:Int)).toNat=j:=by
   rw[VT (by omega) h4]at U;rw[i9,<-hl];exact gE U
  exact ag5 (x:=w) pl.isList.typeIs ag6.lookup
   (wpAny_getItem_list_neg (Q:=fun r s'=>r=w/\EP X pins σ Q r s') pl.isList (by omega) (by rw[i9]<;>omega) (by omega) (by rw[hj];simpa using ew) ⟨rfl,fin⟩) hs
theorem Kx:GK X (YB X.K):=by
 intro value slice pins s σ H x y v u Q I rx ry h hs;obtain ⟨p,xs,i,z,rfl,rfl,hq,he,q⟩:=h;cases rx;obtain ⟨t,rfl⟩:=ry;obtain ⟨bD,r,pl,hz⟩:=I.tuple hq;obtain ⟨j,U,h2,h3,h4,h5⟩:=Yx he;obtain ⟨w,ew,wj⟩:=r.get h2;have hl:=r.length;have hn:=Ko;have fin:EP X pins σ Q w s:=⟨z,H,I,wj,q⟩;exact ag5 (x:=w) pl.typeIs slot_tuple_getitem.lookup
  (getItem_tuple (j:=j) (Q:=fun r s'=>r=w/\EP X pins σ Q r s') pl (by omega) (by omega) (by rw[i9,<-hl];exact U) (by simpa using ew) ⟨rfl,fin⟩) hs
theorem akN(bD:List aq)(n j:Nat)(u:aq):m5 (·.setIfInBounds j u) {cls:=.type "list",data:=.seq bD.toArray n}={cls:=.type "list",data:=.seq (bD.set j u).toArray n}:=by
 simp[m5]
theorem Inv.lst{pins:List (Addr×Obj)}{σ:St}{H:Hp}{s:a9}{p:Addr}{xs:List V}(I:Inv X pins σ H s)(h:H p=some (.lst xs)):
  ∃(bD:List aq)(n:Nat),Vals xs bD/\s.heap.get? p=some {cls:=.type "list",data:=.seq bD.toArray n}/\xs.length<=cJ:=by
 obtain ⟨z,bD,n,r,e⟩:=I.bS p _ h;exact ⟨bD,n,r,e,z⟩
theorem Inv.akO{pins:List (Addr×Obj)}{σ:St}{H:Hp}{s:a9}{p:Addr}{xs ys:List V}{bD its':List aq}{n n':Nat}{f:Obj->Obj}(I:Inv X pins σ H s)(h:H p=some (.lst xs))(ho:s.heap.get? p=some {cls:=.type "list",data:=.seq bD.toArray n})(hf:f {cls:=.type "list",data:=.seq bD.toArray n}={cls:=.type "list",data:=.seq its'.toArray n'})(r:Vals ys its')(hz:ys.length<=cJ)(t:Nat):
  Inv X pins σ (upd H p (.lst ys)) {s with heap:=s.heap.update p f,toks:=t}:=by
 have e:(s.heap.update p f).get? p=some {cls:=.type "list",data:=.seq its'.toArray n'}:=by
  rw[ag7 f ho (by rw[hf]<;>rfl),hf]
 refine I.write (x:=p) (e:=p) (by rw[h];trivial) (.inl rfl) (fun b u hb q=>(ag8 _ _ (xa hb)).trans q) ⟨_,e⟩ ?_;exact ⟨hz,its',n',r,e⟩
def Po:V->V->V->Hp->(Hp->Prop)->Prop:=fun o i v H Q=>∃p xs k j,o=.ref p/\i=.int k/\H p=some (.lst xs)/\xE xs.length k=some j/\Q (upd H p (.lst (xs.set j v)))
theorem set_list:XG X Po:=by
 intro pins s σ H o i v ov iv u Q I ro ri rv h;obtain ⟨p,xs,k,j,rfl,rfl,hp,hj,q⟩:=h;cases ro;obtain ⟨t,rfl⟩:=ri;obtain ⟨bD,n,r,ho,hz⟩:=I.lst hp;obtain ⟨U,h2,h3,h4⟩:=Yw hj;have hl:=r.length;have hn:=Ko;have I':Inv X pins σ (upd H p (.lst (xs.set j v))) {s with heap:=s.heap.update p (m5 (·.setIfInBounds j u))}:=
  I.akO hp ho (akN bD n j u) (r.set rv j) (by rw[yn];exact hz) s.toks
 by_cases h0:0<=k
 .have hk:k.toNat=j:=by
   rw[VS h0 h4]at U;exact gE U
  exact PySem.W.ki_setAt ho h0 (by omega) (by rw[i9,<-hl];exact h4) (by rw[hk];exact ⟨_,I',q⟩)
 .have hk:(k+(bD.toArray.size:Int)).toNat=j:=by
   rw[VT (by omega) h3]at U;rw[i9,<-hl];exact gE U
  exact PySem.W.ki_setBack ho (by omega) (by rw[i9,<-hl];exact h3) (by omega) (by rw[hk];exact ⟨_,I',q⟩)
theorem akQ(lo hi:Option Int)(n:Nat):(sliceBounds lo hi none n).1=((HT.qO n 0 lo:Nat):Int)/\(sliceBounds lo hi none n).2.1=((HT.qO n n hi:Nat):Int)/\(sliceBounds lo hi none n).2.2=1:=by
 refine ⟨?_,?_,rfl⟩
 .cases lo with
  |none=>simp[sliceBounds,HT.qO]
  |some i=>
   simp only[sliceBounds,HT.qO,ag9,show (1:Int) > 0 by decide,if_true];by_cases h:i<0
   .simp only[h,if_true]<;>omega
   .simp only[h,if_false]<;>omega
 .cases hi with
  |none=>simp[sliceBounds,HT.qO]
  |some i=>
   simp only[sliceBounds,HT.qO,ag9,show (1:Int) > 0 by decide,if_true];by_cases h:i<0
   .simp only[h,if_true]<;>omega
   .simp only[h,if_false]<;>omega
theorem akR(bD:List aq)(lo hi:Option Int):slicePick bD.toArray lo hi none=((bD.drop (HT.qO bD.length 0 lo)).take (HT.qO bD.length bD.length hi-HT.qO bD.length 0 lo)).toArray:=by
 obtain ⟨U,h2,h3⟩:=akQ lo hi bD.toArray.size;unfold slicePick;rw[U,h2,h3];simp only[sliceRange_one,pick_run,i9]<;>rfl
def akS(K:cB):V->Option Int->Option Int->Hp->VK->Prop:=fun x lo hi H Q=>∃a xs,x=.ref a/\aD K H a xs/\∀p,H p=none->Q (.ref p) (upd H p (.lst (nj xs lo hi)))
theorem Pp:Yv X (akS X.K):=by
 intro pins s σ H x v vl vu lo hi sl Q I rx hs pl pu h;obtain ⟨a,xs,rfl,hx,q⟩:=h;cases rx;obtain ⟨bD,r,ht,hz⟩:=I.list hx;have hlen:=r.length;refine ⟨"list",_,ag6.lookup,ht.isList.typeIs,?_⟩;refine wpAny_getItem_list_slice ht.isList hs pl pu .none (by simp) ?_ (by rw[i9]<;>omega);rw[akR,<-hlen];refine ⟨.ref s.heap.objs.size,_,I.laid (t':=s.toks) (o:=.lst (nj xs lo hi)) (fun b ob q=>gF _ q) (dR _) ?_,rfl,q _ (I.bS.fresh (dR _))⟩;exact ⟨gN (akK xs lo hi) hz,_,0,(r.drop (HT.qO xs.length 0 lo)).take (HT.qO xs.length xs.length hi-HT.qO xs.length 0 lo),lV _ rfl⟩
def yH:V->Bool
 | .eM=>true
 | .bl _=>true
 | .int _=>true
 | .str _=>true
 |_=>false
def xF:V->V->Bool
 | .eM,.eM=>true
 | .bl a,.bl b=>a==b
 | .bl a,.int b=>(if a then 1 else 0)==b
 | .int a,.bl b=>a==(if b then 1 else 0)
 | .int a,.int b=>a==b
 | .str a,.str b=>a==b
 |_,_=>false
theorem akT{A:gc}{s:a9}{y x:V}{u v:aq}(ry:RelV y u)(rx:RelV x v)(fy:yH y=true)(fx:yH x=true):SeqAt.EqAt A s u v (xF y x):=by
 cases y with
 |eM=>
  cases ry;cases x with
  |eM=>cases rx;exact SeqAt.EqAt.same _
  |bl b=>cases rx;exact SeqAt.EqAt.none_bool b
  |int b=>obtain ⟨t,rfl⟩:=rx;exact SeqAt.EqAt.none_int b t
  |str b=>obtain ⟨t,rfl⟩:=rx;exact SeqAt.EqAt.none_str b t
  |_=>exact absurd (show false=true from fx) jt
 |bl a=>
  cases ry;cases x with
  |eM=>cases rx;exact SeqAt.EqAt.bool_none a
  |bl b=>cases rx;exact SeqAt.EqAt.bool_bool a b
  |int b=>obtain ⟨t,rfl⟩:=rx;exact SeqAt.EqAt.bool_int a b t
  |str b=>obtain ⟨t,rfl⟩:=rx;exact SeqAt.EqAt.bool_str a b t
  |_=>exact absurd (show false=true from fx) jt
 |int a=>
  obtain ⟨t',rfl⟩:=ry;cases x with
  |eM=>cases rx;exact SeqAt.EqAt.int_none a t'
  |bl b=>cases rx;exact SeqAt.EqAt.int_bool a t' b
  |int b=>obtain ⟨t,rfl⟩:=rx;exact ag0 a t' b t
  |str b=>obtain ⟨t,rfl⟩:=rx;exact agF a t' b t
  |_=>exact absurd (show false=true from fx) jt
 |str a=>
  obtain ⟨t',rfl⟩:=ry;cases x with
  |eM=>cases rx;exact SeqAt.EqAt.str_none a t'
  |bl b=>cases rx;exact SeqAt.EqAt.str_bool a t' b
  |int b=>obtain ⟨t,rfl⟩:=rx;exact agG a t' b t
  |str b=>obtain ⟨t,rfl⟩:=rx;exact SeqAt.EqAt.str_str a t' b t
  |_=>exact absurd (show false=true from fx) jt
 |_=>exact absurd (show false=true from fy) jt
def sg(x:V)(u:aq):Bool:=match u with
 | .none=>xF .eM x
 | .bool b=>xF (.bl b) x
 | .int i _=>xF (.int i) x
 | .str z _=>xF (.str z) x
 |_=>false
theorem YC{x y:V}{u:aq}(r:RelV y u)(f:yH y=true):sg x u=xF y x:=by
 cases y with
 |eM=>cases r;rfl
 |bl b=>cases r;rfl
 |int i=>obtain ⟨t,rfl⟩:=r;rfl
 |str z=>obtain ⟨t,rfl⟩:=r;rfl
 |_=>exact absurd (show false=true from f) jt
theorem GL{x:V}:∀{xs:List V}{us:List aq},Vals xs us->xs.all yH=true->us.any (sg x)=xs.any fun y=>xF y x
 |_,_,.nil,_=>rfl
 |y::xs,u::us,.cons r t,f=>by
  rw[zN,jN]at f;rw[FU,FU,YC r f.1,GL t f.2]
theorem GN{A:gc}{s:a9}{x:V}{v:aq}(rx:RelV x v)(fx:yH x=true):∀{xs:List V}{us:List aq},Vals xs us->xs.all yH=true->∀u∈us,SeqAt.EqAt A s u v (sg x u)
 |_,_,.nil,_=>fun u hu=>by cases hu
 |y::xs,u::us,.cons r t,f=>fun u' hu=>by
  rw[zN,jN]at f;rcases f6.mp hu with rfl|hu
  .rw[YC r f.1];exact akT r rx f.1 fx
  .exact GN rx fx t f.2 u' hu
def Ca(x:V)(xs:List V):Bool:=xs.any fun y=>xF y x
def YD(K:cB)(neg:Bool):R2:=fun x y H Q=>∃p xs,y=.ref p/\(aD K H p xs∨kj K H p xs)/\yH x=true/\xs.all yH=true/\Q (.bl (if neg then !Ca x xs else Ca x xs)) H
theorem akV:qg X (compareOp .In) (YD X.K false):=by
 intro pins s σ H x y v u Q I rx ry h;obtain ⟨p,xs,rfl,hq,fx,fs,q⟩:=h;cases ry;rcases hq with hq|hq
 .obtain ⟨bD,r,pl,hz⟩:=I.list hq;refine SeqAt.in_listAt (sg x) pl.isList (fun w hw=>GN rx fx r fs w (by simpa using hw)) ⟨.bl _,H,I,rfl,?_⟩;rw[show bD.toArray.any (sg x)=bD.any (sg x) by simp,GL r fs];exact q
 .obtain ⟨bD,r,pl,hz⟩:=I.tuple hq;refine SeqAt.in_tupleAt (sg x) pl (fun w hw=>GN rx fx r fs w (by simpa using hw)) ⟨.bl _,H,I,rfl,?_⟩;rw[show bD.toArray.any (sg x)=bD.any (sg x) by simp,GL r fs];exact q
theorem akW:qg X (compareOp .NotIn) (YD X.K true):=by
 intro pins s σ H x y v u Q I rx ry h;obtain ⟨p,xs,rfl,hq,fx,fs,q⟩:=h;cases ry;rcases hq with hq|hq
 .obtain ⟨bD,r,pl,hz⟩:=I.list hq;refine SeqAt.notIn_listAt (sg x) pl.isList (fun w hw=>GN rx fx r fs w (by simpa using hw)) ⟨.bl _,H,I,rfl,?_⟩;rw[show bD.toArray.any (sg x)=bD.any (sg x) by simp,GL r fs];exact q
 .obtain ⟨bD,r,pl,hz⟩:=I.tuple hq;refine SeqAt.notIn_tupleAt (sg x) pl (fun w hw=>GN rx fx r fs w (by simpa using hw)) ⟨.bl _,H,I,rfl,?_⟩;rw[show bD.toArray.any (sg x)=bD.any (sg x) by simp,GL r fs];exact q
theorem l7:Ap X (.builtin "len") (fun xs H Q=>∃p ys,xs=[.ref p]/\(aD X.K H p ys∨kj X.K H p ys)/\Q (.int ys.length) H):=by
 intro pins s σ H xs us Q I r h;obtain ⟨p,ys,rfl,hq,q⟩:=h;obtain ⟨u,rfl,rx⟩:=vals1 r;cases rx;have hn:=Ko;rcases hq with hq|hq
 .obtain ⟨bD,r',pl,hz⟩:=I.list hq;have hlen:=r'.length;exact Calls.call_len_list pl.isList (by simp only[i9]<;>omega) ⟨.int ys.length,H,I.tok _,⟨s.toks+1,by rw[i9,hlen]⟩,q⟩
 .obtain ⟨bD,r',pl,hz⟩:=I.tuple hq;have hlen:=r'.length;exact len_tuple pl (by simp only[i9]<;>omega) ⟨.int ys.length,H,I.tok _,⟨s.toks+1,by rw[i9,hlen]⟩,q⟩
theorem YE:Ap X (.type "list") (fun xs H Q=>∃p ys,xs=[.ref p]/\(aD X.K H p ys∨kj X.K H p ys)/\∀l,H l=none->Q (.ref l) (upd H l (.lst ys))):=by
 intro pins s σ H xs us Q I r h;obtain ⟨p,ys,rfl,hq,q⟩:=h;obtain ⟨u,rfl,rx⟩:=vals1 r;cases rx;have fin:∀(bD:List aq),Vals ys bD->ys.length<=cJ->∀(h':Heap)(c':Nat),(∀b o',s.heap.get? b=some o'->h'.get? b=some o')->
   h'.get? s.heap.objs.size=some {cls:=.type "list",dict:=none,data:=.seq bD.toArray c',slots:=#[]}->EP X pins σ Q (.ref s.heap.objs.size) {s with heap:=h'}:=fun bD r' hz h' c' kp e=>
  ⟨.ref s.heap.objs.size,_,I.laid (t':=s.toks) kp (dR _) (show j5 X.prog X.w _ h' _ (.lst ys) from ⟨hz,bD,c',r',e⟩),rfl,q _ (I.bS.fresh (dR _))⟩
 rcases hq with hq|hq
 .obtain ⟨bD,r',pl,hz⟩:=I.list hq;have hlen:=r'.length;obtain ⟨o,ho,hc,n,hd⟩:=pl.isList;exact call_list_seq p (.inl rfl) ho hc hd (fun h' c' kp e=>fin bD r' hz h' c' kp e) (by simp only[i9]<;>omega)
 .obtain ⟨bD,r',pl,hz⟩:=I.tuple hq;have hlen:=r'.length;obtain ⟨o,ho,hc,n,hd⟩:=pl;exact call_list_seq p (.inr rfl) ho hc hd (fun h' c' kp e=>fin bD r' hz h' c' kp e) (by simp only[i9]<;>omega)
def Pq(K:cB)(T:String)(x:V)(H:Hp):Prop:=match x with
 | .str _=>T="str"
 | .int _=>T="int"
 | .ref p=>(T="list"/\∃xs,aD K H p xs)∨(T="tuple"/\∃o,K.lookup p=some o/\o.cls=.type "tuple"/\o.dict=none)∨
   (T="dict"/\((∃kvs,H p=some (.dK kvs))∨∃kvs,H p=some (.dT kvs)))∨(T="set"/\∃S n,H p=some (.set S n))
 |_=>False
theorem YF{pins:List (Addr×Obj)}{σ:St}{H:Hp}{s:a9}{T:String}{x:V}{v:aq}(I:Inv X pins σ H s)(r:RelV x v)(ty:Pq X.K T x H):
  s.TypeIs v T/\∀a,v=.ref a->∃ob,s.heap.get? a=some ob/\ob.dict=none:=by
 cases x with
 |str z=>
  obtain ⟨t,rfl⟩:=r;cases (show T="str" from ty);exact ⟨typeIs_str s z t,fun _ e=>nomatch e⟩
 |int i=>
  obtain ⟨t,rfl⟩:=r;cases (show T="int" from ty);exact ⟨typeIs_int s i t,fun _ e=>nomatch e⟩
 |ref p=>
  cases r;rcases ty with ⟨rfl,xs,hq⟩|⟨rfl,o,hk,hc,hd⟩|⟨rfl,hk⟩|⟨rfl,S,n,hk⟩
  .obtain ⟨bD,_,pl,_⟩:=I.list hq;refine ⟨pl.isList.typeIs,fun a e=>?_⟩;cases e;obtain ⟨o,n,e,c,hd,_⟩:=pl;exact ⟨o,e,hd⟩
  .refine ⟨⟨o,I.m8 p o hk,hc⟩,fun a e=>?_⟩;cases e;exact ⟨o,I.m8 _ o hk,hd⟩
  .have z:∃o,s.heap.get? p=some o/\o.ExactDict:=by
    rcases hk with ⟨kvs,hk⟩|⟨kvs,hk⟩
    .obtain ⟨_,_,_,_,o,_,_,e,ex,_⟩:=I.bS p _ hk;exact ⟨o,e,ex⟩
    .obtain ⟨_,_,_,_,o,_,_,e,ex,_⟩:=I.bS p _ hk;exact ⟨o,e,ex⟩
   obtain ⟨o,e,ex⟩:=z;refine ⟨⟨o,e,ex.1⟩,fun a e2=>?_⟩;cases e2;exact ⟨o,e,ex.2.1⟩
  .obtain ⟨o,_,_,_,e,ex,_⟩:=I.bS p _ hk;refine ⟨⟨o,e,ex.1⟩,fun a e2=>?_⟩;cases e2;exact ⟨o,e,ex.2.1⟩
 |_=>exact False.elim ty
def akX(K:cB)(T:String)(r:V->List V->Hp->VK->Prop)(to:TE):TE:=fun σ H Q=>to σ H fun x H1=>Pq K T x H1/\r x [] H1 Q
def tBM(K:cB)(T:String)(r:V->List V->Hp->VK->Prop)(to:TE)(t:TA):TE:=fun σ H Q=>to σ H fun x H1=>Pq K T x H1/\t σ H1 fun xs H2=>r x xs H2 Q
variable{o e:Expr}{es:List Expr}{to:TE}{t:TA}{name:Str}{apos lH:Pos}{T id:String}{r:V->List V->Hp->VK->Prop}
theorem akZ(pa:PlainAttrs T)(slot:Slot T name id)(Pu:typeOf (.builtin id)=pure (.type "method_descriptor"))(hm:Yy X id r)(ho:PE X o to)(GP:attributeBase o name X.env (eval o X.env)=eval o X.env:=by rfl)(GQ:(apos.endLine==lH.line)=true:=by rfl):PE X (.Call (.Attribute o name apos) [] [] lH) (akX X.K T r to):=by
 intro pins s σ H Q I h;refine wpAny_Call_method0_late GP GQ (dt (ho pins s σ H _ I h) fun v s1 ⟨x,H1,I1,r1,ty,q1⟩=>?_);obtain ⟨U,h2⟩:=YF I1 r1 ty;exact ⟨T,id,pa,slot,Pu,U,h2,VU rfl (aha (hm pins s1 σ H1 x [] v [] Q I1 r1 .nil q1))⟩
theorem j8(pa:PlainAttrs T)(slot:Slot T name id)(Pu:typeOf (.builtin id)=pure (.type "method_descriptor"))(hm:Yy X id r)(ho:PE X o to)(ha:PA X (e::es) t)(GP:attributeBase o name X.env (eval o X.env)=eval o X.env:=by rfl)(ak0:((backTo lH (iP (e::es) X.env)).all (fun x=>!x.1)&&(backToKw lH (keywordEach [] X.env)).all (fun x=>x.1.isSome)
   &&decide ((e::es).length+([]:List Keyword).length+(if ([]:List Keyword).isEmpty then 0 else 1)<30))=true:=by rfl)(GQ:(apos.endLine==lH.line)=true:=by rfl)(hs:iP (e::es) X.env=(false,eval e X.env)::iP es X.env:=by rfl)(ak1:(backTo lH (iP es X.env)).any (·.1)=false:=by rfl):
  PE X (.Call (.Attribute o name apos) (e::es) [] lH) (tBM X.K T r to t):=by
 intro pins s σ H Q I h;refine wpAny_Call_method_late GP ak0 GQ rfl (dt (ho pins s σ H _ I h) fun v s1 ⟨x,H1,I1,r1,ty,q1⟩=>?_);obtain ⟨U,h2⟩:=YF I1 r1 ty;refine ⟨T,id,pa,slot,Pu,U,h2,?_⟩;have hA:=ha lH pins s1 σ H1 _ I1 q1;rw[hs]at hA ⊢;refine VU (by show (false||(backTo lH (iP es X.env)).any (·.1))=false;rw[ak1]<;>rfl) (ahb ?_);exact dt hA fun us s2 ⟨vs,H2,I2,r2,q2⟩=>hm pins s2 σ H2 x vs v us Q I2 r1 r2 q2
end
def GR(X:Cx)(id:String)(r:V->List V->Hp->VK->Prop):Prop:=
 ∀(pins:List (Addr×Obj))(s:a9)(σ:St)(H:Hp)(x:V)(xs:List V)(v:aq)(us:List aq)(Q:VK),Inv X pins σ H s->RelV x v->Vals xs us->r x xs H Q->
  bV (model X.prog X.w) X.A (call (.builtin id) (v::us)) (EP X pins σ Q) X.xe s
theorem Vals.one:∀{x:V}{us:List aq},Vals [x] us->∃u,us=[u]/\RelV x u
 |_,_,.cons r .nil=>⟨_,rfl,r⟩
theorem Vals.zero:∀{us:List aq},Vals [] us->us=[]
 |_,.nil=>rfl
theorem Vals.dropLast{xs:List V}{us:List aq}(h:Vals xs us):Vals xs.dropLast us.dropLast:=by
 induction h with
 |nil=>exact .nil
 |cons r t ih=>
  cases t with
  |nil=>exact .nil
  |cons q t'=>exact .cons r ih
theorem Vals.eraseIdx:∀{xs:List V}{us:List aq}(i:Nat),Vals xs us->Vals (xs.eraseIdx i) (us.eraseIdx i)
 |_,_,_,.nil=>.nil
 |_,_,0,.cons _ t=>t
 |_,_,i+1,.cons r t=>.cons r (Vals.eraseIdx i t)
theorem Vals.reverse{xs:List V}{us:List aq}(h:Vals xs us):Vals xs.reverse us.reverse:=by
 induction h with
 |nil=>exact .nil
 |cons r t ih=>rw[ahc,ahc];exact Vals.append ih (.cons r .nil)
theorem Vals.rep{xs:List V}{us:List aq}(h:Vals xs us):∀k:Nat,Vals (oV k xs).flatten (oV k us).flatten
 |0=>.nil
 |k+1=>by
  rw[ahd,ahd,ahe,ahe];exact Vals.append h (Vals.rep h k)
theorem YG{α:Type}:∀(l:List α)(i:Nat),(l.eraseIdx i).length<=l.length
 | [],_=>dR _
 |_::_,0=>agV _
 |_::r,i+1=>FV (YG r i)
section
variable{X:Cx}{pins:List (Addr×Obj)}{σ:St}{H:Hp}{s:a9}{l b:Addr}{xs ys zs:List V}
theorem Inv.GS{bD its':List aq}{n:Nat}{f:Array aq->Array aq}{t':Nat}(I:Inv X pins σ H s)(hH:H l=some (.lst xs))(e:s.heap.get? l=some {cls:=.type "list",data:=.seq bD.toArray n})(hf:f bD.toArray=its'.toArray)(hv:Vals ys its')(hz:ys.length<=cJ):
  Inv X pins σ (upd H l (.lst ys)) {s with heap:=s.heap.update l (m5 f),toks:=t'}:=by
 have q:=PySem.IsL.update e f;rw[hf]at q;refine I.write (x:=l) (e:=l) (by rw[hH];exact trivial) (.inl rfl) (fun b' u hb hu=>(ag8 s.heap (m5 f) (xa hb)).trans hu) ⟨_,q⟩ ?_;exact ⟨hz,its',_,hv,q⟩
theorem Inv.ak2{bD:List aq}{t':Nat}(I:Inv X pins σ H s)(hv:Vals ys bD)(hz:ys.length<=cJ):
  Inv X pins σ (upd H s.heap.objs.size (.lst ys)) {s with heap:=s.heap.push {cls:=.type "list",data:=.seq bD.toArray},toks:=t'}:=
 I.laid (fun _ _ q=>gF _ q) (dR _) ⟨hz,bD,0,hv,lV _ rfl⟩
theorem Inv.fresh(I:Inv X pins σ H s):H s.heap.objs.size=none:=I.bS.fresh (dR _)
theorem Inv.Ay(I:Inv X pins σ H s)(hH:H l=some (.lst xs)):xs.length<=cJ/\∃(bD:List aq)(n:Nat),Vals xs bD/\xs.length=bD.length/\s.heap.get? l=some {cls:=.type "list",data:=.seq bD.toArray n}:=by
 obtain ⟨z,bD,n,r,e⟩:=I.bS l _ hH;exact ⟨z,bD,n,r,r.length,e⟩
theorem YH{n:Nat}(h:n<=cJ):Builtin.List.listTooLong n=false:=by
 unfold Builtin.List.listTooLong;exact decide_eq_false (by omega)
end
section
variable{X:Cx}
inductive YI(x:V)(vs:List V)(H:Hp)(k:Hp->Prop):Prop
 |mk (l:Addr) (xs:List V) (y:V) (ex:x=.ref l) (ev:vs=[y]) (h:H l=some (.lst xs)) (n:xs.length<cJ) (q:k (upd H l (.lst (xs++[y])))):YI x vs H k
def ak3:V->List V->Hp->VK->Prop:=fun x vs H Q=>YI x vs H (Q .eM)
theorem nM:GR X "list.append" ak3:=by
 intro pins s σ H x vs v us Q I rx rv h;obtain ⟨l,xs,y,rfl,rfl,hH,hz,q⟩:=h;cases rx;obtain ⟨u,rfl,ru⟩:=rv.one;obtain ⟨z,bD,n,r,hl,e⟩:=I.Ay hH;refine JA F.slot_list_append ⟨_,e,rfl⟩ F.entry_list_append (F.args_list_append_2 _ _) (PySem.list_append l bD.toArray n u (by rw[i9];omega)) ⟨e,?_⟩;refine ⟨.eM,_,I.GS (its':=bD++[u]) hH e (by simp) (r.append (.cons ru .nil)) ?_,rfl,q⟩;rw[gR,Dz];omega
inductive YJ(x:V)(vs:List V)(H:Hp)(k:Hp->Prop):Prop
 |mk (l b:Addr) (xs zs:List V) (ex:x=.ref l) (ev:vs=[.ref b]) (h:H l=some (.lst xs)) (hb:H b=some (.lst zs)) (n:xs.length+zs.length<=cJ) (q:k (upd H l (.lst (xs++zs)))):YJ x vs H k
def ak4:V->List V->Hp->VK->Prop:=fun x vs H Q=>YJ x vs H (Q .eM)
theorem Az:GR X "list.extend" ak4:=by
 intro pins s σ H x vs v us Q I rx rv h;obtain ⟨l,b,xs,zs,rfl,rfl,hH,hB,hz,q⟩:=h;cases rx;obtain ⟨u,rfl,ru⟩:=rv.one;cases ru;obtain ⟨z,bD,n,r,hl,e⟩:=I.Ay hH;obtain ⟨z2,oF,n2,r2,iH,e2⟩:=I.Ay hB;have hsz:bD.toArray.size+oF.toArray.size<=cJ:=by rw[i9,i9];omega
 have ak5:¬(!bD.toArray.isEmpty&&Builtin.List.listTooLong (bD.toArray.size+oF.toArray.size))=true:=by
  rw[YH hsz,ahf];exact jt
 refine JA xb ⟨_,e,rfl⟩ ahg (ahh _ _)
  (AutoSeq1.list_extend_list_list_0 l bD.toArray n b oF.toArray n2 ak5 (by rw[i9];omega) (by omega)) ⟨e,e2,?_⟩
 refine ⟨.eM,_,I.GS (its':=bD++oF) hH e (by simp) (r.append r2) ?_,rfl,q⟩;rw[gR];omega
def ak6:V->List V->Hp->VK->Prop:=fun x vs H Q=>∃l xs i k y,x=.ref l/\vs=[.int i]/\H l=some (.lst xs)/\-(2 ^ 63)<=i/\i<2 ^ 63/\seqIndex? i xs.length=some k/\xs[k]? =some y/\Q y (upd H l (.lst (xs.eraseIdx k)))
theorem ak7:GR X "list.pop" ak6:=by
 intro pins s σ H x vs v us Q I rx rv h;obtain ⟨l,xs,i,k,y,rfl,rfl,hH,U,h2,hk,hy,q⟩:=h;cases rx;obtain ⟨u,rfl,ru⟩:=rv.one;obtain ⟨t,rfl⟩:=ru;obtain ⟨z,bD,n,r,hl,e⟩:=I.Ay hH;obtain ⟨w,hw,wj⟩:=r.get hy;refine JA F.slot_list_pop ⟨_,e,rfl⟩ F.entry_list_pop (F.args_list_pop_2 _ _)
  (MeetsSeq.list_pop_at l bD.toArray n i t k w (fitsIndex_both U h2) (by rw[i9,<-hl];exact hk) (by rw[<-ahi];exact hw) (by rw[i9];omega)) ⟨e,?_⟩
 refine ⟨y,_,I.GS (its':=bD.eraseIdx k) hH e ?_ (r.eraseIdx k) ?_,wj,q⟩
 .show bD.toArray.eraseIdxIfInBounds k=(bD.eraseIdx k).toArray;rw[List.eraseIdxIfInBounds_toArray]
 .have:=YG xs k;omega
def ak8:V->List V->Hp->VK->Prop:=fun x vs H Q=>∃l xs,x=.ref l/\vs=[]/\H l=some (.lst xs)/\Q .eM (upd H l (.lst xs.reverse))
theorem ak9:GR X "list.reverse" ak8:=by
 intro pins s σ H x vs v us Q I rx rv h;obtain ⟨l,xs,rfl,rfl,hH,q⟩:=h;cases rx;have GU:=rv.zero;subst GU;obtain ⟨z,bD,n,r,hl,e⟩:=I.Ay hH;refine JA F.slot_list_reverse ⟨_,e,rfl⟩ F.entry_list_reverse (F.args_list_reverse_1 _) (AutoSeq1.list_reverse_list_0 l bD.toArray n (by rw[i9];omega)) ⟨e,?_⟩;refine ⟨.eM,_,I.GS (its':=bD.reverse) hH e (by simp) r.reverse ?_,rfl,q⟩;rw[List.length_reverse];omega
inductive YK(x y:V)(H:Hp)(Q:VK):Prop
 |mk (l b:Addr) (xs zs:List V) (ex:x=.ref l) (ey:y=.ref b) (h:H l=some (.lst xs)) (hb:H b=some (.lst zs)) (n:xs.length+zs.length<=cJ) (q:∀p,H p=none->Q (.ref p) (upd H p (.lst (xs++zs)))):YK x y H Q
def ala:R2:=fun x y H Q=>YK x y H Q
theorem ve:qg X (binaryOp .Add) ala:=by
 intro pins s σ H x y v u Q I rx ry h;obtain ⟨l,b,xs,zs,rfl,rfl,hH,hB,hz,q⟩:=h;cases rx;cases ry;obtain ⟨z,bD,n,r,hl,e⟩:=I.Ay hH;obtain ⟨z2,oF,n2,r2,iH,e2⟩:=I.Ay hB;refine PySem.P.add_list e e2 ?_ (by rw[i9,i9];omega);have ea:bD.toArray++oF.toArray=(bD++oF).toArray:=by simp
 rw[ea];exact ⟨.ref _,_,I.ak2 (t':=s.toks) (r.append r2) (by rw[gR];omega),rfl,q _ I.fresh⟩
end
section
variable{prog:eS}{w:eJ}{A:gc}{E:aq->a9->Prop}{s:a9}
end
section
variable{X:Cx}
end
theorem Vals.ints:∀{ns:List Int}{us:List aq},Vals (ns.map V.int) us->IntsAre us ns
 | [],us,h=>by
  rw[Dy]at h;cases h;exact IntsAre.nil
 |n::ns,us,h=>by
  rw[jx]at h;cases h with
  |cons r t=>
   obtain ⟨k,rfl⟩:=r;exact IntsAre.cons n k (Vals.ints t)
theorem YL:∀{us:List aq}{ns:List Int},IntsAre us ns->Vals (ns.map V.int) us
 |_,_,.nil=>by rw[Dy];exact Paired.nil
 |_,_,.cons n t h=>by rw[jx];exact Paired.cons (show RelV (V.int n) (Value.int n t) from ⟨t,rfl⟩) (YL h)
theorem Vals.strs:∀{xs:List Str}{us:List aq},Vals (xs.map V.str) us->StrsAre us xs
 | [],us,h=>by
  rw[Dy]at h;cases h;exact StrsAre.nil
 |x::xs,us,h=>by
  rw[jx]at h;cases h with
  |cons r t=>
   obtain ⟨k,rfl⟩:=r;exact StrsAre.cons x k (Vals.strs t)
theorem Vals.jg:∀{bs:List Bool}{us:List aq},Vals (bs.map V.bl) us->us=bs.map Value.bool
 | [],us,h=>by
  rw[Dy]at h;cases h;rfl
 |b::bs,us,h=>by
  rw[jx]at h;cases h with
  |cons r t=>
   cases r;rw[Vals.jg t,jx]
theorem Vals.YM{a:Addr}{us:List aq}(r:Vals [V.ref a] us):us=[Value.ref a]:=by
 cases r with
 |cons r t=>
  cases t;cases r;rfl
section
variable{prog:eS}{w:eJ}{A:gc}{E:aq->a9->Prop}{s:a9}{l:Addr}{bD:List aq}{ns:List Int}{Q:aq->a9->Prop}
theorem alb(hh:A.handled=none)(hl:s.heap.IsList l bD.toArray)(hi:IntsAre bD ns)(h:∀h' tk t',(∀b o,s.heap.get? b=some o->h'.get? b=some o)->Q (.int ns.sum t') {s with heap:=h',toks:=tk}):bV (model prog w) A (call (.builtin "sum") [.ref l]) Q E s:=by
 obtain ⟨xs,e⟩:=hi.allInts.items;have hn:numsOf (intItems xs).toList=ns:=by rw[<-e];exact hi.numsOf
 rw[nums_intItems]at hn;rw[e]at hl;refine PySem.sum_intListG hh hl fun h' tk t' hk=>?_;have:=h h' tk t' hk;rw[preSum_eq,VX (by simp),hn];exact this
end
section
variable{X:Cx}
def alc(K:cB):List V->Hp->VK->Prop:=fun vs H Q=>∃(a:Addr)(ns:List Int),vs=[V.ref a]/\aD K H a (ns.map V.int)/\Q (.int ns.sum) H
theorem YN(hc:X.calm=true):Ap X (.builtin "sum") (alc X.K):=by
 intro pins s σ H vs us Q I r h;obtain ⟨a,ns,rfl,hs,q⟩:=h;obtain ⟨bD,rv,hl,_⟩:=I.list hs;rw[Vals.YM r];exact alb (I.ok.hd hc) hl.isList rv.ints fun h' tk t' hk=>⟨.int _,H,I.kept hk,⟨_,rfl⟩,q⟩
theorem ald{n:Nat}(h:n<64):n<=cJ:=by rw[eE];omega
end
section
variable{X:Cx}
end
section
variable{X:Cx}
end
theorem ale{prog:eS}{w:eJ}{A:gc}{E:aq->a9->Prop}{s:a9}{l:Addr}{items:Array aq}{Q:aq->a9->Prop}(hl:s.heap.IsList l items)(h:∀pE:a9,pE={s with heap:=s.heap.push {cls:=.type "list_iterator",data:=.fields #[.ref l,.int 0 0]}}->
   (pE.heap.IsListIter s.heap.objs.size l 0/\pE.heap.IsList l items)->l≠s.heap.objs.size->Q (.ref s.heap.objs.size) pE):bV (model prog w) A (pyIter (.ref l)) Q E s:=by
 have eU:l<s.heap.objs.size:=by obtain ⟨_,e,_⟩:=hl;exact iK e
 exact FR hl (h _ rfl ⟨⟨_,lV _ rfl,rfl,rfl⟩,hl.push _⟩ (kg eU))
theorem alf{prog:eS}{w:eJ}{A:gc}{bs:List Bool}{bD:List aq}(e:bD=bs.map Value.bool):
  TruthOf prog w A (fun i v=>bD.toArray[i]? =some v) (fun i=>bs.getD i false):=fun i v s Q E hv hq=>by
 have Kp:bD[i]? =some v:=by simpa using hv
 rw[e,gp]at Kp;obtain ⟨b,hb,rfl⟩:=VY.mp Kp;have hg:bs.getD i false=b:=by rw[lT,hb]<;>rfl
 have tH:Q (bs.getD i false) s:=hq;rw[hg]at tH;exact BA tH
theorem all_range:∀bs:List Bool,(jO bs.length).all (fun i=>bs.getD i false)=bs.all id
 | []=>rfl
 |b::bs=>by
  rw[iz,List.range_succ_eq_map,zN,VZ,zN,<-all_range bs]
  all_goals rfl
section
variable{X:Cx}
def alg(K:cB):List V->Hp->VK->Prop:=fun vs H Q=>∃(a:Addr)(bs:List Bool),vs=[V.ref a]/\aD K H a (bs.map V.bl)/\Q (.bl (bs.all id)) H
theorem alh(hc:X.calm=true):Ap X (.builtin "all") (alg X.K):=by
 intro pins s σ H vs us Q I r h;obtain ⟨a,bs,rfl,hs,q⟩:=h;obtain ⟨bD,rv,hl,_⟩:=I.list hs;rw[Vals.YM r];have hb:=rv.jg;refine call_all_walk (ale hl.isList fun pE e2 st md=>?_);subst e2;refine ⟨_,_,_,_,_,_,_,rfl,NZ (A:=X.A.in1) (I.ok.hd hc) _ a md bD.toArray,st,alf hb,fun h' tk hk=>?_⟩;refine ⟨.bl _,H,I.kept fun b o eo=>hk b o (fun Cc=>?_) (gF _ eo),?_,q⟩
 .rcases f6.mp Cc with e1|Cc
  .exact absurd (e1▸iK eo) (w9 _)
  .cases Cc
 .show Value.bool _=Value.bool _;rw[<-all_range,hb,i9,bt]
end
mutual
inductive Dp(K:cB)(H:Hp):V->PyData->Prop
 |eM:Dp K H .eM .none
 |bl (b:Bool):Dp K H (.bl b) (.bool b)
 |int (i:Int):Dp K H (.int i) (.int i)
 |str (x:Str):Dp K H (.str x) (.str x)
 |lst {a:Addr} {xs:List V} {ds:List PyData}:aD K H a xs->Ed K H xs ds->Dp K H (.ref a) (.list ds)
 |tup {a:Addr} {xs:List V} {ds:List PyData}:kj K H a xs->Ed K H xs ds->Dp K H (.ref a) (.tuple ds)
inductive Ed(K:cB)(H:Hp):List V->List PyData->Prop
 |nil:Ed K H [] []
 |cons {v:V} {vs:List V} {d:PyData} {ds:List PyData}:Dp K H v d->Ed K H vs ds->Ed K H (v::vs) (d::ds)
end
section
variable{X:Cx}{pins:List (Addr×Obj)}{σ:St}{H:Hp}{s:a9}
mutual
theorem Dp.reads(I:Inv X pins σ H s):∀(d:PyData)(v:V)(u:aq),Dp X.K H v d->RelV v u->∃as,Reads s.heap u d as
 | .none,_,_,h,r=>by
  cases h;cases r;exact ⟨_,Reads.none⟩
 | .bool b,_,_,h,r=>by
  cases h;cases r;exact ⟨_,Reads.bool b⟩
 | .int i,_,_,h,r=>by
  cases h;obtain ⟨t,rfl⟩:=r;exact ⟨_,Reads.int i t⟩
 | .str x,_,_,h,r=>by
  cases h;obtain ⟨t,rfl⟩:=r;exact ⟨_,Reads.str x t⟩
 | .list ds,_,_,h,r=>by
  cases h with
  |lst hs ha=>
   cases r;obtain ⟨bD,rv,⟨o,n,ho,hc,_,hd⟩,_⟩:=I.list hs;obtain ⟨as,hr⟩:=Dp.readsAll I ds _ bD ha rv;exact ⟨_,Reads.list ho hc hd hr⟩
 | .tuple ds,_,_,h,r=>by
  cases h with
  |tup hs ha=>
   cases r;obtain ⟨bD,rv,⟨o,ho,hc,n,hd⟩,_⟩:=I.tuple hs;obtain ⟨as,hr⟩:=Dp.readsAll I ds _ bD ha rv;exact ⟨_,Reads.tuple ho hc hd hr⟩
 | .dict _,_,_,h,_=>by cases h
theorem Dp.readsAll(I:Inv X pins σ H s):∀(ds:List PyData)(vs:List V)(us:List aq),Ed X.K H vs ds->Vals vs us->∃as,ReadsAll s.heap us ds as
 | [],_,_,h,r=>by
  cases h;cases r;exact ⟨_,ReadsAll.nil⟩
 |d::ds,_,_,h,r=>by
  cases h with
  |cons U h2=>
   cases r with
   |cons r1 r2=>
    obtain ⟨as,q1⟩:=Dp.reads I d _ _ U r1;obtain ⟨bs,q2⟩:=Dp.readsAll I ds _ _ h2 r2;exact ⟨_,ReadsAll.cons q1 q2⟩
end
end
section
variable{X:Cx}
end
abbrev YO(h:Heap)(c:Addr)(v:Option aq):Prop:=h.IsCell c v
def ali(scope sc:jP):jP:=
 {scope with names:=scope.names.map fun (n,k)=>if (k==.free&&sc.kind==.function&&sc.names.lookup n==some .cell) then (n,.cell) else (n,k)}
def oG(cells:List (Str×Addr)):List (Str×rV)->List (Str×Addr)->List (Str×Addr)
 | [],acc=>acc
 | (n,k)::r,acc=>if k==.free then oG cells r ((n,(cells.lookup n).getD 0)::acc) else oG cells r acc
theorem YQ(env:Env)(f:Str×rV->List (Str×Addr)->Sem (ForInStep (List (Str×Addr))))(hf:∀n k c,f (n,k) c=if k==.free then (do let a <-cellOf env n;pure (.yield ((n,a)::c))) else pure (.yield c)):
  ∀(names:List (Str×rV))(acc:List (Str×Addr)),(∀y∈names,y.2=.free->∃c,env.cells.lookup y.1=some c)->forIn names acc f=pure (oG env.cells names acc)
 | [],acc,_=>by rw[N0];rfl
 | (n,k)::r,acc,h=>by
  rw[V0,hf];have ih:=fun acc=>YQ env f hf r acc fun y hy=>h y (lU _ hy);unfold oG;by_cases hk:(k==NameKind.free)=true
  .rw[if_pos hk,if_pos hk];obtain ⟨c,hc⟩:=h (n,k) m4 (by simpa using hk);have e:cellOf env n=pure c:=by unfold cellOf;rw[hc]
   rw[e];have e2:(env.cells.lookup n).getD 0=c:=by rw[hc];rfl
   rw[e2];exact ih _
  .rw[if_neg hk,if_neg hk];exact ih _
theorem alj{scope:jP}{env:Env}(h:∀y∈scope.names,y.2=.free->∃c,env.cells.lookup y.1=some c):closureFor scope env=pure (oG env.cells scope.names []):=by
 simp only[closureFor];rw[YQ env _ (fun n k c=>rfl) scope.names [] h];rfl
theorem mem_lookup{α:Type}:∀{l:List (Str×α)}{n:Str}{c:α},(n,c)∈l->∃c',l.lookup n=some c'
 | (k,v)::r,n,c,h=>by
  rw[DA];cases hb:n==k with
  |true=>exact ⟨_,rfl⟩
  |false=>
   rcases f6.mp h with e|h
   .cases e;simp at hb
   .exact mem_lookup h
theorem Ky{cells:List (Str×Addr)}:∀{names:List (Str×rV)}{acc:List (Str×Addr)}{n:Str}{c:Addr},(n,c)∈oG cells names acc->(n,c)∈acc∨((n,.free)∈names/\c=(cells.lookup n).getD 0)
 | [],_,_,_,h=>.inl h
 | (m,k)::r,acc,n,c,h=>by
  unfold oG at h
  split at h
  .rename_i hk;have hk:k=.free:=by simpa using hk
   rcases Ky h with h|⟨U,h2⟩
   .rcases f6.mp h with e|h
    .cases e;exact .inr ⟨hk▸m4,rfl⟩
    .exact .inl h
   .exact .inr ⟨lU _ U,h2⟩
  .rcases Ky h with h|⟨U,h2⟩
   .exact .inl h
   .exact .inr ⟨lU _ U,h2⟩
theorem Pw{cells:List (Str×Addr)}:∀{names:List (Str×rV)}{acc:List (Str×Addr)}{p:Str×Addr},p∈acc->p∈oG cells names acc
 | [],_,_,h=>h
 | (m,k)::r,acc,p,h=>by
  unfold oG
  split
  .exact Pw (lU _ h)
  .exact Pw h
theorem Px{cells:List (Str×Addr)}:∀{names:List (Str×rV)}{acc:List (Str×Addr)}{n:Str},(n,.free)∈names->(n,(cells.lookup n).getD 0)∈oG cells names acc
 | (m,k)::r,acc,n,h=>by
  unfold oG;rcases f6.mp h with e|h
  .cases e;exact Pw m4
  .split
   .exact Px h
   .exact Px h
theorem GV:∀{names:List (Str×rV)}{h:Heap}{acc:List (Str×Addr)}{x:Str}{c:Addr},(x,c)∈cellsFrom h.objs.size names acc->
  (x,c)∈acc∨((x,.cell)∈names/\h.objs.size<=c/\YO (pushCells h names) c none)
 | [],_,_,_,_,h=>.inl h
 | (n,k)::r,h,acc,x,c,hm=>by
  unfold cellsFrom at hm;unfold pushCells
  split at hm
  .rename_i hk;rw[if_pos hk];have hk:k=.cell:=by simpa using hk
   rw[<-p7 h {cls:=.type "cell",data:=.cell none}]at hm;rcases GV hm with hm|⟨U,h2,h3⟩
   .rcases f6.mp hm with e|hm
    .cases e;exact .inr ⟨hk▸m4,dR _,_,N1 r _ _ _ (lV _ rfl),rfl⟩
    .exact .inl hm
   .rw[p7]at h2;exact .inr ⟨lU _ U,N2 h2,h3⟩
  .rename_i hk;rw[if_neg hk];rcases GV hm with hm|⟨U,h2,h3⟩
   .exact .inl hm
   .exact .inr ⟨lU _ U,h2,h3⟩
theorem Kz:∀{names:List (Str×rV)}{n:Nat}{acc:List (Str×Addr)}{p:Str×Addr},p∈acc->p∈cellsFrom n names acc
 | [],_,_,_,h=>h
 | (m,k)::r,n,acc,p,h=>by
  unfold cellsFrom
  split
  .exact Kz (lU _ h)
  .exact Kz h
theorem Py:∀{names:List (Str×rV)}{n:Nat}{acc:List (Str×Addr)}{x:Str},(x,.cell)∈names->∃c,(x,c)∈cellsFrom n names acc
 | (m,k)::r,n,acc,x,h=>by
  unfold cellsFrom;rcases f6.mp h with e|h
  .cases e;exact ⟨n,Kz m4⟩
  .split
   .exact Py h
   .exact Py h
theorem Pz:∀{names:List (Str×rV)}{h:Heap}{acc:List (Str×Addr)}{x y:Str}{c:Addr},(∀p∈acc,p.2<h.objs.size)->(∀x y c,(x,c)∈acc->(y,c)∈acc->x=y)->
  (x,c)∈cellsFrom h.objs.size names acc->(y,c)∈cellsFrom h.objs.size names acc->x=y
 | [],_,_,_,_,_,_,hi,U,h2=>hi _ _ _ U h2
 | (n,k)::r,h,acc,x,y,c,hl,hi,U,h2=>by
  unfold cellsFrom at U h2
  split at U
  .rename_i hk;rw[if_pos hk]at h2;rw[<-p7 h {cls:=.type "cell",data:=.cell none}]at U h2;refine Pz (h:=h.push _) (fun p hp=>?_) (fun x y c a b=>?_) U h2
   .rw[p7];rcases f6.mp hp with rfl|hp
    .exact FT _
    .exact N3 (hl p hp)
   .rcases f6.mp a with e|a<;>rcases f6.mp b with e'|b
    .cases e;cases e';rfl
    .cases e;exact absurd (hl _ b) (w9 _)
    .cases e';exact absurd (hl _ a) (w9 _)
    .exact hi _ _ _ a b
  .rename_i hk;rw[if_neg hk]at h2;exact Pz hl hi U h2
theorem alk{M:Model}{A:gc}{E:aq->a9->Prop}{s:a9}{scope:jP}{globals:Addr}{closure:List (Str×Addr)}{qual:Str}{func:Option Addr}{code:aq}{around:Env}{builtins:Addr}{Q:Env->a9->Prop}(h:Q (newEnv scope s.heap.objs.size globals (cellsFrom (s.heap.objs.size+1) scope.names closure) qual func code (some around) builtins)
   {s with heap:=pushCells (s.heap.push {cls:=.type "dict",data:=.dict #[]}) scope.names}):
  bV M A (newFunctionEnv scope globals closure [] qual func code (some around) builtins) Q E s:=by
 simp only[newFunctionEnv,ahj,if_true];refine cE (wpAny_alloc ?_);refine cE (wpAny_layCells _ (fun n k c=>rfl) scope.names closure _ _ ?_);rw[show ({s with heap:=s.heap.push {cls:=.type "dict",data:=.dict #[]}}:a9).heap.objs.size=s.heap.objs.size+1 from p7 ..];rw[N0];exact cE (ij (ij h))
theorem PB{sc:jP}:∀{names:List (Str×rV)}{x:Str}{k:rV},
  (names.map fun (n,k)=>if (k==NameKind.free&&sc.kind==.function&&sc.names.lookup n==some .cell) then (n,NameKind.cell) else (n,k)).lookup x=some k->
  ∃k',names.lookup x=some k'/\(k=k'∨(k'=.free/\k=.cell))
 | [],_,_,h=>by simp at h
 | (n,GW)::r,x,k,h=>by
  have ih:=@PB sc r x k;have h':List.lookup x ((if (GW==NameKind.free&&sc.kind==.function&&sc.names.lookup n==some .cell)=true then (n,NameKind.cell) else (n,GW))::(r.map _))=some k:=h;cases hx:x==n with
  |true=>
   simp only[DA,hx];by_cases hc:(GW==NameKind.free&&sc.kind==.function&&sc.names.lookup n==some .cell)=true
   .rw[if_pos hc]at h';simp only[DA,hx]at h';cases h';simp only[jN,beq_iff_eq]at hc;exact ⟨GW,rfl,.inr ⟨hc.1.1,rfl⟩⟩
   .rw[if_neg hc]at h';simp only[DA,hx]at h';cases h';exact ⟨_,rfl,.inl rfl⟩
  |false=>
   simp only[DA,hx];by_cases hc:(GW==NameKind.free&&sc.kind==.function&&sc.names.lookup n==some .cell)=true
   .rw[if_pos hc]at h';simp only[DA,hx]at h';exact ih h'
   .rw[if_neg hc]at h';simp only[DA,hx]at h';exact ih h'
structure GX(N:List Str)(sc scope:jP)(own:List (Str×Nat)):Prop where
 kind:scope.kind=.function
 uniq:∀y∈scope.names,scope.names.lookup y.1=some y.2
 ix:∀p∈own,N[p.2]? =some p.1
 free:∀y∈scope.names,y.2=.free->sc.names.lookup y.1=some .cell∨sc.names.lookup y.1=some .free
 own:∀y∈scope.names,y.2=.local∨y.2=.cell->y.1∈own.map (·.1)∨y.1∉N
def wipe(σ:St):List Nat->St
 | []=>σ
 |v::vs=>(wipe σ vs).set v none
theorem PD(σ:St):∀vs:List Nat,(wipe σ vs).length=σ.length
 | []=>rfl
 |v::vs=>by unfold wipe;rw[yn,PD σ vs]
theorem PF{σ:St}{i:Nat}{x:V}:∀{vs:List Nat},(wipe σ vs)[i]? =some (some x)->σ[i]? =some (some x)/\i∉vs
 | [],h=>⟨h,by simp⟩
 |v::vs,h=>by
  unfold wipe at h;by_cases hi:v=i
  .subst hi;by_cases hv:v<(wipe σ vs).length
   .rw[Jn hv]at h;cases h
   .rw[FO (by simpa using hv)]at h;cases h
  .rw[Jo hi]at h;obtain ⟨U,h2⟩:=PF h;exact ⟨U,by simp only[f6,not_or];exact ⟨fun e=>hi e.symm,h2⟩⟩
abbrev Cx.pI(X:Cx)(s:a9)(H:Hp)(scope:jP)(kY:Env)(fp:List Addr):Cx:={X with kG:=s,vS:=H,env:=kY,outer:=X.stack,ex:=fp,fn:=fun x=>scope.names.lookup x==some .cell,pn:=[],xe:=fun _ _=>False}
section
variable{X:Cx}{pins:List (Addr×Obj)}{σ:St}{H:Hp}{s:a9}
theorem alm{scope:jP}{own:List (Str×Nat)}{fp:List Addr}(I:Inv X pins σ H s)(ok:GX X.N X.env.scope scope own)(hN:X.N.Nodup)(Ee:∀b∈fp,vb X pins H b/\b<s.heap.objs.size):
  Inv (X.pI s H scope (compEnvC scope (cellsFrom (s.heap.objs.size+1) scope.names (oG X.env.cells scope.names [])) s.heap.objs.size X.env) fp) [] (wipe σ (own.map (·.2))) H {s with heap:=pushCells (s.heap.push {cls:=.type "dict",data:=.dict #[]}) scope.names}:=by
 have DU:∀y∈scope.names,y.2=.free->∃c,X.env.cells.lookup y.1=some c:=fun y hy e=>by
  rcases ok.free y hy e with k|k
  .exact I.ok.has _ (.inl k)
  .exact I.ok.has _ (.inr k)
 generalize GY:compEnvC scope (cellsFrom (s.heap.objs.size+1) scope.names (oG X.env.cells scope.names [])) s.heap.objs.size X.env=kY;have kp:∀b o,s.heap.get? b=some o->(pushCells (s.heap.push {cls:=.type "dict",data:=.dict #[]}) scope.names).get? b=some o:=fun b o e=>N1 _ _ _ _ (gF _ e);have hL:kY.locals=s.heap.objs.size:=by rw[<-GY];rfl
 have mG:kY.cells=cellsFrom (s.heap.objs.size+1) scope.names (oG X.env.cells scope.names []):=by rw[<-GY];rfl
 have PH:kY.scope=ali scope X.env.scope:=by rw[<-GY];rfl
 rw[<-p7 s.heap {cls:=.type "dict",data:=.dict #[]}]at mG;have cm:∀{y c},(y,c)∈oG X.env.cells scope.names []->X.env.cells.lookup y=some c/\c<s.heap.objs.size:=fun {y c} hm=>by
  rcases Ky hm with hm|⟨U,rfl⟩
  .cases hm
  .obtain ⟨c,hc⟩:=DU _ U rfl;rw[hc];obtain ⟨w,z⟩:=I.cell _ _ hc;exact ⟨rfl,z.lt⟩
 have mem:∀{y c},kY.cells.lookup y=some c->(X.env.cells.lookup y=some c/\c<s.heap.objs.size)∨(s.heap.objs.size+1<=c/\YO (pushCells (s.heap.push {cls:=.type "dict",data:=.dict #[]}) scope.names) c none):=fun {y c} e=>by
  rw[mG]at e;rcases GV (oW e) with hm|⟨_,h2,h3⟩
  .exact .inl (cm hm)
  .rw[p7]at h2;exact .inr ⟨h2,h3⟩
 have look:∀{y},scope.names.lookup y=some .free->∃c,kY.cells.lookup y=some c/\X.env.cells.lookup y=some c:=fun {y} hl=>by
  have hy:(y,NameKind.free)∈scope.names:=oW hl;obtain ⟨c',e'⟩:=mem_lookup (Kz (names:=scope.names) (n:=(s.heap.push {cls:=.type "dict",data:=.dict #[]}).objs.size) (Px (cells:=X.env.cells) (acc:=[]) hy));rw[<-mG]at e';refine ⟨c',e',?_⟩;rw[mG]at e';rcases GV (oW e') with hm|⟨U,_,_⟩
  .exact (cm hm).1
  .have:=ok.uniq _ U;rw[hl]at this;cases this
 have okB:(X.pI s H scope kY fp).Ok:=by
  refine ⟨I.ok.mod,by show kY.scope.kind=_;rw[PH];exact ok.kind,by show kY.globals=_;rw[<-GY];exact I.ok.glob,by show kY.builtins=_;rw[<-GY];exact I.ok.blt,by show s.heap.objs.size<=kY.locals;rw[hL];exact dR _,
   fun y z c e1 e2=>?_,fun y hy=>?_,fun y c z e=>?_,I.ok.hd,I.ok.frames,.inl rfl,fun b hb=>⟨?_,fun y c e z=>?_⟩,I.bs,gN I.ok.um I.sz,fun b o e hb=>?_,fun b hb z=>?_,I.stack,I.Gh⟩
  .have e1:kY.cells.lookup y=some c:=e1;have e2:kY.cells.lookup z=some c:=e2;rw[mG]at e1 e2;refine Pz (fun p hp=>?_) (fun y z c a b=>I.ok.inj y z c (cm a).1 (cm b).1) (oW e1) (oW e2);rw[p7];exact N3 (cm (y:=p.1) (c:=p.2) hp).2
  .show ∃c,kY.cells.lookup y=some c;have key:∀k,kY.kindOf y=some k->(k=.cell∨k=.free)->∃c,kY.cells.lookup y=some c:=fun k hk pJ=>by
    unfold Env.kindOf at hk;rw[PH]at hk;obtain ⟨k',e,r⟩:=PB hk;have:k'=.cell∨k'=.free:=by
     rcases r with rfl|⟨rfl,_⟩
     .exact pJ
     .exact .inr rfl
    rcases this with rfl|rfl
    .obtain ⟨c,hm⟩:=Py (n:=(s.heap.push {cls:=.type "dict",data:=.dict #[]}).objs.size) (acc:=oG X.env.cells scope.names []) (oW e);obtain ⟨c',e'⟩:=mem_lookup hm;exact ⟨c',by rw[mG];exact e'⟩
    .obtain ⟨c,U,_⟩:=look e;exact ⟨c,U⟩
   rcases hy with hy|hy
   .exact key _ hy (.inl rfl)
   .exact key _ hy (.inr rfl)
  .have z:(scope.names.lookup y==some NameKind.cell)=true:=z;have z:scope.names.lookup y=some .cell:=by simpa using z
   have e:kY.cells.lookup y=some c:=e;rw[mG]at e;rcases GV (oW e) with hm|⟨_,h2,_⟩
   .rcases Ky hm with hm|⟨U,_⟩
    .cases hm
    .have q:=ok.uniq _ U;rw[z]at q;cases q
   .rw[p7]at h2;exact N2 h2
  .show b≠kY.locals;rw[hL];exact kg (Ee b hb).2
  .have e:kY.cells.lookup y=some c:=e;rcases mem e with ⟨U,_⟩|⟨U,_⟩
   .exact (Ee b hb).1.2.2.2.2.1 y c U z
   .have h2:s.heap.objs.size+1<=b:=by rw[<-z];exact U
    exact absurd (pA (Ee b hb).2 (N2 h2)) (w9 _)
  .rcases (Ee b hb).1.2.2.2.1 with z|z
   .exact I.ok.DS b o e z
   .exact absurd (pA (iK e) (gN I.ok.um z)) (w9 _)
  .rcases f6.mp (I.OU b z) with z|z
   .exact (Ee b hb).1.2.1 z
   .exact (Ee b hb).1.2.2.1 z
 refine ⟨okB,rfl,I.bare,Un.kept kp,⟨fun _=>none,?_,fun i y av e1 e2 e3=>?_⟩,fun y c e=>?_,?_,fun y c e=>?_,fun p hp=>?_,I.bS.kept kp,by rw[PD];exact I.len⟩
 .show Heap.Ns _ kY.locals _;rw[hL];exact Heap.Ns.keeps (Heap.Ns.new ..) fun b o e=>N1 _ _ _ _ e
 .obtain ⟨e2,md⟩:=PF e2;have vf:scope.names.lookup y=some .free/\(kY.kindOf y=some .cell∨kY.kindOf y=some .free):=by
   have key:∀k,kY.scope.names.lookup y=some k->k=.local∨k=.cell∨k=.free->scope.names.lookup y=some .free/\(kY.kindOf y=some .cell∨kY.kindOf y=some .free):=fun k hk pJ=>by
    have Ef:=hk;rw[PH]at hk;obtain ⟨k',e,r⟩:=PB hk;have no:¬(k'=.local∨k'=.cell):=fun hh=>by
     rcases ok.own _ (oW e) hh with e'|e'
     .obtain ⟨p,hp,hpy⟩:=js.mp e';have e3:=ok.ix p hp;have:p.1=y:=hpy;rw[this]at e3;exact md (js.mpr ⟨p,hp,OV hN e3 e1⟩)
     .exact e' (iy e1)
    rcases r with rfl|⟨rfl,rfl⟩
    .rcases pJ with rfl|rfl|rfl
     .exact absurd (.inl rfl) no
     .exact absurd (.inr rfl) no
     .exact ⟨e,.inr Ef⟩
    .exact ⟨e,.inl Ef⟩
   have e3:BR kY.scope y:=e3;rcases e3 with e3|e3|e3
   .exact key _ e3 (.inl rfl)
   .exact key _ e3 (.inr (.inl rfl))
   .exact key _ e3 (.inr (.inr rfl))
  obtain ⟨m,hn,hl⟩:=I.loc;have alq:BR X.env.scope y:=(ok.free _ (oW vf.1) rfl).elim (fun k=>.inr (.inl k)) (fun k=>.inr (.inr k));obtain ⟨w,r,q⟩:=hl i y av e1 e2 alq;refine ⟨w,r,.inr ⟨vf.2,?_⟩⟩;obtain ⟨c,U,h2⟩:=look vf.1;rcases q with ⟨k,_⟩|⟨_,c',e',z⟩
  .have k:X.env.scope.names.lookup y=some .local:=k;rcases ok.free _ (oW vf.1) rfl with k'|k'<;>rw[show X.env.scope.names.lookup y=_ from k']at k<;>cases k
  .rw[h2]at e';cases e';exact ⟨c,U,z.keeps kp⟩
 .have e:kY.cells.lookup y=some c:=e;rcases mem e with ⟨U,_⟩|⟨_,z⟩
  .obtain ⟨w,z⟩:=I.cell y c U;exact ⟨w,z.keeps kp⟩
  .exact ⟨_,z⟩
 .show H kY.locals=none;rw[hL];exact I.bS.fresh (dR _)
 .have e:kY.cells.lookup y=some c:=e;rcases mem e with ⟨U,_⟩|⟨U,_⟩
  .exact I.qe y c U
  .exact I.bS.fresh (N2 U)
 .exact absurd (show p∈([]:List (Addr×Obj))++[] from hp) (by simp)
theorem alr{E:aq->a9->Prop}{D:Addr}{xs:List V}{y:V}{v:aq}{Q:aq->a9->Prop}(I:Inv X pins σ H s)(hD:H D=some (.lst xs))(hz:xs.length<cJ)(r:RelV y v)(h:∀s',Inv X pins σ (upd H D (.lst (xs++[y]))) s'->Q .none s'):bV (model X.prog X.w) X.A (call (.builtin "list.append") [.ref D,v]) Q E s:=by
 obtain ⟨YR,bD,n,ri,e⟩:=I.bS D _ hD;have hl:=ri.length;refine append_at (hsz:=by rw[i9];omega) e fun h' sb p8=>?_;refine h {s with heap:=h'} (I.write (t':=s.toks) (by rw[hD];trivial) (.inl rfl) (fun b u hb q=>(sb.2 b hb).trans q) ⟨_,p8⟩ ⟨by rw[gR];exact hz,bD++[v],n+1,ri.append (.cons r .nil),?_⟩);rw[p8];simp
def GZ(X:Cx)(ifs:List Expr)(t:TT):Prop:=
 ∀(pins:List (Addr×Obj))(s:a9)(σ:St)(H:Hp)(Q:Bool->Hp->Prop),Inv X pins σ H s->t σ H Q->
  bV (model X.prog X.w) X.A (forIn ifs true fun c r=>if r=true then do let ok <-isTrue c X.env (eval c X.env);pure (ForInStep.yield ok) else pure (ForInStep.yield r)) (TP X pins σ Q) X.xe s
def als:TT:=fun _ H Q=>Q true H
theorem AB:GZ X [] als:=fun _ _ _ H _ I h=>wpAny_tests_nil ⟨H,I,h⟩
theorem Cd{c:Expr}{t:TT}(h:PT X c t):GZ X [c] t:=fun pins s σ H Q I hw=>wpAny_tests_one (h pins s σ H Q I hw)
end
theorem Eg{α:Type}{t:Sem α}{Q Q':α->a9->Prop}{M:Model}{A:gc}{E:aq->a9->Prop}{s:a9}(h:bV M A t Q (fun _ _=>False) s)(hQ:∀a s,Q a s->Q' a s):bV M A t Q' E s:=ou h hQ fun _ _ z=>False.elim z
theorem alu{prog:eS}{w:eJ}{A:gc}{R:Result->a9->Prop}{s:a9}{elt target iter:Expr}{ifs:List Expr}{scope:jP}{pos:Pos}{it acc:aq}{env:Env}(I:Nat->a9->Prop)(turn:∀n s,I n s->bV (model prog w) A (pyNext it) (fun r gO=>match r with
   |none=>R (.ok .next) gO
   |some v=>bV (model prog w) A (letOwnedTupleGo target it v) (fun _ YS=>bV (model prog w) A (assign target env v) (fun _ pE=>
     bV (model prog w) A (forIn ifs true fun c r=>if r=true then do let ok <-isTrue c env (eval c env);pure (ForInStep.yield ok) else pure (ForInStep.yield r)) (fun ok Al=>
      if ok=true then bV (model prog w) A (eval elt env) (fun x YT=>
       bV (model prog w) A (call (.builtin "list.append") [acc,x]) (fun _ YU=>∃m,m<n/\I m YU) (notedBy (model prog w) A env fun e s'=>R (.error e) s') YT) (notedBy (model prog w) A env fun e s'=>R (.error e) s') Al
      else ∃m,m<n/\I m Al) (notedBy (model prog w) A env fun e s'=>R (.error e) s') pE) (notedBy (model prog w) A env fun e s'=>R (.error e) s') YS) (notedBy (model prog w) A env fun e s'=>R (.error e) s') gO) (notedBy (model prog w) A env fun e s'=>R (.error e) s') s)(n:Nat)(h:I n s):
  codeAny (model prog w) A (.compLoop (.ListComp elt [⟨target,iter,ifs,0⟩] scope pos) 0 it acc env) R s:=by
 refine codeAny_loop rfl I (fun n s hI=>?_) n h;show bV _ A ((compTurn (.ListComp elt [⟨target,iter,ifs,0⟩] scope pos) 0 it acc env).onRaise (fun x=>do noteFrame x env;theTreesLotGoes x)) _ _ s;refine wpAny_noted ?_;rw[compTurn_list];refine cE (VM (cE (ou (turn n s hI) (fun r gO AD=>?_) fun _ _ h'=>h')));cases r with
 |none=>exact ij AD
 |some v=>
  refine cE (ou AD (fun _ YS alw=>?_) fun _ _ h'=>h');refine cE (ou alw (fun _ pE G0=>cE (ou G0 (fun ok Al KA=>?_) fun _ _ h'=>h')) fun _ _ h'=>h');cases ok with
  |false=>exact ij ⟨rfl,KA⟩
  |true=>
   exact cE (cE (ou KA (fun x YT alx=>cE (ou alx (fun _ YU aly=>ij (ij ⟨rfl,aly⟩)) fun _ _ h'=>h')) fun _ _ h'=>h'))
section
variable{X:Cx}
def KC(wi:TI)(g:TG)(tt:TT)(te:TE)(vs:List Nat):TE:=fun σ H Q=>wi σ H fun J H1=>∀D,H1 D=none->∃W:Nat->Nat->Hp->Prop,(∃m,W 0 m (upd H1 D (.lst [])))/\∀i m H,W i m H->
 (J.stop i H/\Q (.ref D) H)∨(J.go i H/\∃Nx:Hp->Prop,(∀H',Nx H'->∃m',m'<m/\W (i+1) m' H')/\∀x H',J.wb i H x H'->g x (wipe σ vs) H' fun ib H2=>wipe ib vs=wipe σ vs/\tt ib H2 fun b H3=>
  if b=true then te ib H3 fun y H4=>∃acc,H4 D=some (.lst acc)/\acc.length<cJ/\Nx (upd H4 D (.lst (acc++[y]))) else Nx H3)
theorem YV{pins:List (Addr×Obj)}{s:a9}{σ:St}{H:Hp}{Q:VK}{elt tg iter:Expr}{ifs:List Expr}{scope:jP}{own:List (Str×Nat)}{pos pos':Pos}{wi:TI}{g:TG}{tt:TT}{te:TE}{use:Option (aq->Sem Unit)}{Qf:aq->a9->Prop}(hc:X.calm=true)(hN:X.N.Nodup)(I:Inv X pins σ H s)(hi:PI X tg iter wi)(ok:GX X.N X.env.scope scope own)(hg:∀(s:a9) (H:Hp) (C:Addr) (cl:List (Str×Addr)) (fp:List Addr),PG (X.pI s H scope (compEnvC scope cl C X.env) fp) tg g)(ht:∀(s:a9) (H:Hp) (C:Addr) (cl:List (Str×Addr)) (fp:List Addr),GZ (X.pI s H scope (compEnvC scope cl C X.env) fp) ifs tt)(he:∀(s:a9) (H:Hp) (C:Addr) (cl:List (Str×Addr)) (fp:List Addr),PE (X.pI s H scope (compEnvC scope cl C X.env) fp) elt te)(hs:∀x,foldedSetIterable iter X.env x=pure x)(h:KC wi g tt te (own.map (·.2)) σ H Q)(hRR:∀D C s' m H',Inv X pins σ H' s'->Q (.ref D) H'->s'.heap.Ns C m->vb X pins H' C->compPost (model X.prog X.w) X.A X.xe use Qf (.ref D) C (.ok .next) s'):
  bV (model X.prog X.w) X.A (comprehension (.ListComp elt [⟨tg,iter,ifs,0⟩] scope pos) scope X.env pos' (newList []) false (eval iter X.env) use) Qf X.xe s:=by
 have DU:∀y∈scope.names,y.2=.free->∃c,X.env.cells.lookup y.1=some c:=fun y hy e=>by
  rcases ok.free y hy e with k|k
  .exact I.ok.has _ (.inl k)
  .exact I.ok.has _ (.inr k)
 refine wpAny_comprehension_free (use:=use) rfl hs (alj DU) ok.kind (fun y hy e=>by rw[ok.uniq y hy,e])
  (dt (hi pins s σ H _ I h) fun xv s1 hx=>dt hx fun O3 s2 h2=>?_)
 obtain ⟨it,fp,tn,J,H2,e,I2,T,Kf,f2,q⟩:=h2;subst e;refine wpAny_newObj_type (alk ?_) (by show 0<=cJ;decide);generalize hD:s2.heap.objs.size=D;have hDn:H2 D=none:=I2.bS.fresh (NV hD);obtain ⟨W,⟨m0,w0⟩,turn⟩:=q D hDn;generalize YW:({s2 with heap:=s2.heap.push {cls:=.type "list",data:=.seq ([]:List aq).toArray}}:a9)=s3;have I3:Inv X pins σ (upd H2 D (.lst [])) s3:=by
  rw[<-YW];refine I2.laid (t':=s2.toks) (fun b o e=>gF _ e) (NV hD) ⟨dU _,[],0,.nil,?_⟩;rw[<-hD];exact lV _ rfl
 have h3:s3.heap=s2.heap.push {cls:=.type "list",data:=.seq ([]:List aq).toArray}:=by rw[<-YW]
 have sz:∀b∈fp,b<s2.heap.objs.size:=fun b hb=>by
  obtain ⟨o,e,_⟩:=T.obj _ _ Kf b hb;exact iK e
 have f3:∀b∈fp,vb X pins (upd H2 D (.lst [])) b/\b<s3.heap.objs.size:=fun b hb=>by
  have eU:=sz b hb;refine ⟨⟨?_,(f2 b hb).2⟩,by rw[h3,p7];exact N3 eU⟩;rw[bC (by rw[<-hD];exact kg eU)];exact (f2 b hb).1
 have Kg:tn 0 s3.heap:=T.keep _ _ _ Kf fun b _ o e=>by rw[h3];exact gF _ e
 have I4:=alm I3 ok hN f3;have pg:=hg s3 (upd H2 D (.lst [])) s3.heap.objs.size (cellsFrom (s3.heap.objs.size+1) scope.names (oG X.env.cells scope.names [])) fp;have pt:=ht s3 (upd H2 D (.lst [])) s3.heap.objs.size (cellsFrom (s3.heap.objs.size+1) scope.names (oG X.env.cells scope.names [])) fp;have pe:=he s3 (upd H2 D (.lst [])) s3.heap.objs.size (cellsFrom (s3.heap.objs.size+1) scope.names (oG X.env.cells scope.names [])) fp;show codeAny _ _ (.compStart (.ListComp elt [⟨tg,iter,ifs,0⟩] scope pos) 0 (.ref it) (.ref D) (compEnvC scope (cellsFrom (s3.heap.objs.size+1) scope.names (oG X.env.cells scope.names [])) s3.heap.objs.size X.env)) (compPost (model X.prog X.w) X.A X.xe use Qf (.ref D) s3.heap.objs.size) {s3 with heap:=pushCells (s3.heap.push {cls:=.type "dict",data:=.dict #[]}) scope.names};have YX:∀b∈fp,(upd H2 D (.lst [])) b=none:=fun b hb=>(f3 b hb).1.1;generalize hce:compEnvC scope (cellsFrom (s3.heap.objs.size+1) scope.names (oG X.env.cells scope.names [])) s3.heap.objs.size X.env=ce at I4 pg pt pe ⊢;have cL:ce.locals=s3.heap.objs.size:=by subst hce;rfl
 generalize hH3:upd H2 D (.lst [])=H3 at I3 I4 pg pt pe w0 YX f3;generalize hs4:({s3 with heap:=pushCells (s3.heap.push {cls:=.type "dict",data:=.dict #[]}) scope.names}:a9)=s4 at I4 ⊢;have YZ:tn 0 s4.heap:=T.keep _ _ _ Kg fun b _ o e=>by rw[<-hs4];exact N1 _ _ _ _ (gF _ e)
 have B1:∀{cV:St}{H':Hp}{s':a9},Inv (X.pI s3 H3 scope ce fp) [] cV H' s'->(∀b∈fp,H' b=none)->∀b∈fp,vb (X.pI s3 H3 scope ce fp) [] H' b:=fun {cV H' s'} I' hn b hb=>
  ⟨hn b hb,(I'.ok.Gg b hb).1,I'.ok.DT b hb,.inl hb,fun x c e=>(I'.ok.Gg b hb).2 x c e,fun p hp=>absurd (show p∈([]:List (Addr×Obj))++[] from hp) (by simp)⟩
 have loop:codeAny (model X.prog X.w) X.A (.compLoop (.ListComp elt [⟨tg,iter,ifs,0⟩] scope pos) 0 (.ref it) (.ref D) ce) (compPost (model X.prog X.w) X.A X.xe use Qf (.ref D) s3.heap.objs.size) s4:=by
  refine alu (fun n s'=>∃i H',Inv (X.pI s3 H3 scope ce fp) [] (wipe σ (own.map (·.2))) H' s'/\tn i s'.heap/\(∀b∈fp,H' b=none)/\W i n H') ?_ m0 ⟨0,H3,I4,YZ,YX,w0⟩;rintro n s5 ⟨i,H5,I5,DZ,n5,w5⟩;rcases turn i n H5 w5 with ⟨stop,qq⟩|⟨go,Nx,hNx,step⟩
  .have td:=T.done (X.pI s3 H3 scope ce fp) rfl rfl rfl hc i [] s5 _ H5 (fun _ _=>False) I5 (B1 I5 n5) DZ stop;refine Eg td fun r s6 ⟨hr,I6⟩=>?_;subst hr;have I7:Inv X pins σ H5 s6:=I3.OX (ch:=fp) I6.os I6.base I6.bS I6.bare fun b hb=>⟨(f3 b hb).1.2.2.2.1,(f3 b hb).1.2.1,(f3 b hb).1.2.2.2.2.1,(f3 b hb).1.2.2.2.2.2⟩;have nC:H5 s3.heap.objs.size=none:=by
    have z:H5 ce.locals=none:=I6.free;rw[cL]at z;exact z
   obtain ⟨m,hn,_⟩:=I6.loc;have hn:s6.heap.Ns ce.locals m:=hn;rw[cL]at hn;exact hRR D s3.heap.objs.size s6 m H5 I7 qq hn (I3.DY (dR _) nC)
  .have ti:=T.item (X.pI s3 H3 scope ce fp) rfl rfl rfl hc i [] s5 _ H5 (fun _ _=>False) I5 (B1 I5 n5) DZ go;refine Eg ti fun r s6 ⟨u,hr,h6⟩=>?_;subst hr;refine Eg h6 fun _ s7 ⟨x,H7,I7,r7,y7,PJ,n7⟩=>?_;have I7':=I7.pinned (B1 I7 n7) (T.obj _ _ PJ);refine Eg (pg _ s7 _ H7 x u _ I7' r7 (step x H7 y7)) fun _ s8 ⟨KD,H8,I8,Y1,q8⟩=>?_;refine Eg (pt _ s8 KD H8 _ I8 q8) fun b s9 ⟨H9,I9,q9⟩=>?_;have fin:∀{s':a9}{H':Hp},Inv (X.pI s3 H3 scope ce fp) ([]++Gx fp s7.heap) KD H' s'->Nx H'->∃m,m<n/\∃i H',Inv (X.pI s3 H3 scope ce fp) [] (wipe σ (own.map (·.2))) H' s'/\tn i s'.heap/\(∀b∈fp,H' b=none)/\W i m H':=fun {s' H'} I' nx=>by
    obtain ⟨m',hm,w'⟩:=hNx H' nx;have Y3:∀b∈fp,∀o,s7.heap.get? b=some o->s'.heap.get? b=some o/\H' b=none:=fun b hb o e=>
     let z:=I'.pin (b,o) (uT _ (uT _ (O4 hb e)))
     ⟨z.1,z.2.1⟩
    have hl:(wipe σ (own.map (·.2))).length=KD.length:=by rw[<-Y1,PD]
    refine ⟨m',hm,i+1,H',(I'.Ke (pins:=[])).weak hl (fun j v e=>?_),T.keep _ _ _ PJ fun b hb o e=>(Y3 b hb o e).1,fun b hb=>?_,w'⟩
    .rw[<-Y1]at e;exact (PF e).1
    .obtain ⟨o,e,_⟩:=T.obj _ _ PJ b hb;exact (Y3 b hb o e).2
   cases b with
   |false=>
    simp only[V1,if_false]at q9 ⊢;exact fin I9 q9
   |true=>
    simp only[if_true]at q9 ⊢;refine Eg (pe _ s9 KD H9 _ I9 q9) fun z G2 ⟨yv,H10,I10,r10,acc,alM,alN,nx⟩=>?_;exact alr (X:=X.pI s3 H3 scope ce fp) I10 alM alN r10 fun s11 I11=>fin I11 nx
 exact codeAny_compStart_list loop (T.self X.A 0 _ _ _ YZ loop)
theorem wm{elt tg iter:Expr}{ifs:List Expr}{scope:jP}{own:List (Str×Nat)}{pos:Pos}{wi:TI}{g:TG}{tt:TT}{te:TE}(hc:X.calm=true)(hN:X.N.Nodup)(hi:PI X tg iter wi)(ok:GX X.N X.env.scope scope own)(hg:∀(s:a9) (H:Hp) (C:Addr) (cl:List (Str×Addr)) (fp:List Addr),PG (X.pI s H scope (compEnvC scope cl C X.env) fp) tg g)(ht:∀(s:a9) (H:Hp) (C:Addr) (cl:List (Str×Addr)) (fp:List Addr),GZ (X.pI s H scope (compEnvC scope cl C X.env) fp) ifs tt)(he:∀(s:a9) (H:Hp) (C:Addr) (cl:List (Str×Addr)) (fp:List Addr),PE (X.pI s H scope (compEnvC scope cl C X.env) fp) elt te)(hs:∀x,foldedSetIterable iter X.env x=pure x:=by intro _;rfl):
  PE X (.ListComp elt [⟨tg,iter,ifs,0⟩] scope pos) (KC wi g tt te (own.map (·.2))):=by
 intro pins s σ H Q I h;rw[eval_ListComp];refine YV hc hN I hi ok hg ht he hs h fun D C s' m H' I' q hn f=>⟨m,hn,fun si sb=>?_⟩;obtain ⟨f0,f1,f2,f3,f4,f5⟩:=f;exact ⟨.ref D,H',I'.turned (t':=s'.toks) (fun b o hb e=>(sb.2 b hb).trans e) f0 f1 f3 f4 f5,rfl,q⟩
theorem KH{i:Nat}{y:Str}{py:Pos}{elt tg iter:Expr}{ifs:List Expr}{scope:jP}{own:List (Str×Nat)}{pos Y4:Pos}{wi:TI}{g:TG}{tt:TT}{te:TE}(hc:X.calm=true)(hN:X.N.Nodup)(hy:X.N[i]? =some y)(Y5:X.env.scope.names.lookup y=some .local)(hsw:swapsWith (.ListComp elt [⟨tg,iter,ifs,0⟩] scope pos) (some (.Name y py)) Y4.line X.env=pure true)(hi:PI X tg iter wi)(ok:GX X.N X.env.scope scope own)(hg:∀(s:a9) (H:Hp) (C:Addr) (cl:List (Str×Addr)) (fp:List Addr),PG (X.pI s H scope (compEnvC scope cl C X.env) fp) tg g)(ht:∀(s:a9) (H:Hp) (C:Addr) (cl:List (Str×Addr)) (fp:List Addr),GZ (X.pI s H scope (compEnvC scope cl C X.env) fp) ifs tt)(he:∀(s:a9) (H:Hp) (C:Addr) (cl:List (Str×Addr)) (fp:List Addr),PE (X.pI s H scope (compEnvC scope cl C X.env) fp) elt te)(hs:∀x,foldedSetIterable iter X.env x=pure x:=by intro _;rfl):
  PS X (.Assign [.Name y py] (.ListComp elt [⟨tg,iter,ifs,0⟩] scope pos) Y4) (Gu (KC wi g tt te (own.map (·.2))) (Kc i)):=by
 intro pins s σ H D I h;rw[exec_Assign_Name_used _ _ _ _ hsw];refine cE (VM (cE ?_));show bV _ X.A (do let _ <-comprehension (.ListComp elt [⟨tg,iter,ifs,0⟩] scope pos) scope X.env (firstIterPos [⟨tg,iter,ifs,0⟩] pos) (newList []) false (eval iter X.env) (some (assign (.Name y py) X.env))) _ _ s;have h:KC wi g tt te (own.map (·.2)) σ H (fun x H1=>Kc i x σ H1 D.nx):=h;refine cE (dt (YV (Qf:=fun _ s'=>SP X pins D .next s') hc hN I hi ok hg ht he hs h fun L C s' m H' I' q hn f=>?_) fun _ s' hq=>ij (ij hq));show bV _ _ (assign (.Name y py) X.env (.ref L)) _ _ _;refine agQ (Xy (v:=V.ref L) I' hN hy (.inl Y5) rfl (fun s2 I2 ⟨a,sb,ha⟩=>?_) (.inr Y5));obtain ⟨f0,f1,f2,f3,f4,f5⟩:=f;have haC:C≠a:=by
  rcases ha with z|z
  .rw[z];exact f1
  .exact fun e=>f4 y a z e.symm
 refine ⟨m,hn.sameBut sb haC,fun h3 sb3=>?_⟩;exact ⟨_,H',I2.turned (t':=s2.toks) (fun b o hb e=>(sb3.2 b hb).trans e) f0 f1 f3 f4 f5,q⟩
theorem KI{elt:Expr}{gs:List Comprehension}{scope:jP}{pos py:Pos}{y:Str}{l:Nat}{env:Env}(hk:env.scope.kind=.function)(hy:env.scope.names.lookup y=some .local)(hl:(py.line==pos.line)=true)(ha:(scope.names.any fun (n,k)=>n==y&&(k==.local||k==.cell))=false):swapsWith (.ListComp elt gs scope pos) (some (.Name y py)) l env=pure true:=by
 have ky:env.kindOf y=some .local:=hy;have hb:env.blockKind=.function:=by unfold Env.blockKind;rw[hk];rfl
 unfold swapsWith;simp only[hb,ky,ha,Expr.pos,hl];rfl
end
theorem alS{lo:Int}{n:Nat}{g:TG}{tt:TT}{te:TE}{vs:List Nat}{σ:St}{H1:Hp}{D:Addr}{Qd:Hp->Prop}(Pv:Nat->Hp->Prop)(h0:Pv 0 (upd H1 D (.lst [])))(hs:∀i H,i<n->Pv i H->g (.int (lo+i)) (wipe σ vs) H fun ib H2=>wipe ib vs=wipe σ vs/\tt ib H2 fun b H3=>
   if b=true then te ib H3 fun y H4=>∃acc,H4 D=some (.lst acc)/\acc.length<cJ/\Pv (i+1) (upd H4 D (.lst (acc++[y]))) else Pv (i+1) H3)(hd:∀H,Pv n H->Qd H):
  ∃W:Nat->Nat->Hp->Prop,(∃m,W 0 m (upd H1 D (.lst [])))/\∀i m H,W i m H->
   ((yE lo n).stop i H/\Qd H)∨((yE lo n).go i H/\∃Nx:Hp->Prop,(∀H',Nx H'->∃m',m'<m/\W (i+1) m' H')/\∀x H',(yE lo n).wb i H x H'->g x (wipe σ vs) H' fun ib H2=>wipe ib vs=wipe σ vs/\tt ib H2 fun b H3=>
    if b=true then te ib H3 fun y H4=>∃acc,H4 D=some (.lst acc)/\acc.length<cJ/\Nx (upd H4 D (.lst (acc++[y]))) else Nx H3):=by
 refine ⟨fun i m H=>m=n-i/\i<=n/\Pv i H,⟨n,by simp,dU _,h0⟩,?_⟩;rintro i m H ⟨rfl,hi,p⟩;by_cases eU:i<n
 .refine .inr ⟨eU,Pv (i+1),fun H' p'=>⟨n-(i+1),by omega,rfl,eU,p'⟩,fun x H' y=>?_⟩;obtain ⟨e,y⟩:=y;subst e y;exact hs i _ eU p
 .have e:i=n:=by omega
  subst e;exact .inl ⟨dR _,hd H p⟩
theorem wo{K:cB}{a:Addr}{xs:List V}{g:TG}{tt:TT}{te:TE}{vs:List Nat}{σ:St}{H1:Hp}{D:Addr}{Qd:Hp->Prop}(Pv:Nat->Hp->Prop)(h0:Pv 0 (upd H1 D (.lst [])))(hl:∀i H,i<=xs.length->Pv i H->aD K H a xs)(hs:∀i x H,xs[i]? =some x->Pv i H->g x (wipe σ vs) H fun ib H2=>wipe ib vs=wipe σ vs/\tt ib H2 fun b H3=>
   if b=true then te ib H3 fun y H4=>∃acc,H4 D=some (.lst acc)/\acc.length<cJ/\Pv (i+1) (upd H4 D (.lst (acc++[y]))) else Pv (i+1) H3)(hd:∀H,Pv xs.length H->Qd H):
  ∃W:Nat->Nat->Hp->Prop,(∃m,W 0 m (upd H1 D (.lst [])))/\∀i m H,W i m H->
   ((An K a).stop i H/\Qd H)∨((An K a).go i H/\∃Nx:Hp->Prop,(∀H',Nx H'->∃m',m'<m/\W (i+1) m' H')/\∀x H',(An K a).wb i H x H'->g x (wipe σ vs) H' fun ib H2=>wipe ib vs=wipe σ vs/\tt ib H2 fun b H3=>
    if b=true then te ib H3 fun y H4=>∃acc,H4 D=some (.lst acc)/\acc.length<cJ/\Nx (upd H4 D (.lst (acc++[y]))) else Nx H3):=by
 refine ⟨fun i m H=>m=xs.length-i/\i<=xs.length/\Pv i H,⟨xs.length,by simp,dU _,h0⟩,?_⟩;rintro i m H ⟨rfl,hi,p⟩;have q:=hl i H hi p;by_cases eU:i<xs.length
 .refine .inr ⟨⟨xs,xs[i],q,by simp[eU]⟩,Pv (i+1),fun H' p'=>⟨xs.length-(i+1),by omega,rfl,eU,p'⟩,fun x H' y=>?_⟩;obtain ⟨e,y⟩:=y;subst e;exact hs i x _ (y xs q) p
 .have e:i=xs.length:=by omega
  subst e;exact .inl ⟨⟨xs,q,dR _⟩,hd H p⟩
def qQ(N:List Str)(sc scope:jP)(own:List (Str×Nat)):Bool:=
 (match scope.kind with| .function=>true|_=>false)&&(scope.names.all fun y=>decide (scope.names.lookup y.1=some y.2))&&(own.all fun p=>decide (N[p.2]? =some p.1))&&
  (scope.names.all fun y=>match y.2 with
   | .free=>(match sc.names.lookup y.1 with|some .cell=>true|some .free=>true|_=>false)
   | .local=>decide (y.1∈own.map (·.1))||decide (y.1∉N)
   | .cell=>decide (y.1∈own.map (·.1))||decide (y.1∉N)
   |_=>true)
theorem sj{N:List Str}{sc scope:jP}{own:List (Str×Nat)}(h:qQ N sc scope own=true):GX N sc scope own:=by
 unfold qQ at h;simp only[jN,tZ,decide_eq_true_eq]at h;obtain ⟨⟨⟨U,h2⟩,h3⟩,h4⟩:=h;refine ⟨?_,h2,h3,fun y hy e=>?_,fun y hy e=>?_⟩
 .split at U
  .assumption
  .cases U
 .have q:=h4 y hy;simp only[e]at q
  split at q<;>first|exact .inl (by assumption)|exact .inr (by assumption)|cases q
 .have q:=h4 y hy;rcases e with e|e<;>(simp only[e,FK,decide_eq_true_eq]at q;exact q)
section
variable{prog:eS}{w:eJ}{A:gc}{R:Result->a9->Prop}{s:a9}{elt t0 i0 t1 i1:Expr}{axr axs:List Expr}{scope:jP}{pos:Pos}{it acc:aq}{env:Env}
end
section
variable{X:Cx}
end
section
variable{κ:Type}[DecidableEq κ]
def hJ(kvs:List (κ×V))(k:κ):Option V:=(kvs.find? fun kv=>decide (kv.1=k)).map (·.2)
def putK(kvs:List (κ×V))(k:κ)(v:V):List (κ×V):=
 if (kvs.any fun kv=>decide (kv.1=k))=true then kvs.map (fun kv=>if kv.1=k then (kv.1,v) else kv) else kvs++[(k,v)]
def Y7(kvs:List (κ×V))(k:κ):List (κ×V):=kvs.filter fun kv=>decide (kv.1≠k)
theorem alT{k:κ}:hJ ([]:List (κ×V)) k=none:=rfl
theorem vg{p:κ×V}{r:List (κ×V)}{k:κ}(e:p.1=k):hJ (p::r) k=some p.2:=by simp[hJ,t9,e]
theorem vh{p:κ×V}{r:List (κ×V)}{k:κ}(e:¬p.1=k):hJ (p::r) k=hJ r k:=by simp[hJ,t9,e]
theorem Eh(k:κ):∀kvs:List (κ×V),(kvs.any fun kv=>decide (kv.1=k))=(hJ kvs k).isSome
 | []=>rfl
 |p::r=>by
  rw[FU];by_cases e:p.1=k
  .simp only[vg e,decide_eq_true e,Bool.true_or,ahj]
  .rw[vh e,decide_eq_false e,Bool.false_or];exact Eh k r
theorem Y8(k j:κ)(y:V):∀kvs:List (κ×V),hJ (kvs.map fun kv=>if kv.1=k then (kv.1,y) else kv) j=(hJ kvs j).map fun x=>if j=k then y else x
 | []=>rfl
 |p::r=>by
  have ih:=Y8 k j y r;rw[jx];by_cases h:p.1=k
  .rw[if_pos h];by_cases e:p.1=j
   .rw[vg (p:=(p.1,y)) e,vg e,DB,if_pos (e.symm.trans h)]
   .rw[vh (p:=(p.1,y)) e,vh e,ih]
  .rw[if_neg h];by_cases e:p.1=j
   .rw[vg (p:=p) e,vg e,DB,if_neg (fun z=>h (e.trans z))]
   .rw[vh (p:=p) e,vh e,ih]
theorem Y9(k j:κ)(y:V):∀kvs:List (κ×V),hJ kvs k=none->hJ (kvs++[(k,y)]) j=if j=k then some y else hJ kvs j
 | [],_=>by
  by_cases e:k=j
  .rw[if_pos e.symm];exact vg (p:=(k,y)) e
  .rw[if_neg (fun z=>e z.symm)];exact vh (p:=(k,y)) e
 |p::r,hn=>by
  rw[List.cons_append];have hk:¬p.1=k:=fun z=>by rw[vg z]at hn;cases hn
  rw[vh hk]at hn;have ih:=Y9 k j y r hn;by_cases e:p.1=j
  .rw[vg e,vg e,if_neg (fun z=>hk (e.trans z))]
  .rw[vh e,vh e,ih]
theorem Za(kvs:List (κ×V))(k j:κ)(y:V):hJ (putK kvs k y) j=if j=k then some y else hJ kvs j:=by
 unfold putK;by_cases a:(kvs.any fun kv=>decide (kv.1=k))=true
 .rw[if_pos a,Y8];rw[Eh]at a;by_cases e:j=k
  .obtain ⟨x,hx⟩:=agX.mp a;rw[if_pos e,e,hx,DB,if_pos rfl]
  .rw[if_neg e];cases hJ kvs j with
   |none=>rfl
   |some x=>rw[DB,if_neg e]
 .rw[if_neg a];refine Y9 k j y kvs ?_;rw[Eh]at a;cases q:hJ kvs k with
  |none=>rfl
  |some x=>rw[q]at a;exact (a rfl).elim
theorem G3(kvs:List (κ×V))(k:κ)(v:V):(putK kvs k v).length<=kvs.length+1:=by
 unfold putK
 split
 .rw[bt];omega
 .rw[gR,iz,zS];omega
theorem KJ{kvs:List (κ×V)}{k:κ}(v:V)(h:hJ kvs k=none):putK kvs k v=kvs++[(k,v)]:=by
 unfold putK;rw[Eh,h];exact if_neg (by decide)
theorem qc.G4{o:Option V}{u:Option aq}(r:qc o u):o.isSome=u.isSome:=by
 cases o with
 |none=>cases u with
  |none=>rfl
  |some _=>exact (show False from r).elim
 |some _=>cases u with
  |none=>exact (show False from r).elim
  |some _=>rfl
theorem qc.getD{o:Option V}{u:Option aq}{d:V}{d':aq}(r:qc o u)(rd:RelV d d'):RelV (o.getD d) (u.getD d'):=by
 cases o with
 |none=>cases u with
  |none=>exact rd
  |some _=>exact (show False from r).elim
 |some _=>cases u with
  |none=>exact (show False from r).elim
  |some _=>exact r
theorem KV.val{kvs:List (κ×V)}{vs:List (κ×aq)}(r:KV kvs vs)(k:κ):qc (hJ kvs k) (valueAt vs k):=by
 unfold KV at r
 induction r with
 |nil=>exact True.intro
 | @cons p q ps qs h t ih=>
  obtain ⟨U,h2⟩:=h;by_cases e:p.1=k
  .have e':q.1=k:=U.symm.trans e;have b:valueAt (q::qs) k=some q.2:=by simp[valueAt,t9,e']
   rw[vg e,b];exact h2
  .have e':¬q.1=k:=fun z=>e (U.trans z);have b:valueAt (q::qs) k=valueAt qs k:=by simp[valueAt,t9,e']
   rw[vh e,b];exact ih
theorem KV.any{kvs:List (κ×V)}{vs:List (κ×aq)}(r:KV kvs vs)(k:κ):(kvs.any fun kv=>decide (kv.1=k))=vs.any fun kv=>decide (kv.1=k):=by
 unfold KV at r
 induction r with
 |nil=>rfl
 |cons h t ih=>rw[FU,FU,ih,h.1]
theorem KV.PK{kvs:List (κ×V)}{vs:List (κ×aq)}(r:KV kvs vs)(k:κ){y:V}{u:aq}(ry:RelV y u):
  KV (kvs.map fun kv=>if kv.1=k then (kv.1,y) else kv) (vs.map fun kv=>if kv.1=k then (kv.1,u) else kv):=by
 unfold KV at r ⊢
 induction r with
 |nil=>exact .nil
 | @cons p q ps qs h t ih=>
  rw[jx,jx];refine .cons ?_ ih;obtain ⟨U,h2⟩:=h;by_cases e:p.1=k
  .rw[if_pos e,if_pos (U.symm.trans e)];exact ⟨U,ry⟩
  .rw[if_neg e,if_neg (fun z=>e (U.trans z))];exact ⟨U,h2⟩
theorem KV.put{kvs:List (κ×V)}{vs:List (κ×aq)}(r:KV kvs vs)(k:κ){y:V}{u:aq}(ry:RelV y u):KV (putK kvs k y) (stored vs k u):=by
 unfold putK stored;rw[r.any k];by_cases e:(vs.any fun kv=>decide (kv.1=k))=true
 .rw[if_pos e,if_pos e];exact r.PK k ry
 .rw[if_neg e,if_neg e];exact vM r ⟨rfl,ry⟩
theorem KV.drop{kvs:List (κ×V)}{vs:List (κ×aq)}(r:KV kvs vs)(k:κ):KV (Y7 kvs k) (without vs k):=by
 unfold KV at r ⊢;unfold Y7 without
 induction r with
 |nil=>exact .nil
 | @cons p q ps qs h t ih=>
  obtain ⟨U,h2⟩:=h;rw[kO,kO];by_cases e:p.1=k
  .have a:¬decide (p.1≠k)=true:=by simp[e]
   have b:¬decide (q.1≠k)=true:=by simp[U.symm.trans e]
   rw[if_neg a,if_neg b];exact ih
  .have e':¬q.1=k:=fun z=>e (U.trans z);have a:decide (p.1≠k)=true:=by simp[e]
   have b:decide (q.1≠k)=true:=by simp[e']
   rw[if_pos a,if_pos b];exact .cons ⟨U,h2⟩ ih
theorem KV.keys{kvs:List (κ×V)}{vs:List (κ×aq)}(r:KV kvs vs):kvs.map (·.1)=vs.map (·.1):=by
 unfold KV at r
 induction r with
 |nil=>rfl
 |cons h t ih=>rw[jx,jx,ih,h.1]
theorem KV.length{kvs:List (κ×V)}{vs:List (κ×aq)}(r:KV kvs vs):kvs.length=vs.length:=zQ r
end
theorem AG{P:eS}{w:eJ}{k:Key}{u:aq}(r:RelV (kV k) u):(oy P w).is k u=true:=by
 cases k with
 |inl i=>obtain ⟨t,e⟩:=(show ∃t,u=Value.int i t from r);subst e;exact Xt P w i t
 |inr x=>obtain ⟨t,e⟩:=(show ∃t,u=Value.str x t from r);subst e;exact ai7 P w x t
theorem Zb{P:eS}{w:eJ}:∀{ks:List Key}{us:List aq},Vals (ks.map kV) us->ItemsAre (oy P w) ks us
 | [],_,r=>by rw[Dy]at r;cases r;exact .nil
 |k::ks,_,r=>by
  rw[jx]at r;cases r with
  |cons h t=>exact .cons (AG h) (Zb t)
abbrev KT(H:Hp):List (List Key×V)->List (List Key×Addr×aq)->Prop:=Paired fun p q=>p.1=q.1/\H q.2.1=some (.tup (p.1.map kV))/\RelV p.2 q.2.2
theorem KT.val{H:Hp}{kvs:List (List Key×V)}{xs:List (List Key×Addr×aq)}(r:KT H kvs xs)(k:List Key):qc (hJ kvs k) ((atKey xs k).map (·.2)):=by
 induction r with
 |nil=>exact True.intro
 | @cons p q ps qs h t ih=>
  obtain ⟨U,_,h2⟩:=h;by_cases e:p.1=k
  .have e':q.1=k:=U.symm.trans e;have b:atKey (q::qs) k=some q.2:=by simp[atKey,t9,e']
   rw[vg e,b];exact h2
  .have e':¬q.1=k:=fun z=>e (U.trans z);have b:atKey (q::qs) k=atKey qs k:=by simp[atKey,t9,e']
   rw[vh e,b];exact ih
theorem KT.PK{H:Hp}{kvs:List (List Key×V)}{xs:List (List Key×Addr×aq)}(r:KT H kvs xs)(k:List Key){y:V}{u:aq}(ry:RelV y u):
  KT H (kvs.map fun kv=>if kv.1=k then (kv.1,y) else kv) (xs.map (putAt k u)):=by
 induction r with
 |nil=>exact .nil
 | @cons p q ps qs h t ih=>
  rw[jx,jx];refine .cons ?_ ih;obtain ⟨U,h2,h3⟩:=h;unfold putAt;by_cases e:p.1=k
  .rw[if_pos e,if_pos (U.symm.trans e)];exact ⟨U,h2,ry⟩
  .rw[if_neg e,if_neg (fun z=>e (U.trans z))];exact ⟨U,h2,h3⟩
theorem KT.put{H:Hp}{kvs:List (List Key×V)}{xs:List (List Key×Addr×aq)}(r:KT H kvs xs)(k:List Key){b:Addr}{y:V}{u:aq}(hb:H b=some (.tup (k.map kV)))(ry:RelV y u):
  KT H (putK kvs k y) (storedH xs k b u):=by
 have e:(kvs.any fun kv=>decide (kv.1=k))=(atKey xs k).isSome:=by
  rw[Eh,(r.val k).G4,N4]
 unfold putK storedH;rw[e];by_cases q:(atKey xs k).isSome=true
 .rw[if_pos q,if_pos q];exact r.PK k ry
 .rw[if_neg q,if_neg q];exact vM r ⟨rfl,hb,ry⟩
theorem KT.keeps{H H':Hp}{kvs:List (List Key×V)}{xs:List (List Key×Addr×aq)}(r:KT H kvs xs)(ht:∀b ys,H b=some (.tup ys)->H' b=some (.tup ys)):KT H' kvs xs:=
 Paired.OS r fun _ _ z=>⟨z.1,ht _ _ z.2.1,z.2.2⟩
section
variable{P:eS}{w:eJ}{H:Hp}{h:Heap}{a:Addr}
theorem Zc{u:HO}(ok:iS P w H h)(e:Rd H a u):j5 P w H h a u:=e.ok ok
theorem Ei{kvs:List (Key×V)}(ok:iS P w H h)(e:Rd H a (.dK kvs)):kvs.length<=cJ/\(a==sysModules)=false/\∃vs,KV kvs vs/\h.DictOf (oy P w) a vs:=
 show j5 P w H h a (.dK kvs) from Zc ok e
theorem PL{kvs:List (Key×V)}(ok:iS P w H h)(e:H a=some (.dK kvs)):kvs.length<=cJ/\(a==sysModules)=false/\∃vs,KV kvs vs/\h.DictOf (oy P w) a vs:=Ei ok (.inl e)
theorem G5{ks:List Key}(ok:iS P w H h)(e:H a=some (.tup (ks.map kV))):(tupleKind (oy P w)).is h ks a:=by
 obtain ⟨_,bD,r,o,U,h2,n,h3⟩:=(show j5 P w H h a (.tup (ks.map kV)) from ok a _ e);exact ⟨o,bD.toArray,n,U,h2,h3,by simpa using Zb r⟩
theorem Ej{kvs:List (List Key×V)}(ok:iS P w H h)(e:Rd H a (.dT kvs)):kvs.length<=cJ/\(a==sysModules)=false/\
  ∃xs,KT H kvs xs/\h.DictOfH (tupleKind (oy P w)) a xs:=by
 obtain ⟨z,y,xs,r,o,es,ep,U,h2,h3,h4,h5⟩:=(show j5 P w H h a (.dT kvs) from Zc ok e);refine ⟨z,y,xs,r,o,es,ep,U,h2,h3,h4,fun x hx=>?_,h5⟩;have all:∀{l:List (List Key×V)}{m:List (List Key×Addr×aq)},KT H l m->∀x∈m,(tupleKind (oy P w)).is h x.1 x.2.1:=by
  intro l m q
  induction q with
  |nil=>intro x hx;exact nomatch hx
  | @cons p q ps qs hq t ih=>
   intro x hx;rcases f6.mp hx with e|hx
   .subst e;exact G5 ok (by rw[<-hq.1];exact hq.2.1)
   .exact ih x hx
 exact all r x hx
theorem alU{kvs:List (List Key×V)}(ok:iS P w H h)(e:H a=some (.dT kvs)):kvs.length<=cJ/\(a==sysModules)=false/\
  ∃xs,KT H kvs xs/\h.DictOfH (tupleKind (oy P w)) a xs:=Ej ok (.inl e)
end
def lL(H:Hp)(a:Addr)(y:V)(r:Option V):Prop:=
 (∃kvs k,Rd H a (.dK kvs)/\y=kV k/\r=hJ kvs k)∨∃kvs k b,Rd H a (.dT kvs)/\y=.ref b/\H b=some (.tup (k.map kV))/\r=hJ kvs k
def vi(H:Hp)(a:Addr)(y v:V)(H':Hp):Prop:=
 (∃kvs k,H a=some (.dK kvs)/\y=kV k/\kvs.length<cJ/\H'=upd H a (.dK (putK kvs k v)))∨
 ∃kvs k b,H a=some (.dT kvs)/\y=.ref b/\H b=some (.tup (k.map kV))/\kvs.length<cJ/\H'=upd H a (.dT (putK kvs k v))
theorem lL.k{H:Hp}{a:Addr}{kvs:List (Key×V)}{k:Key}(e:H a=some (.dK kvs)):lL H a (kV k) (hJ kvs k):=.inl ⟨kvs,k,.inl e,rfl,rfl⟩
theorem lL.t{H:Hp}{a b:Addr}{kvs:List (List Key×V)}{k:List Key}(e:H a=some (.dT kvs))(eb:H b=some (.tup (k.map kV))):lL H a (.ref b) (hJ kvs k):=.inr ⟨kvs,k,b,.inl e,rfl,eb,rfl⟩
theorem vi.k{H:Hp}{a:Addr}{kvs:List (Key×V)}{k:Key}{v:V}(e:H a=some (.dK kvs))(hl:kvs.length<cJ):vi H a (kV k) v (upd H a (.dK (putK kvs k v))):=.inl ⟨kvs,k,e,rfl,hl,rfl⟩
theorem vi.t{H:Hp}{a b:Addr}{kvs:List (List Key×V)}{k:List Key}{v:V}(e:H a=some (.dT kvs))(eb:H b=some (.tup (k.map kV)))(hl:kvs.length<cJ):
  vi H a (.ref b) v (upd H a (.dT (putK kvs k v))):=.inr ⟨kvs,k,b,e,rfl,eb,hl,rfl⟩
section
variable{X:Cx}{pins:List (Addr×Obj)}{σ:St}{H:Hp}{s:a9}{a:Addr}{y v:V}{u r:aq}{o:Option V}{A:gc}{E:aq->a9->Prop}
theorem Inv.big(I:Inv X pins σ H s):sysModules<s.heap.objs.size:=by
 have h:nG<s.heap.objs.size:=(I.mod.glob.keeps I.bk).lt;exact Nat.lt_trans (by decide) h
theorem alV{Q:aq->a9->Prop}(hu:A.units+1<cLine)(I:Inv X pins σ H s)(g:lL H a y (some v))(ry:RelV y u)(h:∀w' s',Inv X pins σ H s'->RelV v w'->Q w' s'):
  bV (model X.prog X.w) A (getItem (.ref a) u) Q E s:=by
 rcases g with ⟨kvs,k,e,ey,l⟩|⟨kvs,k,b,e,ey,eb,l⟩
 .subst ey;obtain ⟨z,hd,vs,rel,dd⟩:=Ei I.bS e;obtain ⟨w',hw,wj⟩:=qc.some_of (v:=v) (o:=valueAt vs k) (by rw[l];exact rel.val k);exact ahk (AG ry) dd.mapOf hw (h w' _ (I.tok _) wj)
 .subst ey;cases (show u=Value.ref b from ry);obtain ⟨z,hd,xs,rel,dd⟩:=Ej I.bS e;obtain ⟨w',hw,wj⟩:=qc.some_of (v:=v) (o:=(atKey xs k).map (·.2)) (by rw[l];exact rel.val k);obtain ⟨p,hp,oH⟩:=VY.mp hw;refine wpAny_getItem_heap (N5 hu) (G5 I.bS eb) dd hp ?_;rw[oH];exact h w' _ (I.tok _) wj
theorem alW{Q:aq->a9->Prop}(hu:A.units+1<cLine)(I:Inv X pins σ H s)(g:lL H a y o)(ry:RelV y u)(h:∀s',Inv X pins σ H s'->Q (.bool o.isSome) s'):
  bV (model X.prog X.w) A (compareOp .In u (.ref a)) Q E s:=by
 rcases g with ⟨kvs,k,e,ey,l⟩|⟨kvs,k,b,e,ey,eb,l⟩
 .subst ey;obtain ⟨z,hd,vs,rel,dd⟩:=Ei I.bS e;refine wpAny_in_of (AG ry) hd dd.mapOf ?_;rw[<-(rel.val k).G4,<-l];exact h _ (I.tok _)
 .subst ey;cases (show u=Value.ref b from ry);obtain ⟨z,hd,xs,rel,dd⟩:=Ej I.bS e;refine wpAny_in_heap (N5 hu) (G5 I.bS eb) hd dd ?_;have q:=(rel.val k).G4;rw[N4]at q;rw[<-q,<-l];exact h _ (I.tok _)
theorem alX{Q:aq->a9->Prop}(hu:A.units+1<cLine)(I:Inv X pins σ H s)(g:lL H a y o)(ry:RelV y u)(h:∀s',Inv X pins σ H s'->Q (.bool (!o.isSome)) s'):
  bV (model X.prog X.w) A (compareOp .NotIn u (.ref a)) Q E s:=by
 rcases g with ⟨kvs,k,e,ey,l⟩|⟨kvs,k,b,e,ey,eb,l⟩
 .subst ey;obtain ⟨z,hd,vs,rel,dd⟩:=Ei I.bS e;refine wpAny_notIn_of (AG ry) hd dd.mapOf ?_;rw[<-(rel.val k).G4,<-l];exact h _ (I.tok _)
 .subst ey;cases (show u=Value.ref b from ry);obtain ⟨z,hd,xs,rel,dd⟩:=Ej I.bS e;refine wpAny_notIn_heap (N5 hu) (G5 I.bS eb) hd dd ?_;have q:=(rel.val k).G4;rw[N4]at q;rw[<-q,<-l];exact h _ (I.tok _)
theorem KL{h':Heap}{t':Nat}{ob:HO}(I:Inv X pins σ H s)(mu:yz (H a))(hs:Heap.SameBut a s.heap h')(he:∃q,h'.get? a=some q)(new:j5 X.prog X.w (upd H a ob) h' a ob):
  Inv X pins σ (upd H a ob) {s with heap:=h',toks:=t'}:=
 I.write (x:=a) (e:=a) mu (.inl rfl) (fun b q hb z=>(hs.2 b hb).trans z) he new
theorem PM{P:eS}{w:eJ}{H':Hp}{h':Heap}{kvs:List (Key×V)}{vs:List (Key×aq)}(z:kvs.length<=cJ)(hd:(a==sysModules)=false)(rel:KV kvs vs)(dd:h'.DictOf (oy P w) a vs):
  j5 P w H' h' a (.dK kvs):=⟨z,hd,vs,rel,dd⟩
theorem alY{H':Hp}{Q:Unit->a9->Prop}(hu:A.units+1<cLine)(I:Inv X pins σ H s)(g:vi H a y v H')(ry:RelV y u)(rv:RelV v r)(h:∀s',Inv X pins σ H' s'->Q () s'):
  bV (model X.prog X.w) A (setItem (.ref a) u r) Q E s:=by
 rcases g with ⟨kvs,k,e,ey,l,eH⟩|⟨kvs,k,b,e,ey,eb,l,eH⟩
 .subst ey eH;obtain ⟨z,hd,vs,rel,dd⟩:=PL I.bS e;have hz:vs.length<=cJ:=by rw[<-rel.length];exact z
  have hl:(putK kvs k v).length<=cJ:=by have:=G3 kvs k v;omega
  refine wpAny_setItem_pairs (hsz:=hz) (AG ry) dd fun h' xI hs=>h _ ?_;have he:∃q,h'.get? a=some q:=let ⟨q,_,_,hq,_⟩:=xI;⟨q,hq⟩
  exact KL I (by rw[e];exact True.intro) hs he (PM hl hd (rel.put k rv) xI)
 .subst ey eH;cases (show u=Value.ref b from ry);obtain ⟨z,hd,xs,rel,dd⟩:=alU I.bS e;have hz:xs.length<=cJ:=by rw[<-zQ rel];exact z
  have hl:(putK kvs k v).length<=cJ:=by have:=G3 kvs k v;omega
  refine wpAny_setItem_heap (hsz:=hz) (N5 hu) (G5 I.bS eb) dd fun h' xI hs=>h _ ?_;obtain ⟨q,es,ep,hq,h2,h3,h4,_,h5⟩:=xI;refine KL I (by rw[e];exact True.intro) hs ⟨q,hq⟩ ⟨hl,hd,_,(rel.put k eb rv).keeps fun c ys ec=>?_,q,es,ep,hq,h2,h3,h4,h5⟩;rw[bC (iG ec e (fun z=>nomatch z))];exact ec
end
section
variable{X:Cx}{pins:List (Addr×Obj)}{σ:St}{H:Hp}{s:a9}{a:Addr}{kvs:List (Key×V)}{k:Key}{u:aq}{A:gc}{E:aq->a9->Prop}
end
def PN(i:Expr):Prop:=∀ov iv,subscripted i false ov iv=operate [ov,iv] (getItem ov iv)
theorem Zd{prog:eS}{w:eJ}{A:gc}{E:aq->a9->Prop}{s:a9}{env:Env}{value slice:Expr}{pos:Pos}{T id:String}{Q:aq->a9->Prop}(hl:typeLookup (.type T) "__getitem__"=pure (some (.builtin id)))(hs:PN slice)(h:bV (model prog w) A (eval value env) (fun o gO=>bV (model prog w) A (eval slice env) (fun i pE=>pE.TypeIs o T/\bV (model prog w) A (getItem o i) Q E pE) E gO) E s):
  bV (model prog w) A (eval (.Subscript value slice pos) env) Q E s:=by
 refine VR (ou h (fun o gO AD=>ou AD (fun i pE G0=>?_) fun _ _ x=>x) fun _ _ x=>x);obtain ⟨hT,G0⟩:=G0;unfold subscriptTail;refine cE ?_;rw[getitemInPython_of_ne hT.not_modules];refine cE (wpAny_specialOf hT hl ?_);have fin:bV (model prog w) A (subscripted slice false o i) (fun r Al=>bV (model prog w) A (letTemporaryGo value o r >>= fun _=>pure r) Q E Al) E pE:=by
  rw[hs o i];exact wpAny_operating (ou G0 (fun r Al KA=>cE (wpAny_letTemporaryGo (ij KA))) fun _ _ x=>x)
 first
  |exact ij (cE fin)
  |exact cE (ij (cE fin))
  |exact cE fin
theorem alZ{X:Cx}{pins:List (Addr×Obj)}{σ:St}{H:Hp}{s:a9}{a:Addr}{y:V}{o:Option V}(I:Inv X pins σ H s)(g:lL H a y o):s.TypeIs (.ref a) "dict":=by
 rcases g with ⟨kvs,k,e,_,_⟩|⟨kvs,k,b,e,_,_,_⟩
 .obtain ⟨_,_,vs,_,dd⟩:=Ei I.bS e;exact dd.typeIs
 .obtain ⟨_,_,xs,_,dd⟩:=Ej I.bS e;exact dd.typeIs
def al0(td ty:TE):TE:=fun σ H Q=>td σ H fun x H1=>ty σ H1 fun y H2=>∃a v,x=.ref a/\lL H2 a y (some v)/\Q v H2
def al4(ty td:TE):TE:=fun σ H Q=>ty σ H fun y H1=>td σ H1 fun x H2=>∃a o,x=.ref a/\lL H2 a y o/\Q (.bl o.isSome) H2
def al5(ty td:TE):TE:=fun σ H Q=>ty σ H fun y H1=>td σ H1 fun x H2=>∃a o,x=.ref a/\lL H2 a y o/\Q (.bl (!o.isSome)) H2
def al6(td ty tv:TE):TS:=fun D σ H=>tv σ H fun v H1=>td σ H1 fun x H2=>ty σ H2 fun y H3=>∃a H4,x=.ref a/\vi H3 a y v H4/\D.nx σ H4
section
variable{X:Cx}{o i e value:Expr}{pos pos' r9:Pos}{td ty tv:TE}
theorem Cf(hu:X.A.units+1<cLine)(ho:PE X o td)(hi:PE X i ty)(hs:PN i):PE X (.Subscript o i pos) (al0 td ty):=by
 intro pins s σ H Q I h;refine Zd ahl.lookup hs (dt (ho pins s σ H _ I h) fun u s1 ⟨x,H1,I1,rx,q1⟩=>dt (hi pins s1 σ H1 _ I1 q1) fun iv s2 ⟨y,H2,I2,ry,a,v,ex,g,q2⟩=>?_);subst ex;obtain rfl:u=Value.ref a:=rx;exact ⟨alZ I2 g,alV hu I2 g ry fun w' s3 I3 wj=>⟨v,H2,I3,wj,q2⟩⟩
theorem KN(hu:X.A.units+1<cLine)(hi:PE X i ty)(ho:PE X o td):PC X .In i o (al4 ty td):=by
 intro pins s σ H Q I h;refine dt (hi pins s σ H _ I h) fun iv s1 ⟨y,H1,I1,ry,q1⟩=>dt (ho pins s1 σ H1 _ I1 q1) fun u s2 ⟨x,H2,I2,rx,a,ov,ex,g,q2⟩=>?_;subst ex;obtain rfl:u=Value.ref a:=rx;exact alW hu I2 g ry fun s3 I3=>⟨.bl ov.isSome,H2,I3,rfl,q2⟩
theorem Cg(hu:X.A.units+1<cLine)(hi:PE X i ty)(ho:PE X o td):PC X .NotIn i o (al5 ty td):=by
 intro pins s σ H Q I h;refine dt (hi pins s σ H _ I h) fun iv s1 ⟨y,H1,I1,ry,q1⟩=>dt (ho pins s1 σ H1 _ I1 q1) fun u s2 ⟨x,H2,I2,rx,a,ov,ex,g,q2⟩=>?_;subst ex;obtain rfl:u=Value.ref a:=rx;exact alX hu I2 g ry fun s3 I3=>⟨.bl (!ov.isSome),H2,I3,rfl,q2⟩
theorem El(hu:X.A.units+1<cLine)(ho:PE X o td)(hi:PE X i ty)(hv:PE X value tv)(hs:swapsWith value (some (.Subscript o i pos')) pos.line X.env=pure false):
  PS X (.Assign [.Subscript o i pos'] value pos) (al6 td ty tv):=by
 intro pins s σ H D I h;refine wpAny_Assign_Subscript (dt (hv pins s σ H _ I h) fun r s1 ⟨v,H1,I1,rv,q1⟩=>dt (ho pins s1 σ H1 _ I1 q1) fun u s2 ⟨x,H2,I2,rx,q2⟩=>dt (hi pins s2 σ H2 _ I2 q2) fun iv s3 ⟨y,H3,I3,ry,a,H4,ex,g,q3⟩=>?_) hs;subst ex;obtain rfl:u=Value.ref a:=rx;exact alY hu I3 g ry rv fun s4 I4=>⟨σ,H4,I4,q3⟩
end
theorem Ze{P:eS}{w:eJ}{H:Hp}(h:Heap)(hb:sysModules<h.objs.size):j5 P w H (h.push {cls:=.type "dict",data:=.dict #[]}) h.objs.size (.dK []):=
 ⟨dU _,beq_eq_false_iff_ne.mpr (xa (kg hb)),[],.nil,Heap.DictOf.new h⟩
theorem al7{P:eS}{w:eJ}{H:Hp}(h:Heap)(hb:sysModules<h.objs.size):j5 P w H (h.push {cls:=.type "dict",data:=.dict #[]}) h.objs.size (.dT []):=
 ⟨dU _,beq_eq_false_iff_ne.mpr (xa (kg hb)),[],.nil,_,#[],0,lV _ rfl,⟨rfl,rfl,rfl⟩,rfl,rfl,Bu⟩
def al8:TE:=fun _ H Q=>∀p,H p=none->Q (.ref p) (upd H p (.dK []))
def al9:TE:=fun _ H Q=>∀p,H p=none->Q (.ref p) (upd H p (.dT []))
section
variable{X:Cx}{pos:Pos}
theorem G6:PE X (.Dict [] [] pos) al8:=fun pins s σ H Q I h=>
 ahm ⟨.ref s.heap.objs.size,_,I.laid (a:=s.heap.objs.size) (o:=.dK []) (t':=s.toks) (fun _ _ q=>gF _ q) (dR _) (Ze s.heap I.big),rfl,h _ (I.bS.fresh (dR _))⟩
theorem ama:PE X (.Dict [] [] pos) al9:=fun pins s σ H Q I h=>
 ahm ⟨.ref s.heap.objs.size,_,I.laid (a:=s.heap.objs.size) (o:=.dT []) (t':=s.toks) (fun _ _ q=>gF _ q) (dR _) (al7 s.heap I.big),rfl,h _ (I.bS.fresh (dR _))⟩
end
def PQ:List (TE×TE)->St->Hp->(List (V×V)->Hp->Prop)->Prop
 | [],_,H,Q=>Q [] H
 | (tk,tv)::r,σ,H,Q=>tk σ H fun x H1=>tv σ H1 fun y H2=>PQ r σ H2 fun ps H3=>Q ((x,y)::ps) H3
abbrev VV:List (V×V)->List (aq×aq)->Prop:=Paired fun p q=>RelV p.1 q.1/\RelV p.2 q.2
def KO(X:Cx)(pos:Pos)(keys:List (Option Expr))(values:List Expr)(yI:List (TE×TE)):Prop:=
 ∀(pins:List (Addr×Obj))(s:a9)(σ:St)(H:Hp)(Q:List (V×V)->Hp->Prop),Inv X pins σ H s->PQ yI σ H Q->
  bV (model X.prog X.w) X.A (evalPairs (pairTrees keys values X.env pos)) (fun vs s'=>∃ps H',Inv X pins σ H' s'/\VV ps vs/\Q ps H') X.xe s
theorem amb{X:Cx}{pos:Pos}:KO X pos [] [] []:=fun pins s σ H Q I h=>pairTrees_nil_walk ⟨[],H,I,.nil,h⟩
theorem amc{X:Cx}{pos:Pos}{k v:Expr}{ks:List (Option Expr)}{vs:List Expr}{tk tv:TE}{yI:List (TE×TE)}(hk:PE X k tk)(hv:PE X v tv)(hr:KO X pos ks vs yI):
  KO X pos (some k::ks) (v::vs) ((tk,tv)::yI):=fun pins s σ H Q I h=>
 pairTrees_cons_walk (dt (hk pins s σ H _ I h) fun u s1 ⟨x,H1,I1,rx,q1⟩=>dt (hv pins s1 σ H1 _ I1 q1) fun w2 s2 ⟨y,H2,I2,ry,q2⟩=>
  dt (hr pins s2 σ H2 _ I2 q2) fun ws s3 ⟨ps,H3,I3,rel,q3⟩=>⟨(x,y)::ps,H3,I3,.cons ⟨rx,ry⟩ rel,q3⟩)
def Em(kvs more:List (Key×V)):List (Key×V):=more.foldl (fun acc kv=>putK acc kv.1 kv.2) kvs
theorem KV.merge:∀{more:List (Key×V)}{rs:List (Key×aq)}{kvs:List (Key×V)}{vs:List (Key×aq)},KV more rs->KV kvs vs->KV (Em kvs more) (merged vs rs):=by
 intro more rs kvs vs r;unfold KV at r
 induction r generalizing kvs vs with
 |nil=>intro q;exact q
 | @cons p q ps qs h t ih=>
  intro r0;have e:KV (putK kvs p.1 p.2) (stored vs q.1 q.2):=by
   have:=r0.put p.1 h.2;rw[<-h.1];exact this
  exact ih e
theorem Zg:∀(more kvs:List (Key×V)),(Em kvs more).length<=kvs.length+more.length
 | [],kvs=>by show kvs.length<=kvs.length+0;omega
 |p::r,kvs=>by
  have U:=Zg r (putK kvs p.1 p.2);have h2:=G3 kvs p.1 p.2;show (Em (putK kvs p.1 p.2) r).length<=_;rw[iz];omega
theorem Zh{P:eS}{w:eJ}:∀{kvs:List (Key×V)}{ws:List (aq×aq)},VV (kvs.map fun kv=>(kV kv.1,kv.2)) ws->∃rs,Carries (oy P w) ws rs/\KV kvs rs
 | [],_,r=>by rw[Dy]at r;cases r;exact ⟨[],True.intro,.nil⟩
 |p::kvs,_,r=>by
  rw[jx]at r;cases r with
  | @cons a b as bs h t=>
   obtain ⟨rs,c,q⟩:=Zh (P:=P) (w:=w) t;obtain ⟨b1,b2⟩:=b;exact ⟨(p.1,b2)::rs,⟨AG h.1,rfl,c⟩,.cons ⟨rfl,h.2⟩ q⟩
def amd(yI:List (TE×TE)):TE:=fun σ H Q=>∀p,H p=none->PQ yI σ (upd H p (.dK [])) fun ps H2=>H2 p=some (.dK [])/\∃kvs:List (Key×V),ps=kvs.map (fun kv=>(kV kv.1,kv.2))/\kvs.length<=15/\Q (.ref p) (upd H2 p (.dK (Em [] kvs)))
theorem ame{X:Cx}{pos:Pos}{keys:List (Option Expr)}{values:List Expr}{yI:List (TE×TE)}(h:KO X pos keys values yI)(qR:keys.all (·.isSome)=true)(hl:keys.length=values.length)(h0:keys≠[])(h15:keys.length<=15):PE X (.Dict keys values pos) (amd yI):=by
 intro pins s σ H Q I q;have hn:=I.bS.fresh (dR s.heap.objs.size);have I1:=I.laid (a:=s.heap.objs.size) (o:=.dK []) (h':=s.heap.push {cls:=.type "dict",data:=.dict #[]}) (t':=s.toks) (fun _ _ q=>gF _ q) (dR _) (Ze s.heap I.big);refine wpAny_Dict_walk (knd:=oy X.prog X.w) qR hl h0 h15 (dt (h pins _ σ _ _ I1 (q _ hn)) fun ws s2 ⟨ps,H2,I2,rel,e,kvs,ep,lk,q2⟩=>?_);subst ep;obtain ⟨rs,c,rk⟩:=Zh (P:=X.prog) (w:=X.w) rel;obtain ⟨z,hd,vs0,r0,dd⟩:=PL I2.bS e;cases r0;refine ⟨rs,c,dd,fun h' xI hs=>⟨.ref s.heap.objs.size,_,?_,rfl,q2⟩⟩;have hz:(Em [] kvs).length<=cJ:=by
  have U:=Zg kvs [];rw[zS]at U;rw[eE];omega
 have he:∃q,h'.get? s.heap.objs.size=some q:=let ⟨q,_,_,hq,_⟩:=xI;⟨q,hq⟩
 exact KL I2 (by rw[e];exact True.intro) hs he (PM hz hd (rk.merge .nil) xI)
structure M2(X:Cx)(o:Expr)(m:Str)(apos:Pos)(e f:Expr)(lH:Pos):Prop where
 base:attributeBase o m X.env (eval o X.env)=eval o X.env
 few:((backTo lH (iP [e,f] X.env)).all (fun x=>!x.1)&&(backToKw lH (keywordEach [] X.env)).all (fun x=>x.1.isSome)
  &&decide (([e,f]:List Expr).length+([]:List Keyword).length+(if ([]:List Keyword).isEmpty then 0 else 1)<30))=true
 line:(apos.endLine==lH.line)=true
 trees:backTo lH (iP [e,f] X.env)=[(false,eval e X.env),(false,eval f X.env)]
def Zi(H:Hp)(a:Addr):Prop:=(∃kvs,Rd H a (.dK kvs))∨∃kvs,Rd H a (.dT kvs)
theorem amh{X:Cx}{pins:List (Addr×Obj)}{σ:St}{H:Hp}{s:a9}{a:Addr}(I:Inv X pins σ H s)(d:Zi H a):
  s.TypeIs (.ref a) "dict"/\(∀b,Value.ref a=.ref b->∃ob,s.heap.get? b=some ob/\ob.dict=none)/\(a==sysModules)=false:=by
 rcases d with ⟨kvs,e⟩|⟨kvs,e⟩
 .obtain ⟨_,hd,vs,_,dd⟩:=Ei I.bS e;refine ⟨dd.typeIs,fun b q=>?_,hd⟩;cases q;obtain ⟨ob,_,_,U,h2,_⟩:=dd;exact ⟨ob,U,h2.2.1⟩
 .obtain ⟨_,hd,xs,_,dd⟩:=Ej I.bS e;refine ⟨dd.typeIs,fun b q=>?_,hd⟩;cases q;obtain ⟨ob,_,_,U,h2,_⟩:=dd;exact ⟨ob,U,h2.2.1⟩
section
variable{X:Cx}{pins:List (Addr×Obj)}{σ:St}{H:Hp}{s:a9}{a:Addr}{y d:V}{u r:aq}{o:Option V}{A:gc}{E:aq->a9->Prop}
end
section
variable{X:Cx}{o e f:Expr}{apos lH:Pos}{td ty tx:TE}
end
section
variable{X:Cx}{pins:List (Addr×Obj)}{σ:St}{H:Hp}{s:a9}{a:Addr}{kvs:List (Key×V)}{A:gc}{E:aq->a9->Prop}
end
section
variable{X:Cx}{pins:List (Addr×Obj)}{σ:St}{H:Hp}{s:a9}{a:Addr}{y:V}{u:aq}{A:gc}{E:aq->a9->Prop}
end
section
variable{prog:eS}{w:eJ}{A:gc}{E:aq->a9->Prop}
end
section
variable{X:Cx}
end
section
variable{X:Cx}{pins:List (Addr×Obj)}{σ:St}{H:Hp}{s:a9}{h':Heap}
theorem Inv.ami{t':Nat}{ch:List Addr}(I:Inv X pins σ H s)(k:∀b o,b∉ch->s.heap.get? b=some o->h'.get? b=some o)(hf:∀b∈ch,vb X pins H b):Inv X pins σ H {s with heap:=h',toks:=t'}:=by
 have Ag:∀b u,H b=some u->b∉ch:=fun b u e z=>by
  have q:=(hf b z).1;rw[q]at e;cases e
 refine I.step (g':=s.gens) (d':=s.drawn) (ch:=ch) (fun b hb=>⟨(hf b hb).2.2.2.1,(hf b hb).2.1,(hf b hb).2.2.2.2.1,(hf b hb).2.2.2.2.2⟩) (fun b o _ _ hc e _=>k b o hc e) (fun b o _ _ hc e _=>⟨o.slots,k b o hc e⟩)
  (fun _ _ _ _ n=>n) (fun b o hc e=>⟨o,k b o hc e⟩) (fun _ _ e=>e) (fun _ _ _ e=>e) (fun b ps e=>⟨#[],by rw[e];simp⟩) (fun m hm=>?_) (fun b u e=>?_) I.bare
 .obtain ⟨o,es,ep,ho,r⟩:=hm;exact ⟨o,es,ep,k _ o (fun z=>(hf _ z).2.1 rfl) ho,r⟩
 .refine (I.bS b u e).uh (fun c v hc q=>k c v ?_ q) (fun _ q=>q) fun _ _ q=>q;rcases hc with z|z
  .rw[z];exact Ag b u e
  .exact Ag c _ z
theorem Inv.PU{t':Nat}{ch:List Addr}{T:Addr}{ob:HO}(I:Inv X pins σ H s)(k:∀b o,b∉ch->s.heap.get? b=some o->h'.get? b=some o)(hf:∀b∈ch,vb X pins H b)(hT:s.heap.objs.size<=T)(new:j5 X.prog X.w (upd H T ob) h' T ob):Inv X pins σ (upd H T ob) {s with heap:=h',toks:=t'}:=by
 have hn:H T=none:=I.bS.fresh hT;have Ag:∀b u,H b=some u->b∉ch:=fun b u e z=>by
  have q:=(hf b z).1;rw[q]at e;cases e
 refine I.step (g':=s.gens) (d':=s.drawn) (ch:=ch) (fun b hb=>⟨(hf b hb).2.2.2.1,(hf b hb).2.1,(hf b hb).2.2.2.2.1,(hf b hb).2.2.2.2.2⟩) (fun b o _ _ hc e _=>k b o hc e) (fun b o _ _ hc e _=>⟨o.slots,k b o hc e⟩)
  (fun b o _ e n=>?_) (fun b o hc e=>⟨o,k b o hc e⟩) (fun b xs e=>?_) (fun b o u e=>?_) (fun b ps e=>⟨#[],?_⟩) (fun m hm=>?_) (fun b u e=>?_) I.bare
 .rw[bC (kg (pA (iK e) hT))];exact n
 .rw[bC (dw e hn)];exact e
 .rw[bC (dw e hn)];exact e
 .rw[bC (dw e hn),e];simp
 .obtain ⟨o,es,ep,ho,r⟩:=hm;exact ⟨o,es,ep,k _ o (fun z=>(hf _ z).2.1 rfl) ho,r⟩
 .by_cases hb:b=T
  .subst hb;rw[aJ]at e;cases e;exact new
  .rw[bC hb]at e;refine (I.bS b u e).uh (fun c v hc q=>k c v ?_ q) (fun c q=>by rw[bC (dw q hn)];exact q) fun c xs q=>by rw[bC (dw q hn)];exact q
   rcases hc with z|z
   .rw[z];exact Ag b u e
   .exact Ag c _ z
theorem Inv.lock{d:Addr}{u:HO}(I:Inv X pins σ H s)(h:H d=some u)(mu:yz (some u)):∃od,Inv X pins σ (upd H d (.gU od u)) s:=by
 have x:=I.bS d u h;have ex:∃od,s.heap.get? d=some od:=by
  cases u with
  |lst xs=>obtain ⟨_,_,_,_,e⟩:=x;exact ⟨_,e⟩
  |dK kvs=>obtain ⟨_,_,_,_,o,_,_,e,_⟩:=x;exact ⟨o,e⟩
  |dT kvs=>obtain ⟨_,_,_,_,o,_,_,e,_⟩:=x;exact ⟨o,e⟩
  |set S n=>obtain ⟨o,_,_,_,e,_⟩:=x;exact ⟨o,e⟩
  |ins C dx fs=>obtain ⟨_,_,_,e,_⟩:=x;exact ⟨_,e⟩
  |ext φ=>obtain ⟨_,⟨_,e⟩,_⟩:=x;exact ⟨_,e⟩
  |_=>exact False.elim mu
 obtain ⟨od,e⟩:=ex;have new:j5 X.prog X.w (upd H d (.gU od u)) s.heap d (.gU od u):=by
  refine ⟨e,x.uh (fun b v _ q=>q) (fun b q=>?_) fun b xs q=>?_⟩
  .rw[bC (fun z=>by rw[z,h]at q;cases q;exact mu)];exact q
  .rw[bC (fun z=>by rw[z,h]at q;cases q;exact mu)];exact q
 exact ⟨od,I.write (x:=d) (e:=d) (t':=s.toks) (h':=s.heap) (by rw[h];exact mu) (.inl rfl) (fun b v _ q=>q) ⟨od,e⟩ new⟩
theorem Inv.KP{d:Addr}{u:HO}(I:Inv X pins σ H s)(h:H d=some u)(mu:yz (some u)):∀o' u',X.vS d≠some (.gU o' u'):=fun o' u' e=>by
 have q:=I.base.qd d o' u' e;rw[h]at q;cases q;exact mu
theorem Inv.unlock{d:Addr}{od:Obj}{u:HO}(I:Inv X pins σ H s)(h:H d=some (.gU od u))(hn:∀o' u',X.vS d≠some (.gU o' u')):Inv X pins σ (upd H d u) s:=by
 have Eo:∀b o,H b=some o->(∀o' u',o≠.gU o' u')->b≠d:=fun b o e md z=>by
  rw[z,h]at e;cases e;exact md _ _ rfl
 have neN:∀b,H b=none->b≠d:=fun b e z=>by rw[z,h]at e;cases e
 refine ⟨I.ok,I.os,I.bare,⟨I.base.keep,I.base.slot,fun b o e n hx=>?_,I.base.there,fun b xs e=>?_,fun b o x e=>?_,fun b ps e=>?_⟩,I.loc,I.cell,?_,fun x c e=>?_,fun p hp=>?_,fun b o e=>?_,I.len⟩
 .rw[bC (neN b (I.base.free b o e n hx))];exact I.base.free b o e n hx
 .have q:=I.base.rZ b xs e;rw[bC (Eo b _ q (fun _ _ z=>nomatch z))];exact q
 .have q:=I.base.qd b o x e;rw[bC (fun z=>by rw[z]at e;exact hn _ _ e)];exact q
 .obtain ⟨m,q⟩:=I.base.rA b ps e;exact ⟨m,by rw[bC (Eo b _ q (fun _ _ z=>nomatch z))];exact q⟩
 .rw[bC (neN _ I.free)];exact I.free
 .rw[bC (neN c (I.qe x c e))];exact I.qe x c e
 .obtain ⟨e,n,r⟩:=I.pin p hp;exact ⟨e,by rw[bC (neN _ n)];exact n,r⟩
 .by_cases hb:b=d
  .rw[hb,aJ]at e;cases e;rw[hb];obtain ⟨_,x⟩:=I.bS d _ h;exact x.uh (fun c v _ q=>q) (fun c q=>by rw[bC (Eo c _ q (fun _ _ z=>nomatch z))];exact q) fun c xs q=>by rw[bC (Eo c _ q (fun _ _ z=>nomatch z))];exact q
  .rw[bC hb]at e;exact (I.bS b o e).uh (fun c v _ q=>q) (fun c q=>by rw[bC (Eo c _ q (fun _ _ z=>nomatch z))];exact q) fun c xs q=>by rw[bC (Eo c _ q (fun _ _ z=>nomatch z))];exact q
end
def amj(t:TS):TS:=fun D σ H=>∃d u,H d=some u/\yz (some u)/\∀od,t ⟨fun cV H'=>H' d=some (.gU od u)/\D.nx cV (upd H' d u),fun v H'=>H' d=some (.gU od u)/\D.rt v (upd H' d u),fun cV H'=>H' d=some (.gU od u)/\D.bk cV (upd H' d u),fun cV H'=>H' d=some (.gU od u)/\D.ct cV (upd H' d u)⟩ σ (upd H d (.gU od u))
section
variable{X:Cx}
theorem amk{st:Stmt}{t:TS}(h:PS X st t):PS X st (amj t):=by
 intro pins s σ H D I hw;obtain ⟨d,u,hd,mu,hw⟩:=hw;obtain ⟨od,I1⟩:=I.lock hd mu;refine dt (h pins s σ _ _ I1 (hw od)) fun f s1 q=>?_;cases f with
 |next=>obtain ⟨cV,H',I2,e,q⟩:=q;exact ⟨cV,_,I2.unlock e (I.KP hd mu),q⟩
 |brk=>obtain ⟨cV,H',I2,e,q⟩:=q;exact ⟨cV,_,I2.unlock e (I.KP hd mu),q⟩
 |cont=>obtain ⟨cV,H',I2,e,q⟩:=q;exact ⟨cV,_,I2.unlock e (I.KP hd mu),q⟩
 |ret v=>obtain ⟨x,cV,H',I2,r,e,q⟩:=q;exact ⟨x,cV,_,I2.unlock e (I.KP hd mu),r,q⟩
theorem aml{tg:Expr}{pins:List (Addr×Obj)}{σ:St}{H:Hp}{s:a9}{R:It->Hp->Prop}{J:It}{tn:Nat->Heap->Prop}{tk:Nat}(I:Inv X pins σ H s)(o:Obj)(T:Turn X.prog X.w X.K tg J [s.heap.objs.size] s.heap.objs.size tn)(st:tn 0 (s.heap.push o))(q:R J H):Kd X pins σ tg R (.ref s.heap.objs.size) {s with heap:=s.heap.push o,toks:=tk}:=by
 refine ⟨s.heap.objs.size,[s.heap.objs.size],tn,J,H,rfl,I.kept fun b ob e=>gF _ e,T,st,fun b hb=>?_,q⟩;have e:b=s.heap.objs.size:=by simpa using hb
 subst e;exact I.DY (dR _) (I.bS.fresh (dR _))
end
def Zj(i j c:Int)(n:Nat):Prop:=c≠0/\c.natAbs<1073741824/\Builtin.Range.small i j c=true/\Builtin.Range.rangeSize i j c=n
theorem Zj.neg{i j:Int}(ha:-(2 ^ 62)<=i)(PV:i<2 ^ 62)(hb:-(2 ^ 62)<=j)(iU:j<2 ^ 62):Zj i j (-1) (i-j).toNat:=
 ⟨by decide,by decide,PySem.W.small_down ha PV hb iU,PySem.W.rangeSize_downNat i j⟩
section
variable{X:Cx}{tg:Expr}
end
section
variable{X:Cx}{tg:Expr}
end
section
variable{prog:eS}{w:eJ}{A:gc}{E:aq->a9->Prop}{s:a9}
end
theorem Zk{κ:Type}{kvs:List (κ×V)}{vs:List (κ×aq)}(h:KV kvs vs):∀{i:Nat}{k:κ}{v:V},kvs[i]? =some (k,v)->∃u,vs[i]? =some (k,u)/\RelV v u:=by
 unfold KV at h
 induction h with
 |nil=>intro i k v e;simp at e
 | @cons a b BM BN r t ih=>
  intro i k v e;cases i with
  |zero=>
   simp only[FW,JB]at e;subst e;refine ⟨b.2,?_,r.2⟩;simp only[FW];exact congrArg some (Prod.ext r.1.symm rfl)
  |succ j=>
   simp only[FX]at e ⊢;exact ih e
theorem lM{α β:Type}{G:α->β->Prop}{BM:List α}{BN:List β}(h:Paired G BM BN):∀{i:Nat}{a:α},BM[i]? =some a->∃b,BN[i]? =some b/\G a b:=by
 induction h with
 |nil=>intro i a e;simp at e
 | @cons a b BM BN r t ih=>
  intro i a' e;cases i with
  |zero=>
   simp only[FW,JB]at e;subst e;exact ⟨b,rfl,r⟩
  |succ j=>
   simp only[FX]at e ⊢;exact ih e
theorem amm{k:Key}{u:aq}(h:rY k u=true):RelV (kV k) u:=by
 rcases vR h with ⟨i,t,rfl,rfl⟩|⟨x,t,rfl,rfl⟩
 .exact ⟨t,rfl⟩
 .exact ⟨t,rfl⟩
section
variable{X:Cx}{pins:List (Addr×Obj)}{σ:St}{H:Hp}{s:a9}{d:Addr}{o:Obj}
theorem Inv.PX{kvs:List (Key×V)}(I:Inv X pins σ H s)(h:H d=some (.gU o (.dK kvs))):
  (d==sysModules)=false/\s.heap.get? d=some o/\o.ExactDict/\∃(es:Array qD)(ep:Nat)(vs:List (Key×aq)),o.data=.dict es ep/\es.size=kvs.length/\KV kvs vs/\s.heap.DictAt (oy X.prog X.w) d vs ep:=by
 obtain ⟨hd,z,hs,vs,kv,o',es,ep,ho,hx,qS,r⟩:=I.bS d _ h;rw[hd]at ho;cases ho;refine ⟨hs,hd,hx,es,ep,vs,qS,?_,kv,o,es,hd,hx,qS,r⟩;have l1:=r.2.1.length;have l2:kvs.length=vs.length:=zQ kv;rw[BB]at l1;omega
end
def G8(d:Addr)(o:Obj)(kvs:List (Key×V)):It:=
 ⟨fun i H=>H d=some (.gU o (.dK kvs))/\i<kvs.length,fun i H x H'=>∃T k v,kvs[i]? =some (k,v)/\x=.ref T/\H T=none/\H'=upd H T (.tup [kV k,v]),fun i H=>H d=some (.gU o (.dK kvs))/\kvs.length<=i⟩
theorem Zl{o:Obj}{es Af:Array qD}{ep xr:Nat}(h:o.data=.dict es ep)(h':o.data=.dict Af xr):Af=es/\xr=ep:=by
 rw[h]at h';cases h';exact ⟨rfl,rfl⟩
section
variable{P:eS}{w:eJ}{K:cB}{tg:Expr}{d:Addr}{o:Obj}{es:Array qD}{ep:Nat}
theorem amn{kvs:List (Key×V)}{elts:List Expr}{kk:Nat}{r9:Pos}(it:Addr)(xJ:o.data=.dict es ep):
  Turn P w K (.Tuple elts kk r9) (G8 d o kvs) [it] it (fun i h=>∃ok ov,IsItemIter h it d i kvs.length ep ok ov) where
 mem:=by simp
 obj:=fun i h st b hb=>by
  have e:b=it:=by simpa using hb
  subst e;obtain ⟨ok,ov,e⟩:=st;exact ⟨_,e,fun v z=>nomatch z⟩
 keep:=fun i h h' st k=>let ⟨ok,ov,e⟩:=st;⟨ok,ov,k it (by simp) _ e⟩
 item:=by
  intro X hP hw hK hc i pins s σ H E I hf st hg;subst hP hw hK;obtain ⟨hd,hi⟩:=hg;obtain ⟨hs,Zm,hx,Af,xr,vs,qS,hsz,kv,hm⟩:=I.PX hd;obtain ⟨rfl,rfl⟩:=Zl xJ qS;obtain ⟨⟨k,v⟩,AI⟩:∃p,kvs[i]? =some p:=⟨kvs[i],iN hi⟩;obtain ⟨u,hu,ru⟩:=Zk kv AI;have hl:kvs.length=vs.length:=zQ kv;obtain ⟨ok,ov,he⟩:=st;rw[hl]at he;have eU:it<s.heap.objs.size:=iK he;refine wpAny_pyNext_items_item he hm hu fun key h' Gz ho hT hz hk=>?_;refine ⟨_,rfl,wpAny_letOwnedTupleGo_items (s:={s with heap:=h'}) ho fun si G9 sb=>?_⟩;have rF:si.get? s.heap.objs.size=some {cls:=.type "tuple",data:=.seq #[key,u]}:=(sb.2 _ (yr eU)).trans hT;have new:j5 X.prog X.w (upd H s.heap.objs.size (.tup [kV k,v])) si s.heap.objs.size (.tup [kV k,v]):=
   ⟨by show 2<=cJ;decide,[key,u],.cons (amm (show rY k key=true from Gz)) (.cons ru .nil),⟨_,rF,rfl,_,rfl⟩⟩
  have I1:Inv X pins σ (upd H s.heap.objs.size (.tup [kV k,v])) {s with heap:=si}:=
   I.PU (t':=s.toks) (ch:=[it]) (fun b ob hb e=>(sb.2 b (by simpa using hb)).trans (hk b ob (by simpa using hb) e)) hf (dR _) new
  refine ⟨.ref s.heap.objs.size,_,I1,rfl,⟨_,k,v,AI,rfl,I.bS.fresh (dR _),rfl⟩,⟨key,u,?_⟩,fun b hb=>?_⟩
  .rw[hl];exact G9
  .have e:b=it:=by simpa using hb
   rw[e,bC (kg eU)];exact (hf it (by simp)).1
 done:=by
  intro X hP hw hK hc i pins s σ H E I hf st hg;subst hP hw hK;obtain ⟨hd,hi⟩:=hg;obtain ⟨f0,f1,f2,f3,f4,f5⟩:=hf it (by simp);obtain ⟨hs,Zm,hx,Af,xr,vs,qS,hsz,kv,hm⟩:=I.PX hd;obtain ⟨rfl,rfl⟩:=Zl xJ qS;have hl:kvs.length=vs.length:=zQ kv;obtain ⟨ok,ov,he⟩:=st;rw[hl]at he;exact wpAny_pyNext_items_end (I.ok.hd hc) he hm (FO (by omega)) fun h' eb=>⟨rfl,I.turned (t':=s.toks) (fun b ob hb e=>eb b ob hb e) f0 f1 f3 f4 f5⟩
 self:=fun A i s Q E st h=>let ⟨_,_,e⟩:=st;PySem.W.kcp_self e h
end
def amo(td:TE):TI:=fun σ H R=>td σ H fun x H1=>∃d o kvs,x=.ref d/\H1 d=some (.gU o (.dK kvs))/\R (G8 d o kvs) H1
section
variable{X:Cx}{tg e:Expr}{td:TE}{apos lH:Pos}
theorem amq{elts:List Expr}{kk:Nat}{r9:Pos}(he:PE X e td)(GP:attributeBase e "items" X.env (eval e X.env)=eval e X.env:=by rfl)(GQ:(apos.endLine==lH.line)=true:=by rfl):
  PI X (.Tuple elts kk r9) (.Call (.Attribute e "items" apos) [] [] lH) (amo td):=by
 intro pins s σ H R I h;refine ahn (T:="dict") (id:="dict.items") GP rfl GQ F.plainAttrs_dict aho F.type_dict_items (dt (he pins s σ H _ I h) fun u s1 ⟨x,H1,I1,rx,d,o,kvs,ex,hd,q⟩=>?_);subst ex;obtain rfl:u=Value.ref d:=rx;obtain ⟨hs,Zm,hx,es,ep,vs,qS,hsz,kv,hm⟩:=I1.PX hd;have hl:kvs.length=vs.length:=zQ kv;refine ⟨hm.dictOf.typeIs,hm.dictOf.mapOf.noDict,?_⟩;have I2:Inv X pins σ H1 {s1 with heap:=s1.heap.push {cls:=.type "dict_items",data:=.fields #[.ref d]}}:=I1.kept (t':=s1.toks) fun b ob q=>gF _ q;have fin:bV (model X.prog X.w) X.A (pyIter (.ref s1.heap.objs.size)) (Kd X pins σ (.Tuple elts kk r9) R) X.xe {s1 with heap:=s1.heap.push {cls:=.type "dict_items",data:=.fields #[.ref d]}}:=by
  refine wpAny_pyIter_items (d:=d) (knd:=oy X.prog X.w) ⟨_,lV _ rfl,rfl,rfl⟩ (hm.push _) (aml (tk:=s1.toks) I2 _ (amn _ qS) ⟨.none,.none,?_⟩ q);rw[hl];exact lV _ rfl
 show bV _ _ (callWith lH (.builtin "dict.items") [.ref d] [] []) _ X.xe s1;exact method_meetsIn aho F.entry_dict_items rfl (aha ⟨rfl,hm.dictOf.typeIs,F.args_dict_items_1 _,_,meets_dict_items (oy X.prog X.w) d hs,⟨vs,hm.dictOf⟩,fin⟩)
end
def AJ(K:cB)(a:Addr):It:=
 ⟨fun i H=>∃(xs:List V)(x:V),aD K H a xs/\xs[i]? =some x,fun i H v H'=>∃T x,v=.ref T/\H T=none/\H'=upd H T (.tup [.int (i:Nat),x])/\∀xs,aD K H a xs->xs[i]? =some x,fun i H=>∃xs:List V,aD K H a xs/\xs.length<=i⟩
theorem amr{P:eS}{w:eJ}{K:cB}{elts:List Expr}{kk:Nat}{r9:Pos}(a e it:Addr):
  Turn P w K (.Tuple elts kk r9) (AJ K a) [e,it] e (fun i h=>(∃old,IsEnum h e it ((i:Nat):Int) old)/\h.IsListIter it a i/\e≠it) where
 mem:=by simp
 obj:=fun i h st b hb=>by
  obtain ⟨⟨old,he⟩,⟨o,ho,hc,hd⟩,_⟩:=st;have e':b=e∨b=it:=by simpa using hb
  rcases e' with z|z
  .rw[z];exact ⟨_,he,fun v q=>nomatch q⟩
  .rw[z];exact ⟨o,ho,fun v q=>by rw[hd]at q;cases q⟩
 keep:=fun i h h' st k=>let ⟨⟨old,he⟩,hi,md⟩:=st;⟨⟨old,k e (by simp) _ he⟩,hi.at fun o q=>k it (by simp) o q,md⟩
 item:=by
  intro X hP hw hK hc i pins s σ H E I hf st hg;subst hP hw hK;obtain ⟨⟨old,he⟩,hit,md⟩:=st;obtain ⟨xs,x,hq,hx⟩:=hg;obtain ⟨bD,rv,p,hz⟩:=I.list hq;obtain ⟨u,hu,ru⟩:=rv.get hx;have KQ:e<s.heap.objs.size:=iK he;have oJ:it<s.heap.objs.size:=by obtain ⟨_,q,_⟩:=hit;exact iK q
  refine wpAny_pyNext_enum_item he hit p.isList (x:=u) (by simpa using hu) md fun h' ho ams hT hsz hk=>?_;refine ⟨_,rfl,wpAny_letOwnedTupleGo_enum (s:={s with heap:=h',toks:=s.toks+1}) ho fun si G9 sb=>?_⟩;have rF:si.get? s.heap.objs.size=some {cls:=.type "tuple",data:=.seq #[.int i s.toks,u]}:=(sb.2 _ (yr KQ)).trans hT;have new:j5 X.prog X.w (upd H s.heap.objs.size (.tup [.int (i:Nat),x])) si s.heap.objs.size (.tup [.int (i:Nat),x]):=
   ⟨by show 2<=cJ;decide,[.int i s.toks,u],.cons ⟨_,rfl⟩ (.cons ru .nil),⟨_,rF,rfl,_,rfl⟩⟩
  have I1:Inv X pins σ (upd H s.heap.objs.size (.tup [.int (i:Nat),x])) {s with heap:=si,toks:=s.toks+1}:=
   I.PU (ch:=[e,it]) (fun b ob hb q=>(sb.2 b (fun z=>hb (by simp[z]))).trans (hk b ob (fun z=>hb (by simp[z])) (fun z=>hb (by simp[z])) q)) hf (dR _) new
  refine ⟨.ref s.heap.objs.size,_,I1,rfl,⟨_,x,rfl,I.bS.fresh (dR _),rfl,fun ys hy=>by rw[I.Gq hy hq];exact hx⟩,⟨⟨u,?_⟩,ams.at fun o q=>(sb.2 it (xa md)).trans q,md⟩,fun b hb=>?_⟩
  .have e1:((i+1:Nat):Int)=(i:Int)+1:=by omega
   rw[e1];exact G9
  .have iU:b<s.heap.objs.size:=by
    have e':b=e∨b=it:=by simpa using hb
    rcases e' with z|z
    .rw[z];exact KQ
    .rw[z];exact oJ
   rw[bC (kg iU)];exact (hf b hb).1
 done:=by
  intro X hP hw hK hc i pins s σ H E I hf st hg;subst hP hw hK;obtain ⟨⟨old,he⟩,hit,md⟩:=st;obtain ⟨xs,hq,hx⟩:=hg;obtain ⟨bD,rv,p,hz⟩:=I.list hq;obtain ⟨f0,f1,f2,f3,f4,f5⟩:=hf it (by simp);have hl:=rv.length;exact wpAny_pyNext_enum_end (I.ok.hd hc) he hit p.isList (by simp;omega) fun h' eb=>⟨rfl,I.turned (t':=s.toks) (fun b o hb q=>eb b o hb q) f0 f1 f3 f4 f5⟩
 self:=fun A i s Q E st h=>let ⟨⟨_,he⟩,_⟩:=st;ahp he h
def amt(K:cB)(ta:TA):TI:=fun σ H R=>ta σ H fun vs H1=>∃a xs,vs=[.ref a]/\aD K H1 a xs/\R (AJ K a) H1
theorem AK{X:Cx}{e:Expr}{ta:TA}{p pos r9:Pos}{elts:List Expr}{kk:Nat}(hg:Gl X "enumerate")(hm:X.mg "enumerate"=none)(ha:PA X [e] ta)(hs:iP [e] X.env=[(false,eval e X.env)]:=by rfl):
  PI X (.Tuple elts kk r9) (.Call (.Name "enumerate" p) [e] [] pos) (amt X.K ta):=by
 intro pins s σ H R I h;refine Call_ (BX I hg hm boot_enumerate (NU (dt (ha pos pins s σ H _ I h) fun us s1 ⟨vs,H1,I1,r1,q1⟩=>?_) hs rfl));obtain ⟨a,xs,ex,hq,q⟩:=q1;subst ex;cases r1 with
 |cons r rr=>
  cases rr;cases r;obtain ⟨bD,rv,p',hz⟩:=I1.list hq;refine call_enumerate_list p'.isList fun h' he hit hsz hk=>ahp he ?_;have I2:Inv X pins σ H1 {s1 with heap:=h'}:=I1.kept (t':=s1.toks) hk;refine ⟨s1.heap.objs.size+1,[s1.heap.objs.size+1,s1.heap.objs.size],_,_,H1,rfl,I2,amr a (s1.heap.objs.size+1) s1.heap.objs.size,⟨⟨.none,he⟩,hit,Nat.succ_ne_self _⟩,fun b hb=>?_,q⟩;have e':b=s1.heap.objs.size+1∨b=s1.heap.objs.size:=by simpa using hb
  have hle:s1.heap.objs.size<=b:=by
   rcases e' with z|z
   .rw[z];exact Nat.le_add_right _ _
   .rw[z];exact dR _
  exact I1.DY hle (I1.bS.fresh hle)
theorem amu:bootBuiltins "zip"=some (.type "zip"):=by decide +kernel
end L2
namespace amv
end amv
section
namespace TL
open PySem.Builtin PySem.Builtin.Str PySem.StrLaws
abbrev tl(x:Str):List Nat:=x.cps.toList
theorem amx(x:Str):x.length=(tl x).length:=by simp[tl,Str.length]
def pre(S l:List Nat):Bool:=l.take S.length==S
def par(S:List Nat):List Nat->List Nat->Option (List Nat×List Nat)
 |_,[]=>none
 |acc,c::r=>if pre S (c::r)=true then some (acc,(c::r).drop S.length) else par S (acc++[c]) r
theorem tL{y:Str}(hy:tl y≠[]):1<=y.length:=by
 have e2:0<(tl y).length:=List.length_pos_iff.mpr hy;rw[amx y];exact e2
end TL
end
namespace L2
section
variable{X:Cx}{pins:List (Addr×Obj)}{σ:St}{H:Hp}{s:a9}{Q:VK}
end
section
variable{X:Cx}
end
section
variable{X:Cx}{o e:Expr}{to te:TE}
end
section
variable{X:Cx}
end
end L2
namespace Att
open PySem.W PySem.Calls
section
variable{prog:eS}{w:eJ}{A:gc}{E:aq->a9->Prop}{s:a9}{K:Frag}
end
end Att
namespace L2
def inClass(s:Stmt)(j:Nat):Stmt:=match s with
 | .ClassDef _ _ _ body _ _ _ _ _ _ _=>body.getD j (.Pass ⟨0,0,0,0⟩)
 |_=>.Pass ⟨0,0,0,0⟩
def vj(s:Stmt):Arguments:=match s with
 | .FunctionDef _ a _ _ _ _ _ _ _ _=>a
 |_=>{posonlyargs:=[],args:=[],vararg:=none,kwonlyargs:=[],kw_defaults:=[],kwarg:=none,defaults:=[]}
def sk(s:Stmt):List Stmt:=match s with
 | .FunctionDef _ _ b _ _ _ _ _ _ _=>b
 |_=>[]
def da(s:Stmt):jP:=match s with
 | .FunctionDef _ _ _ _ _ _ sc _ _ _=>sc
 |_=>{kind:=.function,names:=[],isGenerator:=false,isCoroutine:=false}
abbrev bJ:o7:=fun _ _ _ _ _ _=>False
abbrev E0:XK:=fun _ _ _=>False
theorem di{X:Cx}:Passes bJ X E0:=fun _ _ _ _ _ _ _ h=>h.elim
structure eW(K:cB)(x qual:Str)(st:Stmt)(f:Addr)(fd:dn):Prop where
 ex:∃(oc:aq)(od:Option Addr)(kV doc pm:aq)(an:Option Addr)(c6 ct:aq)(oi:Array (Option aq)),
  fd=ua x qual (vj st) (sk st) (da st) .none kV doc pm an c6 ct/\K.lookup f=some ⟨oc,od,.func fd,oi⟩/\PySem.W.codeIn K c6 qual=true
 kp:pZ K (.ref f)=true
section
variable{P:eS}{w:eJ}{K:cB}{mg:Str->Option aq}{base:Heap}
theorem eW.ok{x qual:Str}{st:Stmt}{f:Addr}{fd:dn}{N ps:List Str}{k:Nat}{sp:Sp}(F:eW K x qual st f fd)(S:fA N ps (da st))(len:∀vs H Q E,sp vs H Q E->vs.length=ps.length)(sd:∀(c6:aq) (A:gc) (outer:List Env) (s:a9) (H:Hp) (vs:List V) (Q:VK) (E:XK),dQ k (A.deeper (envOfC qual (da st) s.heap.objs.size f c6))->sp vs H Q E->
   ∃t,rC (we bJ P w K mg base N qual (da st) f c6 A outer s H E).va (sk st) t/\t {nx:=fun _ H'=>Q .eM H',rt:=Q} (start N vs) H):c8 P w K mg base bJ (k+1) f fd ps sp:=by
 obtain ⟨oc,od,kV,doc,pm,an,c6,ct,oi,rfl,lk,qJ⟩:=F.ex;refine Pk lk qJ S len fun A outer s H vs Q E hr vd=>?_;obtain ⟨t,h,q⟩:=sd c6 A outer s H vs Q E hr vd;exact ⟨t,h.va,q⟩
theorem eW.binds{x qual:Str}{st:Stmt}{f:Addr}{fd:dn}{ps:List Str}(F:eW K x qual st f fd)(h:∀(kV doc pm:aq) (an:Option Addr) (c6 ct:aq) (us:List aq),us.length=ps.length->bindArgs (ua x qual (vj st) (sk st) (da st) .none kV doc pm an c6 ct) ⟨us,[]⟩=pure (ps.zip us)):Binds K fd ps []:=by
 obtain ⟨oc,od,kV,doc,pm,an,c6,ct,oi,rfl,lk,qJ⟩:=F.ex;exact .all (h kV doc pm an c6 ct)
theorem KS{x qual:Str}{st:Stmt}{f:Addr}{oc:aq}{od an:Option Addr}{oi:Array (Option aq)}{kV doc pm c6 ct:aq}(l:K.lookup f=some ⟨oc,od,.func (ua x qual (vj st) (sk st) (da st) .none kV doc pm an c6 ct),oi⟩)(c:PySem.W.codeIn K c6 qual=true)(k:pZ K (.ref f)=true):eW K x qual st f (ua x qual (vj st) (sk st) (da st) .none kV doc pm an c6 ct):=⟨⟨oc,od,kV,doc,pm,an,c6,ct,oi,rfl,l,c⟩,k⟩
end
theorem vk{A:gc}{k:Nat}(hr:dQ k A):A.units+1<cLine:=ahq (Nat.add_le_add_left (by decide:1<=64) _) hr.units
section
variable{X:Cx}
theorem pv(i:Nat){x:Str}{pos:Pos}(hN:X.N[i]? =some x:=by rfl)(hv:BR X.env.scope x:=by first|exact Or.inl rfl|exact Or.inr (Or.inl rfl)|exact Or.inr (Or.inr rfl))(hd:(x==("__debug__":Str))=false:=by decide)(qJ:(x==("__classdict__":Str))=false:=by decide):PE X (.Name x pos) (Ai i):=aji hN hv hd qJ
end
theorem wq{A B:Prop}(h:B):if false=true then A else B:=by
 rw[if_neg jt];exact h
theorem xK{A B:Prop}(h:A):if true=true then A else B:=by
 rw[if_pos rfl];exact h
theorem jq{c A B:Prop}[Decidable c](U:c->A)(h2:¬c->B):if c then A else B:=by
 by_cases h:c
 .rw[if_pos h];exact U h
 .rw[if_neg h];exact h2 h
theorem yJ{c A B:Prop}[Decidable c](hc:c)(h:B):if (!decide c)=true then A else B:=by
 rw[decide_eq_true hc];exact wq h
def aC(H H':Hp):Prop:=∀b o,H b=some o->H' b=some o
theorem aC.refl(H:Hp):aC H H:=fun _ _ h=>h
theorem aC.trans{H H1 H2:Hp}(a:aC H H1)(b:aC H1 H2):aC H H2:=fun c o h=>b c o (a c o h)
theorem aC.free{H H':Hp}(e:aC H H'){l:Addr}(h:H' l=Option.none):H l=Option.none:=by
 cases q:H l with
 |none=>rfl
 |some o=>
  rw[e l o q]at h;cases h
theorem aC.seq{K:cB}{H H':Hp}{a:Addr}{xs:List V}(e:aC H H')(h:aD K H a xs):aD K H' a xs:=by
 rcases h with (h|⟨o,h⟩)|h
 .exact .inl (.inl (e _ _ h))
 .exact .inl (.inr ⟨o,e _ _ h⟩)
 .exact .inr h
section
variable{κ:Type}[DecidableEq κ]
end
theorem at_of{xs:List V}{z:Int}{j:Nat}{v:V}(e:z=(j:Int))(h:xs[j]? =some v):mf xs z=some v:=by
 rw[e];exact akL h
theorem Hb{α:Type}{l:List α}(hN:l.Nodup){i j:Nat}{x:α}(a:l[i]? =some x)(b:l[j]? =some x):i=j:=by
 obtain ⟨U,e1⟩:=gq.mp a;obtain ⟨h2,e2⟩:=gq.mp b;exact (agL hN).mp (e1.trans e2.symm)
theorem aC.made{H H1:Hp}{x dx C:Addr}(nx:H x=Option.none)(nd:H dx=Option.none)(k:∀b o,(upd (upd H dx (.own x)) x (.ins C dx [])) b=some o->b≠x->H1 b=some o):aC H H1:=fun b o e=>
 k b o (by rw[bC (dw e nx),bC (dw e nd)];exact e) (dw e nx)
abbrev PY:List aq:=[.type "ValueError",.type "Exception",.type "BaseException",.type "object"]
structure KU(K:cB)(C:Addr):Prop where
 ex:∃nm q N bs hdct sn sub ab col dd k0 k1 k2 k3 k5,K.lookup C=some (excClassObj nm q C N bs PY hdct sn sub ab col dd k0 k1 k2 k3 k5 "ValueError.__new__")/\PySem.W.nsOkIn K N=true/\PySem.W.nsIn K N "__init__"=some none
def Ep(h:Heap)(a:Addr)(cls:aq)(T:Addr):Prop:=
 ∃oe vs oT ts a0,h.get? a=some oe/\(oe.cls=cls/\vs[0]? =some a0)/\oe.data=.fields vs/\vs[1]? =some (.ref T)/\T≠a/\h.get? T=some oT/\oT.data=.fields ts/\ts[3]? =some .none
def qT(cls:aq)(P:eS)(w:eJ):o7:=fun outer H s E e s'=>
 ∃(a T:Addr)(H':Hp),e=.ref a/\s'.os=s.os/\AllBare s'.gens/\Un (kh outer) [] H H' s.heap s'.heap/\iS P w H' s'.heap/\s.heap.get? a=none/\s.heap.get? T=none/\H' a=none/\H' T=none/\
  Ep s'.heap a cls T/\E cls none H'
structure Nt(F R:List Addr)(h h':Heap):Prop where
 keep:∀b o,h.get? b=some o->b∉F->b∉R->h'.get? b=some o
 slot:∀b o,h.get? b=some o->b∈F->∃sl,h'.get? b=some {o with slots:=sl}
theorem j5.get{P:eS}{w:eJ}{H:Hp}{h:Heap}{a:Addr}{o:HO}(x:j5 P w H h a o):∃u,h.get? a=some u:=by
 induction o with
 |lst xs=>obtain ⟨_,_,_,_,e⟩:=x;exact ⟨_,e⟩
 |tup xs=>
  obtain ⟨_,bD,_,u,p,_⟩:=x;exact ⟨u,p⟩
 |dK kvs=>obtain ⟨_,_,_,_,o,_,_,e,_⟩:=x;exact ⟨_,e⟩
 |dT kvs=>obtain ⟨_,_,_,_,o,_,_,e,_⟩:=x;exact ⟨_,e⟩
 |set S n=>obtain ⟨o,_,_,_,e,_⟩:=x;exact ⟨_,e⟩
 |ins C dx fs=>obtain ⟨_,_,_,e,_⟩:=x;exact ⟨_,e⟩
 |own y=>obtain ⟨_,e⟩:=x;exact ⟨_,e⟩
 |xd fs=>obtain ⟨_,⟨_,_,_,e,_⟩,_⟩:=x;exact ⟨_,e⟩
 |JX lo hi=>obtain ⟨_,_,_,e⟩:=x;exact ⟨_,e⟩
 |gU o u ih=>obtain ⟨e,_⟩:=x;exact ⟨_,e⟩
 |kU ps=>exact ⟨_,x⟩
 |met f x'=>exact ⟨_,x⟩
 |ext φ=>obtain ⟨_,⟨o,e⟩,_⟩:=x;exact ⟨_,e⟩
theorem iS.none_of{P:eS}{w:eJ}{H:Hp}{h:Heap}{a:Addr}(x:iS P w H h)(e:h.get? a=none):H a=none:=by
 cases q:H a with
 |none=>rfl
 |some o=>
  obtain ⟨u,hu⟩:=(x a o q).get;rw[e]at hu;cases hu
theorem iS.Er{P:eS}{w:eJ}{H:Hp}{h h':Heap}{F R:List Addr}(x:iS P w H h)(n:Nt F R h h')(hF:∀b∈F,H b=none)(hR:∀b∈R,H b=none):iS P w H h':=fun a o e=>
 (x a o e).uh (fun b u hb q=>n.keep b u q
  (fun z=>by
   rcases hb with rfl|hb
   .rw[hF _ z]at e;cases e
   .rw[hF _ z]at hb;cases hb)
  (fun z=>by
   rcases hb with rfl|hb
   .rw[hR _ z]at e;cases e
   .rw[hR _ z]at hb;cases hb)) (fun _ q=>q) (fun _ _ q=>q)
theorem Un.Er{fs ex F R:List Addr}{H H':Hp}{h h' si:Heap}(u:Un fs ex H H' h h')(n:Nt F R h' si)(hF:∀b∈F,b∉fs->h.get? b=none)(hR:∀b∈R,h.get? b=none):Un fs ex H H' h si where
 keep:=fun b o q k hb hx=>n.keep b o (u.keep b o q k hb hx) (fun z=>by rw[hF b z hb]at q;cases q) (fun z=>by rw[hR b z]at q;cases q)
 slot:=fun b o q k hb hx=>by
  obtain ⟨sl,e1⟩:=u.slot b o q k hb hx;by_cases z:b∈F
  .obtain ⟨DQ,e2⟩:=n.slot b _ e1 z;exact ⟨DQ,e2⟩
  .exact ⟨sl,n.keep b _ e1 z fun y=>by rw[hR b y]at q;cases q⟩
 free:=u.free
 there:=fun b o q hx=>by
  obtain ⟨o',e1⟩:=u.there b o q hx;by_cases z:b∈F
  .obtain ⟨DQ,e2⟩:=n.slot b _ e1 z;exact ⟨_,e2⟩
  .exact ⟨o',n.keep b _ e1 z fun y=>by rw[hR b y]at q;cases q⟩
 rZ:=u.rZ
 qd:=u.qd
 rA:=u.rA
theorem P0(h:Heap)(as:List Addr):(PySem.W.hideAll h as).StaysIn h:=fun _ _ e=>agI as e
theorem P1{F R:List Addr}{h h':Heap}{base:Heap}{l:List Env}(hl:h.FunFrames base l)(hF:kh l=F)(k:(PySem.W.hideAll h (F++R)).StaysIn h')(sm:h.UpToSlots h'):Nt F R h h':=by
 refine ⟨fun b o e U h2=>k b o (NS _ e fun z=>(kN.mp z).elim U h2),fun b o e hb=>?_⟩;subst hF;obtain ⟨_,o',e',nf⟩:=hl.mem hb;rw[e]at e';cases e';exact sm b o e nf
theorem amz(l:List Env):∀env∈l,∀a,env.frame=some a->a∈kh l:=fun env h a e=>Ds.mpr ⟨env,h,e⟩
theorem P2{h base:Heap}{l:List Env}(hl:h.FunFrames base l)(R:List Addr):h.FunFrames (PySem.W.hideAll h (kh l++R)) l:=
 PySem.W.funFrames_hide hl fun env he a e=>vL _ (amz l env he a e)
theorem KW{h:Heap}{as:List Addr}{b:Addr}(hb:b∈as):(PySem.W.hideAll h as).get? b=none:=agJ as hb
theorem Zn{base h:Heap}{e:Addr}{cls a0:aq}(t:h.TracedW base e cls a0):∃T,Ep h e cls T/\base.get? T=none:=by
 obtain ⟨oe,vs,T,oT,ts,U,h2,h3,h4,h5,h6,h7,h8,h9⟩:=t;exact ⟨T,⟨oe,vs,oT,ts,a0,U,h2,h3,h4,h6,h7,h8,h9⟩,h5⟩
theorem Ep.Zo{base h:Heap}{e T:Addr}{cls:aq}(f:Ep h e cls T)(hT:base.get? T=none):∃a0,h.TracedW base e cls a0:=by
 obtain ⟨oe,vs,oT,ts,a0,U,h2,h3,h4,h6,h7,h8,h9⟩:=f;exact ⟨a0,oe,vs,T,oT,ts,U,h2,h3,h4,hT,h6,h7,h8,h9⟩
theorem Ep.entry{h:Heap}{e T:Addr}{cls:aq}(f:Ep h e cls T):∃oT ts,h.get? T=some oT/\oT.data=.fields ts:=by
 obtain ⟨oe,vs,oT,ts,a0,U,h2,h3,h4,h6,h7,h8,h9⟩:=f;exact ⟨oT,ts,h7,h8⟩
structure Es(cls:aq)(E:XK)(X:Cx):Prop where
 uj:X.stack=X.env::X.outer
 fr:X.env.frame=some X.env.locals
 ex:X.ex=[]
 calm:X.calm=true
 xe:∀e s',bV (model X.prog X.w) X.A (leaving X.env e) (fun _ B9=>qT cls X.prog X.w X.outer X.vS X.kG E e B9) (fun e' B9=>qT cls X.prog X.w X.outer X.vS X.kG E e' B9) s'->X.xe e s'
 own:NT (model X.prog X.w) X.A X.env X.xe
section
variable{X:Cx}{pins:List (Addr×Obj)}{σ:St}{H:Hp}{s:a9}{cls:aq}{E:XK}
theorem amA(L:Es cls E X):kh X.stack=X.env.locals::X.fs:=by
 rw[L.uj];show List.filterMap (·.frame) (X.env::X.outer)=_;rw[Jw,L.fr];rfl
theorem Inv.left{h':Heap}{R:List Addr}(L:Es cls E X)(I:Inv X pins σ H s)(n:Nt (kh X.stack) R s.heap h')(hR:∀b∈R,X.kG.heap.get? b=none):Un X.fs [] X.vS H X.kG.heap h':=by
 have b:=I.base;rw[L.ex]at b;refine b.Er n (fun c hc hn=>?_) hR;rw[amA L]at hc;rcases f6.mp hc with rfl|hc
 .cases q:X.kG.heap.get? X.env.locals with
  |none=>rfl
  |some o=>exact absurd (iK q) (Nat.not_lt.mpr I.ok.above)
 .exact absurd hc hn
theorem Hc(I:Inv X pins σ H s)(hx:X.ex=[]){b:Addr}(h:s.heap.get? b=none):X.kG.heap.get? b=none:=by
 cases q:X.kG.heap.get? b with
 |none=>rfl
 |some o=>
  obtain ⟨o',e⟩:=I.base.there b o q (by rw[hx];simp);rw[h]at e;cases e
theorem amB(L:Es cls E X)(I:Inv X pins σ H s){h':Heap}{e:Addr}(hm:Heap.MadeExcOf s.heap h' e cls [])(hE:E cls none H):X.xe (.ref e) {s with heap:=h'}:=by
 refine L.xe _ _ ?_;have fs:=I.stack;have pC:s.heap.FunFrames (PySem.W.hideAll s.heap (kh X.stack++[])) X.stack:=P2 fs [];have vf:X.A.frames=some (X.env::X.outer):=by rw[<-L.uj];exact I.ok.frames
 have st:X.stack=X.env::X.outer:=L.uj;refine wpAny_leaves_madeW (base:=PySem.W.hideAll s.heap (kh X.stack++[])) (h:=s.heap) vf L.fr (P0 _ _) (by rw[<-st];exact pC) hm fun h2 t f1 f2 f3 f4=>?_;obtain ⟨k1,k2,k3,k4⟩:=f1;obtain ⟨T,fl,hT⟩:=Zn k4;have n:Nt (kh X.stack) [] s.heap h2:=P1 fs rfl k1 ((Heap.UpToSlots.of_keeps hm.keeps).trans f4);have Zp:s.heap.get? T=none:=by
  cases q:s.heap.get? T with
  |none=>rfl
  |some o=>
   exfalso
   by_cases z:T∈kh X.stack
   .obtain ⟨_,o',e',nf⟩:=fs.mem z;obtain ⟨sl,e2⟩:=n.slot T o' e' z;obtain ⟨oT,ts,e3,d3⟩:=fl.entry;rw[e2]at e3;cases e3;exact nf _ d3
   .rw[NS _ q (by simpa using z)]at hT;cases hT
 refine ⟨e,T,H,rfl,I.os,I.bare,?_,?_,Hc I L.ex hm.new,Hc I L.ex Zp,I.bS.none_of hm.new,I.bS.none_of Zp,fl,hE⟩
 .exact Inv.left L I n (fun b hb=>absurd hb (by simp))
 .exact I.bS.Er n I.Gh fun b hb=>absurd hb (by simp)
theorem wt(L:Es cls E X):Passes (qT cls X.prog X.w) X E:=by
 intro pins σ H s e s' I hc;obtain ⟨a,T,H',rfl,os,bare,un,bS,ha,hT,yK,P4,fl,hE⟩:=hc;have I':Inv X pins σ H' {s' with os:=s.os}:=by
  obtain ⟨hh,g,d,t,B7⟩:=s';exact I.call (h':=hh) (g':=g) (d':=d) (t':=t) (ch:=[]) un bS bare (fun b z=>absurd z (by simp))
 have es:({s' with os:=s.os}:a9)=s':=by
  obtain ⟨hh,g,d,t,B7⟩:=s';have:B7=s.os:=os;subst this;rfl
 rw[es]at I';refine L.xe _ _ ?_;have fs:=I'.stack;have st:X.stack=X.env::X.outer:=L.uj;have vf:X.A.frames=some (X.env::X.outer):=by rw[<-st];exact I.ok.frames
 have aF:(PySem.W.hideAll s'.heap (kh X.stack++[a,T])).get? a=none:=KW (by simp);have TF:(PySem.W.hideAll s'.heap (kh X.stack++[a,T])).get? T=none:=KW (by simp);obtain ⟨a0,tr⟩:=fl.Zo TF;refine wpAny_leaves_onW (base:=PySem.W.hideAll s'.heap (kh X.stack++[a,T])) (cls:=cls) (a0:=a0) vf L.fr ⟨P0 _ _,aF,by rw[<-st];exact P2 fs [a,T],tr⟩ fun h2 f1 f4=>?_;obtain ⟨k1,k2,k3,k4⟩:=f1;obtain ⟨T2,Hd,rF⟩:=Zn k4;have n:Nt (kh X.stack) [a,T] s'.heap h2:=P1 fs rfl k1 f4;have aN:=Hc I L.ex ha;have TN:=Hc I L.ex hT;have hR:∀b∈[a,T],X.kG.heap.get? b=none:=fun b hb=>by
  simp at hb;rcases hb with rfl|rfl
  .exact aN
  .exact TN
 have KY:∀b∈[a,T],H' b=none:=fun b hb=>by
  simp at hb;rcases hb with rfl|rfl
  .exact yK
  .exact P4
 have Zq:s'.heap.get? T2=none∨T2∈[a,T]:=by
  by_cases y:T2∈[a,T]
  .exact .inr y
  .refine .inl ?_;cases q:s'.heap.get? T2 with
   |none=>rfl
   |some o=>
    exfalso
    by_cases z:T2∈kh X.stack
    .obtain ⟨_,o',e',nf⟩:=fs.mem z;obtain ⟨sl,e2⟩:=n.slot T2 o' e' z;obtain ⟨oT,ts,e3,d3⟩:=Hd.entry;rw[e2]at e3;cases e3;exact nf _ d3
    .rw[NS _ q (fun w=>(kN.mp w).elim z y)]at rF;cases rF
 refine ⟨a,T2,H',rfl,I'.os,I'.bare,Inv.left L I' n hR,I'.bS.Er n I'.Gh KY,aN,?_,yK,?_,Hd,hE⟩
 .rcases Zq with z|z
  .exact Hc I' L.ex z
  .exact hR _ z
 .rcases Zq with z|z
  .exact I'.bS.none_of z
  .exact KY _ z
end
def amD(cls:aq)(E:XK):TS:=fun _ _ H=>E cls none H
theorem P6{X:Cx}{C:Addr}{E:XK}{x:Str}{np lH pos:Pos}(L:Es (.ref C) E X)(hC:KU X.K C)(hg:Gl X x)(hm:X.mg x=some (.ref C))(qM:(x==("__debug__":Str))=false:=by decide):
  PS X (.Raise (some (.Call (.Name x np) [] [] lH)) none pos) (amD (.ref C) E):=by
 intro pins s σ H D I h;obtain ⟨nm,q,N,bs,hdct,sn,sub,ab,col,dd,k0,k1,k2,k3,k5,lk,nk,ni⟩:=hC.ex;have hN:=Heap.Ns.of_isNs (PySem.W.isNs_of_in I.m8 nk);refine wpAny_Raise_call_sub (C:=C) (nm:=nm) (q:=q) (N:=N) (bs:=bs) (bm:=PY) (hdct:=hdct) (sn:=sn) (sub:=sub) (ab:=ab) (col:=col) (dd:=dd) (k0:=k0) (k1:=k1) (k2:=k2) (k3:=k3) (k5:=k5)
  PySem.F.excBase_ValueError (I.ok.hd L.calm) rfl (PySem.W.nsMap_none_of_in I.m8 nk ni) (yC I hg hm ⟨rfl,?_⟩ qM)
 exact evalArgs_empty ⟨rfl,dU _,I.m8 _ _ lk,hN,fun h' e hm=>amB L I hm h⟩
theorem qU{C:Addr}{P:eS}{w:eJ}{K:cB}{mg:Str->Option aq}{base:Heap}{N:List Str}{qual:Str}{scope:jP}{f:Addr}{cd:aq}{A:gc}{outer:List Env}{s:a9}{H:Hp}{E:XK}:
  Es (.ref C) E (we (qT (.ref C) P w) P w K mg base N qual scope f cd A outer s H E):=
 ⟨rfl,rfl,rfl,rfl,fun _ _ h=>h,NT.leaving⟩
theorem eW.KZ{P:eS}{w:eJ}{K:cB}{mg:Str->Option aq}{base:Heap}{C:Addr}{x qual:Str}{st:Stmt}{f:Addr}{fd:dn}{N ps:List Str}{k:Nat}{sp:Sp}(F:eW K x qual st f fd)(S:fA N ps (da st))(len:∀vs H Q E,sp vs H Q E->vs.length=ps.length)(sd:∀(c6:aq) (A:gc) (outer:List Env) (s:a9) (H:Hp) (vs:List V) (Q:VK) (E:XK),dQ k (A.deeper (envOfC qual (da st) s.heap.objs.size f c6))->sp vs H Q E->
   ∃t,rC (we (qT (.ref C) P w) P w K mg base N qual (da st) f c6 A outer s H E) (sk st) t/\t {nx:=fun _ H'=>Q .eM H',rt:=Q} (start N vs) H):c8 P w K mg base (qT (.ref C) P w) (k+1) f fd ps sp:=by
 obtain ⟨oc,od,kV,doc,pm,an,c6,ct,oi,rfl,lk,qJ⟩:=F.ex;refine Pk lk qJ S len fun A outer s H vs Q E hr vd=>?_;exact sd c6 A outer s H vs Q E hr vd
theorem c8.e{P:eS}{w:eJ}{K:cB}{mg:Str->Option aq}{base:Heap}{CX:o7}{k:Nat}{f:Addr}{fd:dn}{ps:List Str}{sp:Sp}(F:c8 P w K mg base bJ k f fd ps sp):c8 P w K mg base CX k f fd ps sp:=
 ⟨F.len,fun A outer s H args us vs Q E hr he hb hv hs=>Dx (F.run A outer s H args us vs Q E hr he hb hv hs) fun r s' q=>by
  cases r with
  |error e=>exact q.elim
  |ok fl=>cases fl<;>exact q⟩
abbrev Cx.wu(X:Cx)(e:Addr):Cx:={X with A:=X.A.mark (some (.ref e)),calm:=false,xe:=fun _ _=>False}
theorem Inv.wu{X:Cx}{pins:List (Addr×Obj)}{σ:St}{H:Hp}{s:a9}(I:Inv X pins σ H s)(e:Addr):Inv (X.wu e) pins σ H s:=
 ⟨⟨I.ok.mod,I.ok.kind,I.ok.glob,I.ok.blt,I.ok.above,I.ok.inj,I.ok.has,I.ok.DR,fun z=>absurd z (by simp),I.ok.frames,I.ok.uj,I.ok.Gg,I.ok.bs,I.ok.um,I.ok.DS,I.ok.DT,I.ok.r6,I.ok.xp⟩,
  I.os,I.bare,I.base,I.loc,I.cell,I.free,I.qe,I.pin,I.bS,I.len⟩
theorem Inv.Eu{X:Cx}{pins:List (Addr×Obj)}{σ:St}{H:Hp}{s:a9}{e:Addr}(ok:X.Ok)(I:Inv (X.wu e) pins σ H s):Inv X pins σ H s:=
 ⟨ok,I.os,I.bare,I.base,I.loc,I.cell,I.free,I.qe,I.pin,I.bS,I.len⟩
theorem SP.Eu{X:Cx}{pins:List (Addr×Obj)}{D:Ends}{f:Flow}{s':a9}{e:Addr}(ok:X.Ok)(h:SP (X.wu e) pins D f s'):SP X pins D f s':=by
 cases f with
 |next=>obtain ⟨cV,H',I,q⟩:=h;exact ⟨cV,H',I.Eu ok,q⟩
 |brk=>obtain ⟨cV,H',I,q⟩:=h;exact ⟨cV,H',I.Eu ok,q⟩
 |cont=>obtain ⟨cV,H',I,q⟩:=h;exact ⟨cV,H',I.Eu ok,q⟩
 |ret u=>obtain ⟨v,cV,H',I,r,q⟩:=h;exact ⟨v,cV,H',I.Eu ok,r,q⟩
def amE(sp:Sp)(i:Nat)(t:TA)(ts:TS):TS:=fun D σ H=>t σ H fun vs H1=>sp vs H1 (fun y H2=>D.nx (σ.set i (some y)) H2) fun _ _ H2=>ts D σ H2
theorem amF{X:Cx}{C:Addr}{k:Nat}{f:Addr}{fd:dn}{ps:List Str}{sp:Sp}{i:Nat}{x fx cx:Str}{p1 p2 lH apos np Oe pos:Pos}{e:Expr}{es:List Expr}{b0:Stmt}{wu:List Stmt}{t:TA}{ts:TS}(hN:X.N.Nodup)(hi:X.N[i]? =some x)(hx:Loc X.env.scope x)(F:c8 X.prog X.w X.K X.mg X.base (qT (.ref C) X.prog X.w) k f fd ps sp)(hr:dQ k X.A)(hg:Gl X fx)(hm:X.mg fx=some (.ref f))(hk:pZ X.K (.ref f)=true)(hb:Binds X.K fd ps [])(ha:PA X.va (e::es) t)(hC:KU X.K C)(hcg:Gl X cx)(Ew:X.mg cx=some (.ref C))(hsu:∀a,rC (X.wu a) (b0::wu) ts)(uj:X.stack=X.env::X.outer)(fr:X.env.frame=some X.env.locals)(qM:(fx==("__debug__":Str))=false:=by decide)(hdc:(cx==("__debug__":Str))=false:=by decide)(he:iP (e::es) X.env=(false,eval e X.env)::iP es X.env:=by rfl)(l6:(backTo lH (iP es X.env)).any (·.1)=false:=by rfl)(hs:swapsWith (.Call (.Name fx p2) (e::es) [] lH) (some (.Name x p1)) apos.line X.env=pure false:=by rfl)(hf:X.fn x=true∨X.env.scope.names.lookup x=some .local:=by first|exact .inl rfl|exact .inr rfl|assumption):
  PS X (.Try [.Assign [.Name x p1] (.Call (.Name fx p2) (e::es) [] lH) apos] [.ExceptHandler (some (.Name cx np)) none (b0::wu) Oe] [] [] pos) (amE sp i t ts):=by
 intro pins s σ H D I h;refine wpAny_Try_except (VL (agR (zR (yC I hg hm ?_ qM)) hs));refine Jx (h₀:=X.base) I.ok.mod.BQ hk (ou (ha lH pins s σ H _ (I.uq _) h) (fun us s1 ⟨vs,H1,Zr,r,q⟩=>⟨Zr.m8,?_⟩) fun _ _ z=>z.elim) he l6;have I1:Inv X pins σ H1 s1:=Zr.vW;have hl:us.length=ps.length:=by rw[<-r.length];exact F.len _ _ _ _ q
 have bb:=hb s1 us I1.m8 (by rw[nZ];exact hl);rw[nZ]at bb;refine NW (Dx (F.run X.A X.stack s1 H1 ⟨us,[]⟩ us vs _ _ hr I1.Kr bb r q) fun rs s' hq=>?_);cases rs with
 |ok fl=>
  cases fl with
  |ret u=>
   obtain ⟨y,H2,I2,rv,q2⟩:=I1.after hq;exact J6 I2 hN hi hx rv (fun s2 I3=>FQ (FQ ⟨_,H2,I3,q2⟩)) hf
  |next=>exact False.elim hq
  |brk=>exact False.elim hq
  |cont=>exact False.elim hq
 |error er=>
  obtain ⟨a,T,H',rfl,os,bare,un,bS,Zs,hTN,yK,P4,fl,hE⟩:=hq;have fs:s'.heap.FunFrames X.base X.stack:=by
   have I':=I1.OX (s':=s') (ch:=[]) os un bS bare (fun b z=>absurd z (by simp));exact I'.stack
  have vf:X.A.frames=some (X.env::X.outer):=by rw[<-uj];exact I.ok.frames
  have aF:(PySem.W.hideAll s'.heap (kh X.stack++[a,T])).get? a=none:=KW (by simp);have TF:(PySem.W.hideAll s'.heap (kh X.stack++[a,T])).get? T=none:=KW (by simp);have KY:∀b∈[a,T],H' b=none:=fun b hb=>by
   simp at hb;rcases hb with rfl|rfl
   .exact yK
   .exact P4
  have hR:∀b∈[a,T],s1.heap.get? b=none:=fun b hb=>by
   simp at hb;rcases hb with rfl|rfl
   .exact Zs
   .exact hTN
  have frH:∀b∈kh X.stack,H' b=none:=fun b hb=>by
   obtain ⟨_,o,ho,_⟩:=I1.stack.mem hb;exact un.free b o ho (I1.Gh b hb) (by simp)
  have back:∀h5:Heap,(PySem.W.hideAll s'.heap (kh X.stack++[a,T])).StaysIn h5->s'.heap.UpToSlots h5->Inv X pins σ H' {s' with heap:=h5}:=fun h5 k5 K1=>by
   have n:Nt (kh X.stack) [a,T] s'.heap h5:=P1 fs rfl k5 K1;exact I1.OX (s':={s' with heap:=h5}) (ch:=[]) os (un.Er n (fun b hb hn=>absurd hb hn) hR) (bS.Er n frH KY) bare (fun b z=>absurd z (by simp))
  obtain ⟨a0,tr⟩:=fl.Zo TF;have fly:Heap.FlyingW (PySem.W.hideAll s'.heap (kh X.stack++[a,T])) (X.env::X.outer) a (.ref C) a0 s'.heap:=⟨P0 _ _,aF,by rw[<-uj];exact P2 fs [a,T],tr⟩;show bV _ _ (noteFrame (.ref a) X.env) _ _ s';refine wpAny_looks_onW vf fr fly fun h4 held Zt=>?_;refine wpAny_landsW held fun h5 Ex K1=>?_;have I5:=back h5 Ex.1 (Zt.trans K1);obtain ⟨nm,q',N,bs,hdct,sn,sub,ab,col,dd,k0,k1,k2,k3,k5,lk,nk,ni⟩:=hC.ex;obtain ⟨ob,AL,amM⟩:=Ex.there;refine wpAny_handleBy_cons (codeAny_handlers_test (yC (X:=X.wu a) (I5.wu a) hcg Ew ?_ hdc)) (by intro z;cases z);refine wpAny_excMatches_sub_self (I5.m8 _ _ lk) AL amM (by decide +kernel) (codeAny_handlers_suite ?_);refine lands_againW Ex fun h6 P7 sm6=>?_;have I6:=back h6 P7.1 ((Zt.trans K1).trans sm6);refine ou (hsu a pins _ σ H' D (I6.wu a) hE) (fun fw s2 q2=>?_) fun _ _ z=>z.elim;exact q2.Eu I.ok
end L2
namespace WD
end WD
open L2
namespace WD
theorem fP{N P:List Str}{sc:jP}(h:sc.kind=.function/\sc.isCoroutine=false/\sc.isGenerator=false/\N.Nodup/\N.take P.length=P/\(∀x∈P,sc.names.lookup x=some .local∨sc.names.lookup x=some .cell)/\∀y∈sc.names,y.2≠.free):fA N P sc:=
 let ⟨a,b,c,d,e,f,g⟩:=h
 ⟨a,b,c,d,e,f,g⟩
def top(i:Nat):Stmt:=PySem.Challenge.pw_whokeepsdesk_s01_answers.main.body.getD i (.Pass ⟨0,0,0,0⟩)
abbrev P8:Stmt:=inClass (top 1) 0
noncomputable abbrev Zu:List Str:=["self","numbers"]
noncomputable abbrev K2:=Zu
theorem amO:fA Zu K2 (da P8):=fP (by decide +kernel)
abbrev P9:Stmt:=inClass (top 1) 1
noncomputable abbrev amP:List Str:=["self"]
noncomputable abbrev He:List Str:=["self"]
theorem amQ:fA amP He (da P9):=fP (by decide +kernel)
abbrev Qa:Stmt:=inClass (top 1) 2
noncomputable abbrev amR:List Str:=["self","number"]
noncomputable abbrev K3:List Str:=["self"]
theorem Zv:fA amR K3 (da Qa):=fP (by decide +kernel)
abbrev Qb:Stmt:=inClass (top 1) 3
noncomputable abbrev amS:List Str:=["self","count","many"]
noncomputable abbrev Qc:List Str:=["self","count"]
theorem Zw:fA amS Qc (da Qb):=fP (by decide +kernel)
abbrev Qe:Stmt:=inClass (top 12) 0
noncomputable abbrev Zx:List Str:=["self","label","weak","lead"]
noncomputable abbrev Qg:=Zx
theorem amT:fA Zx Qg (da Qe):=fP (by decide +kernel)
abbrev Qh:Stmt:=inClass (top 13) 0
noncomputable abbrev Zy:List Str:=["self","holder","place","lead"]
noncomputable abbrev Qi:=Zy
theorem amU:fA Zy Qi (da Qh):=fP (by decide +kernel)
abbrev Hf:Stmt:=inClass (top 14) 0
noncomputable abbrev Qj:List Str:=["self","kinds","sizes","fields","roots","hold"]
noncomputable abbrev Hg:List Str:=["self","kinds","sizes","fields","roots"]
theorem Zz:fA Qj Hg (da Hf):=fP (by decide +kernel)
abbrev Qk:Stmt:=top 15
noncomputable abbrev amV:List Str:=[]
noncomputable abbrev Ql:List Str:=[]
theorem amW:fA amV Ql (da Qk):=fP (by decide +kernel)
abbrev Qm:Stmt:=top 16
noncomputable abbrev amX:List Str:=["roots","fields","holds","place","lead","number","own","field"]
noncomputable abbrev Qn:List Str:=["roots","fields"]
theorem ZA:fA amX Qn (da Qm):=fP (by decide +kernel)
abbrev Qo:Stmt:=top 17
noncomputable abbrev amY:List Str:=["number"]
noncomputable abbrev uz:List Str:=["number"]
theorem amZ:fA amY uz (da Qo):=fP (by decide +kernel)
abbrev K4:Stmt:=top 18
noncomputable abbrev ZC:List Str:=["ends","holders","grouped","number","end","holder"]
noncomputable abbrev Qp:List Str:=["ends","holders"]
theorem ZD:fA ZC Qp (da K4):=fP (by decide +kernel)
abbrev K5:Stmt:=top 19
noncomputable abbrev ZE:List Str:=["graph","numbers","number"]
noncomputable abbrev AM:List Str:=["graph","numbers"]
theorem ZF:fA ZE AM (da K5):=fP (by decide +kernel)
abbrev K6:Stmt:=top 20
noncomputable abbrev ZG:List Str:=["row","reader","count","kinds","sizes","fields","number","roots","own"]
noncomputable abbrev Qq:List Str:=["row"]
theorem ZH:fA ZG Qq (da K6):=fP (by decide +kernel)
abbrev Qr:Stmt:=top 21
noncomputable abbrev am0:List Str:=["reader","count","fields","place","label","weak","lead"]
noncomputable abbrev Qs:List Str:=["reader","count"]
theorem ZI:fA am0 Qs (da Qr):=fP (by decide +kernel)
abbrev Qt:Stmt:=top 22
noncomputable abbrev am1:List Str:=["reader","count","roots","place"]
noncomputable abbrev Qu:List Str:=["reader","count"]
theorem ZJ:fA am1 Qu (da Qt):=fP (by decide +kernel)
abbrev Qv:Stmt:=top 23
noncomputable abbrev am2:List Str:=["reader","most","number"]
noncomputable abbrev Hh:List Str:=["reader","most"]
theorem ZK:fA am2 Hh (da Qv):=fP (by decide +kernel)
abbrev Qw:Stmt:=top 24
noncomputable abbrev am3:List Str:=["graph","row","kind","size","own","field"]
noncomputable abbrev Qx:List Str:=["graph"]
theorem ZL:fA am3 Qx (da Qw):=fP (by decide +kernel)
abbrev Qy:Stmt:=inClass (top 27) 0
noncomputable abbrev am4:List Str:=["self"]
noncomputable abbrev Qz:List Str:=["self"]
theorem am5:fA am4 Qz (da Qy):=fP (by decide +kernel)
abbrev QA:Stmt:=inClass (top 27) 1
noncomputable abbrev ZM:List Str:=["self","graph"]
noncomputable abbrev K7:=ZM
theorem am6:fA ZM K7 (da QA):=fP (by decide +kernel)
abbrev QB:Stmt:=inClass (top 27) 2
noncomputable abbrev am7:List Str:=["self"]
noncomputable abbrev QC:List Str:=["self"]
theorem am8:fA am7 QC (da QB):=fP (by decide +kernel)
abbrev QD:Stmt:=top 29
noncomputable abbrev am9:List Str:=["graph","taken","cut","barred_objects","barred_holds","found","waiting","at","number","lead"]
noncomputable abbrev Hi:List Str:=["graph","taken","cut"]
theorem ZN:fA am9 Hi (da QD):=fP (by decide +kernel)
abbrev QE:Stmt:=top 30
noncomputable abbrev ana:List Str:=["numbers","marks","number"]
noncomputable abbrev QF:List Str:=["numbers"]
theorem ZO:fA ana QF (da QE):=fP (by decide +kernel)
abbrev QG:Stmt:=top 31
noncomputable abbrev ZP:List Str:=["graph","taken","cut"]
noncomputable abbrev yL:=ZP
theorem anb:fA ZP yL (da QG):=fP (by decide +kernel)
abbrev K8:Stmt:=top 32
noncomputable abbrev ZQ:List Str:=["graph","taken","cut","left","number"]
noncomputable abbrev xN:List Str:=["graph","taken","cut"]
theorem ZR:fA ZQ xN (da K8):=fP (by decide +kernel)
abbrev QH:Stmt:=top 33
noncomputable abbrev anc:List Str:=["graph","target","taken","cut","found","way","holder","number"]
noncomputable abbrev QI:List Str:=["graph","target","taken","cut"]
theorem ZS:fA anc QI (da QH):=fP (by decide +kernel)
abbrev QJ:Stmt:=top 35
noncomputable abbrev ane:List Str:=["graph","freeing","number","freed"]
noncomputable abbrev QK:List Str:=["graph"]
theorem ZT:fA ane QK (da QJ):=fP (by decide +kernel)
abbrev QL:Stmt:=top 36
noncomputable abbrev anf:List Str:=["freeing"]
noncomputable abbrev QM:List Str:=["freeing"]
theorem ZU:fA anf QM (da QL):=fP (by decide +kernel)
abbrev Hj:Stmt:=top 37
noncomputable abbrev QN:List Str:=["graph","numbers","gone","number","hold","roots","fields","own","holder","place","lead","field"]
noncomputable abbrev QO:List Str:=["graph","numbers"]
theorem ZV:fA QN QO (da Hj):=fP (by decide +kernel)
abbrev QP:Stmt:=top 39
noncomputable abbrev ZW:List Str:=["graph","keeper","kept"]
noncomputable abbrev QQ:=ZW
theorem ang:fA ZW QQ (da QP):=fP (by decide +kernel)
abbrev QR:Stmt:=top 40
noncomputable abbrev anh:List Str:=["graph","live","keepers","number","kept","ordered"]
noncomputable abbrev K9:List Str:=["graph"]
theorem ZX:fA anh K9 (da QR):=fP (by decide +kernel)
abbrev QS:Stmt:=top 41
noncomputable abbrev ani:List Str:=["graph","pairs","number"]
noncomputable abbrev QT:List Str:=["graph"]
theorem ZY:fA ani QT (da QS):=fP (by decide +kernel)
abbrev QU:Stmt:=top 42
noncomputable abbrev anj:List Str:=["graph","grouped","number"]
noncomputable abbrev QV:List Str:=["graph"]
theorem ZZ:fA anj QV (da QU):=fP (by decide +kernel)
abbrev Hk:Stmt:=inClass (top 44) 0
noncomputable abbrev QW:List Str:=["self","graph","target","hold"]
noncomputable abbrev QX:List Str:=["self","graph","target"]
theorem Z0:fA QW QX (da Hk):=fP (by decide +kernel)
abbrev QY:Stmt:=inClass (top 44) 1
noncomputable abbrev ank:List Str:=["self","start","end","found","number"]
noncomputable abbrev Ld:List Str:=["self","start","end"]
theorem Z1:fA ank Ld (da QY):=fP (by decide +kernel)
abbrev QZ:Stmt:=inClass (top 44) 2
noncomputable abbrev anl:List Str:=["self","start","found","waiting","at","steps","number","end"]
noncomputable abbrev Le:List Str:=["self","start"]
theorem Z2:fA anl Le (da QZ):=fP (by decide +kernel)
abbrev Hl:Stmt:=inClass (top 44) 3
noncomputable abbrev Q0:List Str:=["self","holder","forth","back","number"]
noncomputable abbrev Q1:List Str:=["self","holder"]
theorem Z3:fA Q0 Q1 (da Hl):=fP (by decide +kernel)
abbrev Q2:Stmt:=inClass (top 44) 4
noncomputable abbrev anm:List Str:=["self","number","hold"]
noncomputable abbrev Q3:List Str:=["self","number"]
theorem Z4:fA anm Q3 (da Q2):=fP (by decide +kernel)
abbrev Q4:Stmt:=inClass (top 44) 5
noncomputable abbrev ano:List Str:=["self","number","hold"]
noncomputable abbrev Q5:List Str:=["self","number"]
theorem Z5:fA ano Q5 (da Q4):=fP (by decide +kernel)
abbrev Q6:Stmt:=inClass (top 44) 6
noncomputable abbrev anp:List Str:=["self","number","needed"]
noncomputable abbrev Q7:List Str:=["self","number"]
theorem Z6:fA anp Q7 (da Q6):=fP (by decide +kernel)
abbrev Q8:Stmt:=inClass (top 44) 7
noncomputable abbrev anq:List Str:=["self","number","hold"]
noncomputable abbrev Q9:List Str:=["self","number"]
theorem Z7:fA anq Q9 (da Q8):=fP (by decide +kernel)
abbrev Ra:Stmt:=top 45
noncomputable abbrev anr:List Str:=["graph","target","parting"]
noncomputable abbrev Lf:List Str:=["graph","target"]
theorem Z8:fA anr Lf (da Ra):=fP (by decide +kernel)
abbrev Lg:Stmt:=top 46
noncomputable abbrev Z9:List Str:=["graph","target","found","number","hold"]
noncomputable abbrev Rb:List Str:=["graph","target"]
theorem aaa:fA Z9 Rb (da Lg):=fP (by decide +kernel)
abbrev Lh:Stmt:=top 47
noncomputable abbrev aab:List Str:=["graph","target","parting","number","left_by_holder","own","firsts","ways","first"]
noncomputable abbrev Rc:List Str:=["graph","target"]
theorem aac:fA aab Rc (da Lh):=fP (by decide +kernel)
abbrev Rf:Stmt:=top 48
noncomputable abbrev ans:List Str:=["graph","first","goal","left_by_holder","way","holder","number"]
noncomputable abbrev Rg:List Str:=["graph","first","goal","left_by_holder"]
theorem aad:fA ans Rg (da Rf):=fP (by decide +kernel)
abbrev Rh:Stmt:=top 58
noncomputable abbrev aae:List Str:=["graph","objects","holds"]
noncomputable abbrev AN:=aae
theorem ant:fA aae AN (da Rh):=fP (by decide +kernel)
abbrev Li:Stmt:=top 59
noncomputable abbrev aaf:List Str:=["numbers","bound","number"]
noncomputable abbrev Lj:List Str:=["numbers","bound"]
theorem aag:fA aaf Lj (da Li):=fP (by decide +kernel)
abbrev Ri:Stmt:=top 60
noncomputable abbrev anu:List Str:=["graph","number"]
noncomputable abbrev Hm:List Str:=["graph","number"]
theorem anv:fA anu Hm (da Ri):=fP (by decide +kernel)
abbrev Rj:Stmt:=top 61
noncomputable abbrev anw:List Str:=["desk","numbers","lists","graph"]
noncomputable abbrev aah:List Str:=["desk","numbers","lists"]
theorem aai:fA anw aah (da Rj):=fP (by decide +kernel)
abbrev Rk:Stmt:=top 62
noncomputable abbrev aaj:List Str:=["desk","numbers","lists"]
noncomputable abbrev aak:=aaj
theorem anx:fA aaj aak (da Rk):=fP (by decide +kernel)
abbrev Rl:Stmt:=top 63
noncomputable abbrev anz:List Str:=["desk","numbers","lists","told","hold"]
noncomputable abbrev aal:List Str:=["desk","numbers","lists"]
theorem aam:fA anz aal (da Rl):=fP (by decide +kernel)
abbrev Rm:Stmt:=top 64
noncomputable abbrev aan:List Str:=["desk","numbers","lists"]
noncomputable abbrev aao:=aan
theorem anA:fA aan aao (da Rm):=fP (by decide +kernel)
abbrev Rn:Stmt:=top 65
noncomputable abbrev anB:List Str:=["desk","numbers","lists","refusal"]
noncomputable abbrev aap:List Str:=["desk","numbers","lists"]
theorem aaq:fA anB aap (da Rn):=fP (by decide +kernel)
abbrev Ro:Stmt:=top 66
noncomputable abbrev anC:List Str:=["desk","numbers","lists","refusal","way"]
noncomputable abbrev aar:List Str:=["desk","numbers","lists"]
theorem aas:fA anC aar (da Ro):=fP (by decide +kernel)
abbrev Rp:Stmt:=top 67
noncomputable abbrev anD:List Str:=["desk","numbers","lists","refusal"]
noncomputable abbrev aat:List Str:=["desk","numbers","lists"]
theorem aau:fA anD aat (da Rp):=fP (by decide +kernel)
abbrev Rq:Stmt:=top 68
noncomputable abbrev anE:List Str:=["desk","numbers","lists","refusal"]
noncomputable abbrev aav:List Str:=["desk","numbers","lists"]
theorem aaw:fA anE aav (da Rq):=fP (by decide +kernel)
abbrev Rr:Stmt:=top 69
noncomputable abbrev anF:List Str:=["desk","numbers","lists","told","number","keepers","keeper"]
noncomputable abbrev aax:List Str:=["desk","numbers","lists"]
theorem aay:fA anF aax (da Rr):=fP (by decide +kernel)
abbrev Rt:Stmt:=top 70
noncomputable abbrev anG:List Str:=["desk","numbers","lists","refusal","together"]
noncomputable abbrev aaz:List Str:=["desk","numbers","lists"]
theorem aaA:fA anG aaz (da Rt):=fP (by decide +kernel)
abbrev Ru:Stmt:=top 71
noncomputable abbrev anH:List Str:=["desk","numbers","lists","told","pair"]
noncomputable abbrev aaB:List Str:=["desk","numbers","lists"]
theorem aaC:fA anH aaB (da Ru):=fP (by decide +kernel)
abbrev Rv:Stmt:=top 72
noncomputable abbrev anI:List Str:=["desk","numbers","lists","told","grouped","kind","own","together"]
noncomputable abbrev aaD:List Str:=["desk","numbers","lists"]
theorem aaE:fA anI aaD (da Rv):=fP (by decide +kernel)
abbrev Rw:Stmt:=top 73
noncomputable abbrev anJ:List Str:=["desk","numbers","lists","refusal","freed"]
noncomputable abbrev aaF:List Str:=["desk","numbers","lists"]
theorem aaG:fA anJ aaF (da Rw):=fP (by decide +kernel)
abbrev Rx:Stmt:=top 74
noncomputable abbrev anK:List Str:=["desk","numbers","lists","freeing"]
noncomputable abbrev aaH:List Str:=["desk","numbers","lists"]
theorem aaI:fA anK aaH (da Rx):=fP (by decide +kernel)
abbrev Ry:Stmt:=top 75
noncomputable abbrev anL:List Str:=["desk","numbers","lists","refusal"]
noncomputable abbrev aaJ:List Str:=["desk","numbers","lists"]
theorem aaK:fA anL aaJ (da Ry):=fP (by decide +kernel)
abbrev Rz:Stmt:=top 76
noncomputable abbrev anM:List Str:=["desk","numbers","lists","refusal","ways","told","way"]
noncomputable abbrev aaL:List Str:=["desk","numbers","lists"]
theorem aaM:fA anM aaL (da Rz):=fP (by decide +kernel)
abbrev RA:Stmt:=top 77
noncomputable abbrev anN:List Str:=["desk","numbers","lists","refusal","freed","size"]
noncomputable abbrev aaN:List Str:=["desk","numbers","lists"]
theorem aaO:fA anN aaN (da RA):=fP (by decide +kernel)
abbrev RB:Stmt:=top 78
noncomputable abbrev aaP:List Str:=["desk","numbers","lists"]
noncomputable abbrev aaQ:=aaP
theorem anO:fA aaP aaQ (da RB):=fP (by decide +kernel)
abbrev RC:Stmt:=top 80
noncomputable abbrev anP:List Str:=["calls","desk","reader","told","answer"]
noncomputable abbrev Co:List Str:=["calls"]
theorem aaR:fA anP Co (da RC):=fP (by decide +kernel)
abbrev RD:Stmt:=top 81
noncomputable abbrev anQ:List Str:=["desk","reader","call","numbers","lists","place","count"]
noncomputable abbrev RE:List Str:=["desk","reader"]
theorem aaS:fA anQ RE (da RD):=fP (by decide +kernel)
abbrev FL:=List (Str×V)
theorem AO{k j:Str}{v:V}{r:List (Str×V)}(h:¬k=j):List.lookup k ((j,v)::r)=r.lookup k:=by
 have hb:(k==j)=false:=beq_eq_false_iff_ne.mpr h;simp only[List.lookup,hb]
section
variable(x0:Addr)(x1:Int)
def il:FL:=[("numbers",.ref x0),("at",.int x1)]
theorem RF:(il x0 x1).lookup ("numbers":Str)=some (.ref x0):=by kernel_rfl
theorem Ey:(il x0 x1).lookup ("at":Str)=some (.int x1):=by kernel_rfl
theorem Lk{m:Str}(h0:¬m="numbers")(U:¬m="at"):(il x0 x1).lookup m=none:=by
 unfold il;rw[AO h0,AO U];rfl
theorem anR:jc "numbers" (.ref x0) []=([("numbers",.ref x0)]:FL):=by kernel_rfl
theorem anS:jc "at" (.int x1) [("numbers",.ref x0)]=([("numbers",.ref x0),("at",.int x1)]:FL):=by kernel_rfl
theorem aaT(y:Int):jc "at" (.int y) (il x0 x1)=il x0 y:=by kernel_rfl
end
section
variable(x0 x1 x2:Int)
def Cp:FL:=[("label",.int x0),("weak",.int x1),("lead",.int x2)]
theorem anT:(Cp x0 x1 x2).lookup ("label":Str)=some (.int x0):=by kernel_rfl
theorem aaU:(Cp x0 x1 x2).lookup ("weak":Str)=some (.int x1):=by kernel_rfl
theorem aaV:(Cp x0 x1 x2).lookup ("lead":Str)=some (.int x2):=by kernel_rfl
theorem aaW:jc "label" (.int x0) []=([("label",.int x0)]:FL):=by kernel_rfl
theorem aaX:jc "weak" (.int x1) [("label",.int x0)]=([("label",.int x0),("weak",.int x1)]:FL):=by kernel_rfl
theorem anU:jc "lead" (.int x2) [("label",.int x0),("weak",.int x1)]=([("label",.int x0),("weak",.int x1),("lead",.int x2)]:FL):=by kernel_rfl
end
section
variable(x0 x1 x2:Int)
def Cq:FL:=[("holder",.int x0),("place",.int x1),("lead",.int x2)]
theorem yM:(Cq x0 x1 x2).lookup ("holder":Str)=some (.int x0):=by kernel_rfl
theorem aaY:(Cq x0 x1 x2).lookup ("place":Str)=some (.int x1):=by kernel_rfl
theorem yN:(Cq x0 x1 x2).lookup ("lead":Str)=some (.int x2):=by kernel_rfl
theorem aaZ:jc "holder" (.int x0) []=([("holder",.int x0)]:FL):=by kernel_rfl
theorem aa0:jc "place" (.int x1) [("holder",.int x0)]=([("holder",.int x0),("place",.int x1)]:FL):=by kernel_rfl
theorem anV:jc "lead" (.int x2) [("holder",.int x0),("place",.int x1)]=([("holder",.int x0),("place",.int x1),("lead",.int x2)]:FL):=by kernel_rfl
end
section
variable(x0 x1 x2 x3 x4 x5 x6:Addr)
def xO:FL:=[("kinds",.ref x0),("sizes",.ref x1),("fields",.ref x2),("roots",.ref x3),("holds",.ref x4),("held",.ref x5),("leading",.ref x6)]
theorem Cr:(xO x0 x1 x2 x3 x4 x5 x6).lookup ("kinds":Str)=some (.ref x0):=by kernel_rfl
theorem RG:(xO x0 x1 x2 x3 x4 x5 x6).lookup ("sizes":Str)=some (.ref x1):=by kernel_rfl
theorem aa1:(xO x0 x1 x2 x3 x4 x5 x6).lookup ("fields":Str)=some (.ref x2):=by kernel_rfl
theorem RH:(xO x0 x1 x2 x3 x4 x5 x6).lookup ("roots":Str)=some (.ref x3):=by kernel_rfl
theorem rH:(xO x0 x1 x2 x3 x4 x5 x6).lookup ("holds":Str)=some (.ref x4):=by kernel_rfl
theorem RI:(xO x0 x1 x2 x3 x4 x5 x6).lookup ("held":Str)=some (.ref x5):=by kernel_rfl
theorem anW:(xO x0 x1 x2 x3 x4 x5 x6).lookup ("leading":Str)=some (.ref x6):=by kernel_rfl
theorem RJ:jc "kinds" (.ref x0) []=([("kinds",.ref x0)]:FL):=by kernel_rfl
theorem RK:jc "sizes" (.ref x1) [("kinds",.ref x0)]=([("kinds",.ref x0),("sizes",.ref x1)]:FL):=by kernel_rfl
theorem aa2:jc "fields" (.ref x2) [("kinds",.ref x0),("sizes",.ref x1)]=([("kinds",.ref x0),("sizes",.ref x1),("fields",.ref x2)]:FL):=by kernel_rfl
theorem anY:jc "roots" (.ref x3) [("kinds",.ref x0),("sizes",.ref x1),("fields",.ref x2)]=([("kinds",.ref x0),("sizes",.ref x1),("fields",.ref x2),("roots",.ref x3)]:FL):=by kernel_rfl
theorem anZ:jc "holds" (.ref x4) [("kinds",.ref x0),("sizes",.ref x1),("fields",.ref x2),("roots",.ref x3)]=([("kinds",.ref x0),("sizes",.ref x1),("fields",.ref x2),("roots",.ref x3),("holds",.ref x4)]:FL):=by kernel_rfl
theorem an0:jc "held" (.ref x5) [("kinds",.ref x0),("sizes",.ref x1),("fields",.ref x2),("roots",.ref x3),("holds",.ref x4)]=([("kinds",.ref x0),("sizes",.ref x1),("fields",.ref x2),("roots",.ref x3),("holds",.ref x4),("held",.ref x5)]:FL):=by kernel_rfl
theorem an1:jc "leading" (.ref x6) [("kinds",.ref x0),("sizes",.ref x1),("fields",.ref x2),("roots",.ref x3),("holds",.ref x4),("held",.ref x5)]=([("kinds",.ref x0),("sizes",.ref x1),("fields",.ref x2),("roots",.ref x3),("holds",.ref x4),("held",.ref x5),("leading",.ref x6)]:FL):=by kernel_rfl
end
section
variable(x0:Addr)(x1:Int)(x2 x3:Addr)
def qj:FL:=[("graph",.ref x0),("goal",.int x1),("left",.ref x2),("used",.ref x3)]
theorem Hn:(qj x0 x1 x2 x3).lookup ("graph":Str)=some (.ref x0):=by kernel_rfl
theorem aa3:(qj x0 x1 x2 x3).lookup ("goal":Str)=some (.int x1):=by kernel_rfl
theorem Ll:(qj x0 x1 x2 x3).lookup ("left":Str)=some (.ref x2):=by kernel_rfl
theorem yO:(qj x0 x1 x2 x3).lookup ("used":Str)=some (.ref x3):=by kernel_rfl
theorem Cs{m:Str}(h0:¬m="graph")(U:¬m="goal")(h2:¬m="left")(h3:¬m="used"):(qj x0 x1 x2 x3).lookup m=none:=by
 unfold qj;rw[AO h0,AO U,AO h2,AO h3];rfl
theorem an2:jc "graph" (.ref x0) []=([("graph",.ref x0)]:FL):=by kernel_rfl
theorem an3:jc "goal" (.int x1) [("graph",.ref x0)]=([("graph",.ref x0),("goal",.int x1)]:FL):=by kernel_rfl
theorem an4:jc "left" (.ref x2) [("graph",.ref x0),("goal",.int x1)]=([("graph",.ref x0),("goal",.int x1),("left",.ref x2)]:FL):=by kernel_rfl
theorem an5:jc "used" (.ref x3) [("graph",.ref x0),("goal",.int x1),("left",.ref x2)]=([("graph",.ref x0),("goal",.int x1),("left",.ref x2),("used",.ref x3)]:FL):=by kernel_rfl
end
section
variable(x0 x1:Addr)
def kK:FL:=[("graph",.ref x0),("before",.ref x1)]
theorem j9:(kK x0 x1).lookup ("graph":Str)=some (.ref x0):=by kernel_rfl
theorem Lm:(kK x0 x1).lookup ("before":Str)=some (.ref x1):=by kernel_rfl
theorem RL{m:Str}(h0:¬m="graph")(U:¬m="before"):(kK x0 x1).lookup m=none:=by
 unfold kK;rw[AO h0,AO U];rfl
theorem an6:jc "graph" (.ref x0) []=([("graph",.ref x0)]:FL):=by kernel_rfl
theorem an7:jc "before" (.ref x1) [("graph",.ref x0)]=([("graph",.ref x0),("before",.ref x1)]:FL):=by kernel_rfl
theorem aa4(y:Addr):jc "graph" (.ref y) (kK x0 x1)=kK y x1:=by kernel_rfl
theorem aa5(y:Addr):jc "before" (.ref y) (kK x0 x1)=kK x0 y:=by kernel_rfl
end
end WD
namespace L2
theorem aC.new{H H1:Hp}{p:Addr}{o:HO}(s:aC H H1)(h:H1 p=none):aC H (upd H1 p o):=fun b u e=>by
 rw[bC (dw (s b u e) h)];exact s b u e
theorem aC.own{H H1:Hp}{p:Addr}{o:HO}(s:aC H H1)(h:H p=none):aC H (upd H1 p o):=fun b u e=>by
 rw[bC (dw e h)];exact s b u e
theorem aC.nw{H:Hp}{p:Addr}{o:HO}(h:H p=none):aC H (upd H p o):=(aC.refl H).new h
def bY(p:Addr)(H H':Hp):Prop:=∀b o,H b=some o->b≠p->H' b=some o
theorem bY.refl(p:Addr)(H:Hp):bY p H H:=fun _ _ e _=>e
theorem bY.trans{p:Addr}{H H1 H2:Hp}(a:bY p H H1)(b:bY p H1 H2):bY p H H2:=fun c o e n=>b c o (a c o e n) n
theorem bY.upd{p:Addr}{H H1:Hp}{o:HO}(a:bY p H H1):bY p H (upd H1 p o):=fun c u e n=>by
 rw[bC n];exact a c u e n
theorem bY.new{p q:Addr}{H H1:Hp}{o:HO}(a:bY p H H1)(h:H q=none):bY p H (L2.upd H1 q o):=fun c u e n=>by
 rw[bC (dw e h)];exact a c u e n
theorem aC.but{p:Addr}{H H1:Hp}(s:aC H H1):bY p H H1:=fun c o e _=>s c o e
theorem bY.same{p:Addr}{H0 H H1:Hp}(s:aC H0 H)(b:bY p H H1)(h:H0 p=none):aC H0 H1:=fun c o e=>b c o (s c o e) (dw e h)
theorem uB{α β:Type}{F:α->β->Prop}{l1:List α}{l2:List β}(h:Paired F l1 l2):∀{i:Nat}{b:β},l2[i]? =some b->∃a,l1[i]? =some a/\F a b:=by
 induction h with
 |nil=>intro i b e;simp at e
 | @cons a b l1 l2 r t ih=>
  intro i b' e;cases i with
  |zero=>
   simp only[FW,JB]at e;subst e;exact ⟨a,rfl,r⟩
  |succ j=>
   simp only[FX]at e ⊢;exact ih e
theorem RM{α β:Type}{F G:α->β->Prop}{l1:List α}{l2:List β}(h:Paired F l1 l2)(f:∀a b,a∈l1->b∈l2->F a b->G a b):Paired G l1 l2:=by
 induction h with
 |nil=>exact .nil
 |cons r t ih=>exact .cons (f _ _ (by simp) (by simp) r) (ih fun a b ha hb=>f a b (by simp[ha]) (by simp[hb]))
theorem gX{α β:Type}{F G:α->β->Prop}{l1:List α}{l2:List β}(h:Paired F l1 l2)(f:∀a b,F a b->G a b):Paired G l1 l2:=RM h fun a b _ _ q=>f a b q
theorem take_snoc{α:Type}{l:List α}{i:Nat}{x:α}(h:l[i]? =some x):l.take (i+1)=l.take i++[x]:=by
 rw[agz,h];rfl
theorem yP{α:Type}{l:List α}{i n:Nat}{x:α}(h:l[i]? =some x):(l.take (i+1)).zipIdx n=(l.take i).zipIdx n++[(x,n+i)]:=by
 have hi:i<l.length:=(gq.mp h).1;rw[take_snoc h,V2];simp[V3 (Du hi)]
theorem Ho{K:cB}{a:Addr}{xs:List V}{g:TG}{tb:TS}{D:Ends}{σ:St}{H:Hp}(Pv:Nat->St->Hp->Prop)(h0:Pv 0 σ H)(hl:∀i σ H,i<=xs.length->Pv i σ H->aD K H a xs)(hs:∀i x σ H T,xs[i]? =some x->Pv i σ H->H T=none->g (.ref T) σ (upd H T (.tup [.int ((i:Nat):Int),x])) fun ib H2=>tb {D with nx:=Pv (i+1),ct:=Pv (i+1),bk:=D.nx} ib H2)(hd:∀σ H,Pv xs.length σ H->D.nx σ H):
  ∃W:Nat->Nat->St->Hp->Prop,(∃m,W 0 m σ H)/\∀i m σ H,W i m σ H->
   ((AJ K a).stop i H/\D.nx σ H)∨((AJ K a).go i H/\∃N:St->Hp->Prop,(∀cV H',N cV H'->∃m',m'<m/\W (i+1) m' cV H')/\∀x H',(AJ K a).wb i H x H'->g x σ H' fun ib H2=>tb {D with nx:=N,ct:=N,bk:=D.nx} ib H2):=by
 refine ⟨fun i m σ H=>m=xs.length-i/\i<=xs.length/\Pv i σ H,⟨xs.length,by simp,dU _,h0⟩,?_⟩;rintro i m σ H ⟨rfl,hi,p⟩;have q:=hl i σ H hi p;rcases zO i xs.length with lt|ge
 .refine .inr ⟨⟨xs,xs[i],q,by simp[lt]⟩,Pv (i+1),fun cV H' p'=>⟨xs.length-(i+1),by omega,rfl,lt,p'⟩,?_⟩;rintro x H' ⟨T,y,rfl,hT,rfl,hy⟩;exact hs i y σ H T (hy xs q) p hT
 .have e:i=xs.length:=by omega
  subst e;exact .inl ⟨⟨xs,q,dR _⟩,hd σ H p⟩
def an8(K:cB):List V->Hp->VK->Prop:=fun xs H Q=>∃p ys,xs=[.ref p]/\(aD K H p ys∨kj K H p ys)/\Q (.int ys.length) H
theorem aa6{X:Cx}{K:cB}(e:X.K=K:=by rfl):Ap X (.builtin "len") (an8 K):=by
 subst e;exact l7
theorem aa7{X:Cx}{P:eS}{w:eJ}{K:cB}{mg:Str->Option aq}{base:Heap}{A:gc}{k:Nat}{f:Addr}{fd:dn}{ps:List Str}{sp:Sp}{x:Str}{p pos:Pos}{e:Expr}{es:List Expr}{t:TA}(F:c8 P w K mg base bJ k f fd ps sp)(hr:dQ k A)(hm:mg x=some (.ref f))(hk:pZ K (.ref f)=true)(hb:Binds K fd ps [])(ha:PA X (e::es) t)(e1:X.prog=P:=by rfl)(e2:X.w=w:=by rfl)(e3:X.K=K:=by rfl)(e4:X.mg=mg:=by rfl)(e5:X.base=base:=by rfl)(e6:X.A=A:=by rfl)(hg:Gl X x:=by rfl)(qM:(x==("__debug__":Str))=false:=by decide)(he:iP (e::es) X.env=(false,eval e X.env)::iP es X.env:=by rfl)(l6:(backTo pos (iP es X.env)).any (·.1)=false:=by rfl):
  PE X (.Call (.Name x p) (e::es) [] pos) (Pj sp [] E0 t):=by
 subst e1 e2 e3 e4 e5 e6;exact eB F hr hg hm hk hb .nil di ha qM he l6
theorem wz{X:Cx}{K:cB}{e:Expr}{f:Str}{pos:Pos}{ta:TE}(he:PE X e ta)(eK:X.K=K:=by rfl)(hb:attributeBase e f X.env (eval e X.env)=eval e X.env:=by rfl):PE X (.Attribute e f pos) (Kq K ta f):=by
 subst eK;exact cO he hb
theorem Hq{X:Cx}{K:cB}(eK:X.K=K:=by rfl):GK X (YA K):=by
 subst eK;exact ia
theorem Hr{X:Cx}{K:cB}(eK:X.K=K:=by rfl):GK X (YB K):=by
 subst eK;exact Kx
theorem RN:∀{vs:List aq}{ns:List Int},vs.length=ns.length->(∀(j:Nat)(v:aq)(n:Int),vs[j]? =some v->ns[j]? =some n->∃t,v=Value.int n t)->IntsAre vs ns
 | [],[],_,_=>.nil
 | [],_::_,h,_=>by simp at h
 |_::_,[],h,_=>by simp at h
 |v::vs,n::ns,h,k=>by
  obtain ⟨t,e⟩:=k 0 v n rfl rfl;subst e;exact .cons n t (RN (by simpa using h) fun j v' n' U h2=>k (j+1) v' n' U h2)
theorem Inv.aa8{X:Cx}{pins:List (Addr×Obj)}{σ:St}{H:Hp}{s:a9}{h':Heap}{a:Addr}{o:HO}{tk:Nat}(I:Inv X pins σ H s)(k:∀b u,s.heap.get? b=some u->h'.get? b=some u)(hn:s.heap.get? a=none)(new:j5 X.prog X.w (upd H a o) h' a o):Inv X pins σ (upd H a o) {s with heap:=h',toks:=tk}:=by
 have hH:H a=none:=I.bS.none_of hn;have nb:∀b u,s.heap.get? b=some u->b≠a:=fun b u e z=>by
  rw[z,hn]at e;cases e
 refine I.un (h':=h') (t':=tk) ⟨fun b u q _ _ _=>k b u q,fun b u q _ _ _=>⟨u.slots,k b u q⟩,fun b u q n _=>?_,fun b u q _=>⟨u,k b u q⟩,fun b xs q=>?_,fun b u xs q=>?_,fun b ps q=>⟨#[],?_⟩⟩ ?_
 .rw[bC (nb b u q)];exact n
 .rw[bC (dw q hH)];exact q
 .rw[bC (dw q hH)];exact q
 .rw[bC (dw q hH),q];simp
 .intro b u e;by_cases hb:b=a
  .subst hb;rw[aJ]at e;cases e;exact new
  .rw[bC hb]at e;exact (I.bS b u e).uh (fun c v _ q=>k c v q) (fun c q=>by rw[bC (dw q hH)];exact q) fun c xs q=>by rw[bC (dw q hH)];exact q
def an9:List V->Hp->VK->Prop:=fun vs H Q=>∃(d:Addr)(kvs:List (Key×V))(ns:List Int),vs=[V.ref d]/\H d=some (.dK kvs)/\kvs.map (·.1)=ns.map Sum.inl/\ns.length<64/\
 ∀(qN:List Int)(p:Addr),qN.Perm ns->qN.Pairwise (·<=·)->H p=none->Q (.ref p) (upd H p (.lst (qN.map V.int)))
theorem aa9{X:Cx}(hc:X.calm=true):Ap X (.builtin "sorted") an9:=by
 intro pins s σ H vs us Q I r h;obtain ⟨d,kvs,ns,rfl,hd,hk,h64,q⟩:=h;obtain ⟨u,rfl,ru⟩:=vals1 r;cases ru;obtain ⟨hz,hS,es,kv,dm⟩:=I.bS d _ hd;obtain ⟨ep,sv⟩:=Heap.DictOf.dictAt dm;have le:kvs.length=es.length:=zQ kv;have ln:kvs.length=ns.length:=by have:=congrArg List.length hk;simpa using this
 refine PySem.Calls.call_function_entry kind_sorted plain_sorted entry_sorted (args_sorted1 _) ?_;unfold Builtin.«sorted»;refine cE (m:=(checkCount "sorted" 1 1 _)) (ij (?_));refine cE (PySem.W.kdu_collect (A:=X.A.in1) (PySem.W.kdl_dict (knd:=oy X.prog X.w) (kvs:=es) (ep:=ep) hS) (I.ok.hd hc) sv (by omega) fun U tk acc Ln items=>?_);have la:acc.toList.length=es.length:=(BB).trans items.1;refine cE (N6 ?_ (by rw[la];omega));have hi:IntsAre acc.toList ns:=by
  refine RN (by omega) fun j v n e1 e2=>?_;obtain ⟨k,x,hx,AI⟩:=items.2 j v (by rw[<-ahi];exact e1);have e3:(kvs.map (·.1))[j]? =some (Sum.inl n):=by rw[hk,gp,e2];rfl
  rw[gp]at e3;cases e4:kvs[j]? with
  |none=>rw[e4]at e3;cases e3
  |some y=>
   rw[e4]at e3;have e5:y.1=Sum.inl n:=gE e3;obtain ⟨y1,y2⟩:=y;obtain ⟨u,hu,_⟩:=Zk kv e4;rw[hx]at hu;cases hu;have e6:k=Sum.inl n:=e5;subst e6;rcases vR (show rY (Sum.inl n) v=true from AI) with ⟨i,t,e7,e8⟩|⟨y,t,e7,e8⟩
   .cases e7;exact ⟨t,e8⟩
   .cases e7
 have ho:(U.push (jy "list" acc.toList.toArray 0)).get? U.objs.size=some (jy "list" acc.toList.toArray 0):=lV _ rfl;show bV _ _ (_ >>= _) _ _ {s with heap:=U.push (jy "list" acc.toList.toArray 0),toks:=tk};refine cE (yq (V4 slot_list_sort ⟨_,ho,rfl⟩ ahr (list_sort_tree ho hi (by omega) fun out qN a1 a2 a3=>⟨_,rfl,?_⟩) (args_list_sort _)));refine ij ⟨_,rfl,?_⟩;obtain ⟨xr,G9⟩:=sortedHeap_at (vs:=acc.toList) (out:=out) ho;have hlen:(qN.map V.int).length<=cJ:=by rw[bt,a2.length_eq];exact ald h64
 have aba:s.heap.get? U.objs.size=none:=by
  cases e:s.heap.get? U.objs.size with
  |none=>rfl
  |some o=>exact absurd (iK (Ln _ o e)) (w9 _)
 refine ⟨.ref U.objs.size,upd H U.objs.size (.lst (qN.map V.int)),I.aa8 (tk:=tk) (fun b o e=>?_) aba ⟨hlen,out.toList,xr,YL a1,G9⟩,rfl,q qN _ a2 a3 (I.bS.none_of aba)⟩;have e1:(U.push (jy "list" acc.toList.toArray 0)).get? b=some o:=gF _ (Ln b o e);have nb:b≠U.objs.size:=kg (iK (Ln b o e));rw[sortedHeap_old nb (by rw[p7];exact N3 (iK (Ln b o e)))];exact e1
def abb(es:List qD):Bool:=es.all fun e=>match e.key with
 | .int k _=>e.hash==hashInt k
 |_=>false
structure KTab(K:cB)(d:Addr)(es:Array qD):Prop where
 ex:∃ep,K.lookup d=some {cls:=.type "dict",dict:=none,data:=.dict es ep,slots:=#[]}
 ok:abb es.toList=true
theorem KTab.map{P:eS}{w:eJ}{K:cB}{d:Addr}{es:Array qD}(T:KTab K d es){h:Heap}(X:K.In h):h.MapOf (oy P w) d (fun k=>findBy rY es k):=by
 obtain ⟨ep,lk⟩:=T.ex;refine ⟨_,es,ep,X _ _ lk,⟨rfl,rfl,rfl⟩,rfl,fun e he=>?_,fun k=>rfl⟩;have q:=tZ.mp T.ok e (by simpa using he);cases hk:e.key with
 |int k t=>
  rw[hk]at q;exact ⟨Sum.inl k,Xt P w k t,beq_iff_eq.mp q⟩
 |_=>rw[hk]at q;cases q
def aoc(es:Array qD)(ty:TE):TE:=fun σ H Q=>ty σ H fun y H1=>∃(n:Int)(v:V)(u:aq),y=.int n/\findBy rY es (Sum.inl n)=some u/\RelV v u/\Q v H1
theorem aod{X:Cx}{x:Str}{i:Expr}{ty:TE}{d:Addr}{es:Array qD}{np pos:Pos}(hg:Gl X x)(hm:X.mg x=some (.ref d))(T:KTab X.K d es)(hi:PE X i ty)(hs:PN i)(hd:(x==("__debug__":Str))=false:=by decide):
  PE X (.Subscript (.Name x np) i pos) (aoc es ty):=by
 intro pins s σ H Q I h;refine Zd ahl.lookup hs (yC I hg hm (dt (hi pins s σ H _ I h) fun iv s2 ⟨y,H2,I2,ry,n,v,u,ey,hf,rv,q2⟩=>?_) hd);subst ey;have m:=T.map (P:=X.prog) (w:=X.w) I2.m8;exact ⟨m.typeIs,ahk (AG (k:=Sum.inl n) ry) m hf ⟨v,H2,I2.tok _,rv,q2⟩⟩
def aoe(X:Cx)(tf:TE)(t:TA):TE:=fun σ H Q=>tf σ H fun x H1=>∃(f:Addr)(k:Nat)(fd:dn)(ps:List Str)(sp:Sp),x=.ref f/\pZ X.K (.ref f)=true/\dQ k X.A/\c8 X.prog X.w X.K X.mg X.base bJ k f fd ps sp/\Binds X.K fd ps []/\
 t σ H1 fun vs H2=>sp vs H2 Q E0
theorem aof{X:Cx}{fe e:Expr}{es:List Expr}{tf:TE}{t:TA}{pos:Pos}(hf:PE X fe tf)(ha:PA X (e::es) t)(he:eval (.Call fe (e::es) [] pos) X.env=(do callWith pos (<-eval fe X.env) [] (backTo pos (iP (e::es) X.env)) (backToKw pos (keywordEach [] X.env))):=by rfl)(oC:iP (e::es) X.env=(false,eval e X.env)::iP es X.env:=by rfl)(l6:(backTo pos (iP es X.env)).any (·.1)=false:=by rfl):PE X (.Call fe (e::es) [] pos) (aoe X tf t):=by
 intro pins s σ H Q I h;refine Call_ (dt (hf pins s σ H _ I h) fun u s1 ⟨x,H1,I1,rx,f,k,fd,ps,sp,ex,hk,hr,F,hb,q⟩=>?_) he;subst ex;obtain rfl:u=Value.ref f:=rx;refine Jx (h₀:=X.base) I.ok.mod.BQ hk (dt (ha pos pins s1 σ H1 _ I1 q) fun us s2 ⟨vs,H2,I2,r,q2⟩=>⟨I2.m8,?_⟩) oC l6;exact GC F hr hb .nil di I2 r (by rw[nZ];exact q2)
def yR(c:Addr)(q:Str):HO:=.ext fun h=>h.CodeRec (.ref c) q
theorem aog{P:eS}{w:eJ}{H:Hp}{h:Heap}{c:Addr}{q:Str}(x:h.CodeRec (.ref c) q):j5 P w H h c (yR c q):=by
 obtain ⟨c2,o,vs,t,e,ho,hd,hv⟩:=id x;cases e;refine ⟨x,⟨o,ho⟩,fun U h2 y k=>?_⟩;obtain ⟨c3,o3,vs3,t3,e3,vn,mj,hv3⟩:=y;cases e3;exact ⟨c,o3,vs3,t3,rfl,k _ vn,mj,hv3⟩
def ml(H:Hp)(P:Addr)(pos:Pos)(q:Str):Prop:=∃ps:Array aq,H P=some (.kU ps)/\(ps=#[]∨∃c',ps=#[rawInt pos.line,rawInt pos.col,.ref c']/\H c'=some (yR c' q))
theorem ml.same{H H':Hp}{P:Addr}{pos:Pos}{q:Str}(h:ml H P pos q)(s:aC H H'):ml H' P pos q:=by
 obtain ⟨ps,U,h2⟩:=h;refine ⟨ps,s _ _ U,?_⟩;rcases h2 with z|⟨c,z1,z2⟩
 .exact .inl z
 .exact .inr ⟨c,z1,s _ _ z2⟩
structure wB(base:Heap)(mg:Str->Option aq):Prop where
 ex:∃bm ob,mg "__builtins__"=some (.ref bm)/\bm≠builtinsNs/\base.get? bm=some ob/\ob.cls=.type "module"/\ob.dict=some builtinsNs/\ob.data=.plain
section
variable{X:Cx}{pins:List (Addr×Obj)}{σ:St}{H:Hp}{s:a9}
theorem Inv.Lo{a:Addr}{o:Obj}(I:Inv X pins σ H s)(U:s.heap.get? a=some o)(h2:H a=none)(h3:a≠X.env.locals)(h4:a∉X.fs)(h5:∀v,o.data≠.cell v):Inv X ((a,o)::pins) σ H s:=by
 refine ⟨I.ok,I.os,I.bare,I.base,I.loc,I.cell,I.free,I.qe,fun p hp=>?_,I.bS,I.len⟩;rcases kN.mp hp with z|z
 .exact I.pin p (vL _ z)
 .rcases f6.mp z with z|z
  .subst z;exact ⟨U,h2,h3,h4,h5⟩
  .exact I.pin p (uT _ z)
theorem Inv.Lp{p:Addr×Obj}(I:Inv X (p::pins) σ H s):Inv X pins σ H s:=by
 refine ⟨I.ok,I.os,I.bare,I.base,I.loc,I.cell,I.free,I.qe,fun q hq=>?_,I.bS,I.len⟩;rcases kN.mp hq with z|z
 .exact I.pin q (vL _ z)
 .exact I.pin q (uT _ (lU _ z))
theorem abc{args:Arguments}{body:Expr}{scope:jP}{pos:Pos}{c P:Addr}{pL:List (Str×Addr)}{Q:aq->a9->Prop}(I:Inv X pins σ H s)(aoj:defaultsOf args X.env=([],[]))(mG:closureFor scope X.env=pure pL)(abd:X.env.code=.ref c)(C:PySem.W.CodeHd X.base c P)(B:wB X.base X.mg)(hT:ml H P pos (X.env.qual++"<lambda>"))(h:∀f c' qW H' s',Inv X ((f,PySem.W.kla_obj "<lambda>" (X.env.qual++"<lambda>") args body scope pL ((X.mg "__name__").getD .none) c' qW)::pins) σ H' s'->H' c'=some (yR c' (X.env.qual++"<lambda>"))->
   bY P H H'->ml H' P pos (X.env.qual++"<lambda>")->Q (.ref f) s'):
  bV (model X.prog X.w) X.A (eval (.Lambda args body scope pos) X.env) Q X.xe s:=by
 obtain ⟨bm,ob,b1,b2,b3,b4,b5,b6⟩:=B.ex;obtain ⟨ps,hP,hps⟩:=hT;have hgs:s.heap.Ns nG X.mg:=I.mod.glob.keeps I.bk;have Ct:=I.bs _ _ b3;have hbP:bm≠P:=fun z=>by
  have:=Ct.2;rw[z,hP]at this;cases this
 have hgP:nG≠P:=fun z=>by
  obtain ⟨o,es,ep,e,_⟩:=I.mod.glob;have:=(I.bs _ _ e).2;rw[z,hP]at this;cases this
 have hbG:bm≠nG:=fun z=>by
  obtain ⟨o,es,ep,e,hd,_⟩:=I.mod.glob;rw[z,e]at b3;cases b3;rw[hd]at b6;cases b6
 have hba:s.heap.BuiltinsAt X.mg P:=⟨bm,ob,b1,b2,hbG,hbP,Ct.1,b4,b5,b6⟩;have abg:s.heap.get? P=some (PySem.W.tabObj ps):=I.bS P _ hP;have CH:PySem.W.CodeHd s.heap c P:=C.keeps I.bk;refine PySem.W.kla_eval aoj ?_;rcases hps with rfl|⟨c1,rfl,Lq⟩
 ·
  refine PySem.W.kla_makeFunction mG I.ok.glob hgs abd CH abg trivial rfl hgP hba fun c' qW h' tk hx Hs eU aoo RP=>?_;have Ht:H c'=none:=I.bS.fresh Hs;have nPc:P≠c':=dw hP Ht;have hold:∀b o,b≠P->s.heap.get? b=some o->h'.get? b=some o:=fun b o n e=>hx b o n e;have new:∀b o,H b=some o->b≠P->(upd (upd H P (.kU #[rawInt pos.line,rawInt pos.col,.ref c'])) c' (yR c' (X.env.qual++"<lambda>"))) b=some o:=fun b o e n=>by
   rw[bC (dw e Ht),bC n];exact e
  have hsz:s.heap.objs.size<=h'.objs.size:=gN Hs (Du eU);have Hu:iS X.prog X.w (upd (upd H P (.kU #[rawInt pos.line,rawInt pos.col,.ref c'])) c' (yR c' (X.env.qual++"<lambda>"))) h':=by
   intro b o e;by_cases z:b=c'
   .subst z;rw[aJ]at e;cases e;exact aog aoo
   .rw[bC z]at e;by_cases y:b=P
    .subst y;rw[aJ]at e;cases e;show h'.get? b=some (PySem.W.tabObj _);have e2:(#[]:Array aq)++#[rawInt pos.line,rawInt pos.col,.ref c']=#[rawInt pos.line,rawInt pos.col,.ref c']:=by simp
     rw[e2]at RP;exact RP
    .rw[bC y]at e;refine (I.bS b o e).uh (fun d v hd q=>hold d v ?_ q) (fun d q=>new d _ q (iG q hP (by intro z;cases z))) fun d xs q=>new d _ q (iG q hP (by intro z;cases z));rcases hd with hd|hd
     .rw[hd];exact y
     .exact iG hd hP (by intro z;cases z)
  have I1:=I.un (t':=tk) (h':=h') (H':=upd (upd H P (.kU #[rawInt pos.line,rawInt pos.col,.ref c'])) c' (yR c' (X.env.qual++"<lambda>")))
   ⟨fun b o e n _ _=>hold b o (fun z=>by rw[z,hP]at n;cases n) e,fun b o e n _ _=>⟨o.slots,hold b o (fun z=>by rw[z,hP]at n;cases n) e⟩,
    fun b o e n _=>by
     rw[bC (kg (pA (iK e) Hs)),bC (fun z=>by rw[z,hP]at n;cases n)];exact n,
    fun b o e _=>by
     by_cases z:b=P
     .rw[z];exact ⟨_,RP⟩
     .exact ⟨o,hold b o z e⟩,
    fun b xs e=>new b _ e (iG e hP (by intro z;cases z)),fun b o u e=>new b _ e (iG e hP (by intro z;cases z)),
    fun b qs e=>by
     by_cases z:b=P
     .subst z;rw[hP]at e;cases e;exact ⟨#[rawInt pos.line,rawInt pos.col,.ref c'],by rw[bC nPc,aJ];simp⟩
     .exact ⟨#[],by rw[new b _ e z];simp⟩⟩ Hu
  have I2:=I1.kept (t':=tk) (h':=h'.push (PySem.W.kla_obj "<lambda>" (X.env.qual++"<lambda>") args body scope pL ((X.mg "__name__").getD .none) c' qW)) (fun b u e=>gF _ e);have RQ:(upd (upd H P (.kU #[rawInt pos.line,rawInt pos.col,.ref c'])) c' (yR c' (X.env.qual++"<lambda>"))) h'.objs.size=none:=I1.bS.fresh (dR _);refine h h'.objs.size c' qW _ _ (I2.Lo (lV _ rfl) RQ (yr (pA I.lt hsz)) (I.JZ hsz) (by intro v z;cases z)) aJ (fun b o e n=>new b o e n) ?_;exact ⟨_,by rw[bC nPc,aJ],.inr ⟨c',rfl,aJ⟩⟩
 ·
  refine PySem.W.kla_makeFunctionHit mG I.ok.glob hgs abd CH abg trivial (cv:=.ref c1) ?_ hba fun qW h' tk hk hsz=>?_
  .show (if ((pos.line:Int)==(pos.line:Int)&&(pos.col:Int)==(pos.col:Int))=true then some (Value.ref c1) else _)=_;rw[beq_self_eq_true,beq_self_eq_true];rfl
  have I2:=I.kept (t':=tk) (h':=h'.push (PySem.W.kla_obj "<lambda>" (X.env.qual++"<lambda>") args body scope pL ((X.mg "__name__").getD .none) c1 qW)) (fun b u e=>gF _ (hk b u e));have RQ:H h'.objs.size=none:=I.bS.fresh hsz;exact h h'.objs.size c1 qW H _ (I2.Lo (lV _ rfl) RQ (yr (pA I.lt hsz)) (I.JZ hsz) (by intro v z;cases z)) Lq (bY.refl P H) ⟨_,hP,.inr ⟨c1,rfl,Lq⟩⟩
def EA(X:Cx)(A:gc)(N:List Str)(qual:Str)(scope:jP)(cl:List (Str×Addr))(f:Addr)(cd:aq)(s:a9)(H:Hp):Cx where
 prog:=X.prog
 w:=X.w
 K:=X.K
 mg:=X.mg
 base:=X.base
 A:=A.deeper (PySem.W.envX qual scope s.heap.objs.size f cd cl)
 N:=N
 kG:=s
 vS:=H
 env:=PySem.W.envX qual scope s.heap.objs.size f cd cl
 outer:=X.stack
 stack:=PySem.W.envX qual scope s.heap.objs.size f cd cl::X.stack
 ex:=[]
 fn:=fun _=>false
 calm:=true
 pn:=[]
 xe:=fun _ _=>False
structure abj(x:Str)(scope:jP)(cl:List (Str×Addr)):Prop where
 kind:scope.kind=.function
 co:scope.isCoroutine=false
 gen:scope.isGenerator=false
 abk:∀y∈scope.names,y.2≠.cell
 par:scope.names.lookup x=some .local
 has:∀y,scope.names.lookup y=some .free->∃c,cl.lookup y=some c
 inj:∀y z c,cl.lookup y=some c->cl.lookup z=some c->y=z
theorem aop{name qual x:Str}{params:Arguments}{body:Expr}{scope:jP}{cl:List (Str×Addr)}{pm qW u:aq}{v:V}{c' f:Addr}{A:gc}{N:List Str}{caps:List V}{te:TE}{Q:VK}(I:Inv X pins σ H s)(hf:s.heap.get? f=some (PySem.W.kla_obj name qual params body scope cl pm c' qW))(hc:H c'=some (yR c' qual))(hA:A.frames=X.A.frames)(hd:A.handled=none)(hdp:A.depth<recursionLimit)(S:abj x scope cl)(hb:bindArgs (PySem.W.kla_fn name qual params body scope cl pm (.ref c') qW) ⟨[u],[]⟩=pure [(x,u)])(ru:RelV v u)(hN:∀(i:Nat) (y:Str) (z:V),N[i]? =some y->(some v::caps.map some)[i]? =some (some z)->BR scope y->(y=x/\z=v)∨(scope.names.lookup y=some .free/\∃c u',cl.lookup y=some c/\RelV z u'/\s.heap.IsCell c (some u')))(hl:N.length=caps.length+1)(yB:∀y c,cl.lookup y=some c->(∃val,s.heap.IsCell c val)/\H c=none)(sd:PE (EA X A N qual scope cl f (.ref c') s H) body te)(hq:te (some v::caps.map some) H Q):
  codeAny (model X.prog X.w) A (.call (.ref f) ⟨[u],[]⟩) (CR bJ X.stack X.prog X.w H s Q E0) s:=by
 have qJ:s.heap.CodeRec (.ref c') qual:=(I.bS c' _ hc).1;refine PySem.W.kla_callFunE hdp hf rfl S.co S.gen rfl qJ ?_;show bV _ _ (bindArgs (PySem.W.kla_fn name qual params body scope cl pm (.ref c') qW) ⟨[u],[]⟩) _ _ _;rw[hb];refine ij (wpAny_newFunctionEnv S.abk (fun y hy=>?_) (fun AD Lr Hv=>⟨I.nolimit.fresh _ Hv,?_⟩) S.kind)
 .have:y=(x,u):=by simpa using hy
  rw[this];exact S.par
 show codeAny _ _ (.expr body (PySem.W.envX qual scope s.heap.objs.size f (.ref c') cl)) _ _;have RR:∀b o,s.heap.get? b=some o->AD.get? b=some o:=fun b o e=>Hv.extBut b o (kg (iK e)) (gF _ e);have cellK:∀c val,s.heap.IsCell c val->AD.IsCell c val:=fun c val ⟨o,ho,hd⟩=>⟨o,RR _ _ ho,hd⟩;have e0:=I.Kr;have wg:∀b:Addr,b∉(EA X A N qual scope cl f (.ref c') s H).ex:=fun b z=>absurd (show b∈([]:List Addr) from z) (by simp);have J:Inv (EA X A N qual scope cl f (.ref c') s H) [] (some v::caps.map some) H {s with heap:=AD,toks:=s.toks+[(x,u)].length}:=by
  refine ⟨⟨e0.mod,S.kind,rfl,rfl,dR _,S.inj,fun y hy=>?_,fun y c h _=>?_,fun _=>hd,agY (hA.trans e0.frames),.inr ⟨rfl,rfl⟩,fun b z=>absurd z (wg b),e0.bs,e0.um,fun b _ _=>wg b,fun b z=>absurd z (wg b),e0.r6,e0.xp⟩,
   rfl,e0.bare,Un.kept RR,⟨_,Lr,fun i y z U h2 h3=>?_⟩,fun y c h=>?_,e0.bS.fresh (dR _),fun y c h=>(yB y c h).2,fun p hp=>absurd (show p∈([]:List (Addr×Obj)) from hp) (by simp),e0.bS.kept RR,?_⟩
  .have hy:scope.names.lookup y=some .cell∨scope.names.lookup y=some .free:=hy;rcases hy with hy|hy
   .exact absurd rfl (S.abk _ (oW hy))
   .exact S.has y hy
  .cases h
  .rcases hN i y z U h2 h3 with ⟨rfl,rfl⟩|⟨vf,c,u',Lq,r1,Av⟩
   .refine ⟨u,ru,.inl ⟨S.par,?_⟩⟩;show List.lookup y [(y,u)].reverse=some u;simp[List.lookup]
   .exact ⟨u',r1,.inr ⟨.inr vf,c,Lq,cellK _ _ Av⟩⟩
  .obtain ⟨val,hv⟩:=(yB y c h).1;exact ⟨val,cellK _ _ hv⟩
  .show (some v::caps.map some).length=N.length;rw[iz,bt,hl]
 refine PySem.W.kla_codeExpr (ou (sd [] _ _ H Q J hq) (fun r s' ⟨z,H',J',rz,q⟩=>?_) fun _ _ z=>False.elim z);exact ⟨z,H',J'.os,J'.bare,J'.base,J'.bS,rz,q⟩
end
section
variable{CX:o7}{P:eS}{w:eJ}{K:cB}{mg:Str->Option aq}{base:Heap}{N:List Str}{qual:Str}{scope:jP}{f:Addr}{cd:aq}{A:gc}{outer:List Env}{s:a9}{H:Hp}{E:XK}{a b c:Str}{p q r:Pos}{v:Env}
theorem fQ:(we CX P w K mg base N qual scope f cd A outer s H E).va.K=K:=rfl
theorem fS:(we CX P w K mg base N qual scope f cd A outer s H E).K=K:=rfl
theorem fT:(assignEach [.Name a p,.Name b q] v).length=2:=rfl
theorem fV:(assignEach [.Name a p,.Name b q,.Name c r] v).length=3:=rfl
end
end L2
namespace WD
structure fZ where
 cR:Addr
 cF:Addr
 cH:Addr
 cG:Addr
 cD:Addr
 cP:Addr
 cX:Addr
 tK:Addr
 tS:Addr
 tB:Addr
structure Txt(K:cB)(mg:Str->Option aq)(t:fZ):Prop where
 pN:qL K t.cR
 AR:qL K t.cF
 nP:qL K t.cH
 iT:qL K t.cG
 iI:qL K t.cD
 Lu:lE K t.cR "numbers"
 Cu:lE K t.cR "at"
 abl:lE K t.cF "label"
 RS:lE K t.cF "weak"
 RT:lE K t.cF "lead"
 xQ:lE K t.cH "holder"
 RU:lE K t.cH "place"
 xR:lE K t.cH "lead"
 AS:lE K t.cG "kinds"
 Lv:lE K t.cG "sizes"
 RV:lE K t.cG "fields"
 Lw:lE K t.cG "roots"
 pO:lE K t.cG "holds"
 Lx:lE K t.cG "held"
 abm:lE K t.cG "leading"
 jS:qL K t.cP
 tKS:t.tK≠t.tS
 tKB:t.tK≠t.tB
 tSB:t.tS≠t.tB
 EB:lE K t.cP "graph"
 Ly:lE K t.cP "goal"
 Hw:lE K t.cP "left"
 xS:lE K t.cP "used"
 mgP:mg "Parting"=some (.ref t.cP)
 list:mg "list"=none
 min:mg "min"=none
 aos:∃u,mg "NOTHING_FREED"=some (.int 1 u)
 jE:lE K t.cD "graph"
 Cv:lE K t.cD "before"
 mgR:mg "Reader"=some (.ref t.cR)
 mgF:mg "Field"=some (.ref t.cF)
 mgH:mg "Hold"=some (.ref t.cH)
 RW:mg "Graph"=some (.ref t.cG)
 RX:mg "Desk"=some (.ref t.cD)
 Lz:mg "NoGraphRow"=some (.ref t.cX)
 LA:KU K t.cX
 len:mg "len"=none
 range:mg "range"=none
 enumerate:mg "enumerate"=none
 zip:mg "zip"=none
 sum:mg "sum"=none
 sorted:mg "sorted"=none
 all:mg "all"=none
 aou:∃u,mg "MOST_OBJECTS"=some (.int 48 u)
 aov:∃u,mg "MOST_KIND"=some (.int 99 u)
 aow:∃u,mg "MOST_SIZE"=some (.int 1000000 u)
 aox:∃u,mg "MOST_FIELDS_OF_ONE"=some (.int 12 u)
 aoy:∃u,mg "MOST_FIELDS"=some (.int 160 u)
 aoz:∃u,mg "MOST_LABEL"=some (.int 199 u)
 aoA:∃u,mg "MOST_ROOTS"=some (.int 16 u)
 Cw:∃u,mg "ROOTS_HOLDER"=some (.int 0 u)
 aoB:∃u,mg "MOST_BEFORE"=some (.int 16 u)
 lN:∃u,mg "DONE"=some (.int 0 u)
 aoC:∃u,mg "NO_WAY"=some (.int 1 u)
 abt:∃u,mg "NO_OBJECT"=some (.int (-3) u)
 aoD:∃u,mg "LOST"=some (.int (-4) u)
 aoE:∃u,mg "NO_HOLD"=some (.int (-10) u)
 aoF:∃u,mg "NONE_BEFORE"=some (.int (-11) u)
 aoG:∃u,mg "NO_GRAPH_ROW"=some (.int (-12) u)
def posK:Pos:=⟨203,54,203,89⟩
def RY:Pos:=⟨209,29,209,61⟩
def posB:Pos:=⟨178,28,178,70⟩
def EC:Str:=("keepers_by_object":Str)++".<locals>."++"<lambda>"
def LB:Str:=("kept_sizes":Str)++".<locals>."++"<lambda>"
def LC:Str:=("best_hold":Str)++".<locals>."++"<lambda>"
structure l9(t:fZ)(H:Hp):Prop where
 k:ml H t.tK posK EC
 s:ml H t.tS RY LB
 b:ml H t.tB posB LC
def iC(H H':Hp):Prop:=∀b o,H b=some o->(∀ps,o≠.kU ps)->H' b=some o
def LD(K:cB)(c Pt:Addr):Prop:=∃o vs file tf flags tg AU text tt,K.lookup c=some o/\o.cls=.type "code"/\o.data=.fields vs/\vs[11]? =some (.ref Pt)/\vs.getD 11 .none=.ref Pt/\vs.getD 18 .none=.str file tf/\
  vs.getD 7 .none=.int flags tg/\vs.getD 9 .none=.bool AU/\vs.getD 10 .none=.int text tt/\c≠Pt
structure AV(K:cB)(x qual:Str)(st:Stmt)(f:Addr)(fd:dn)(c Pt:Addr):Prop where
 ex:∃(oc:aq)(od:Option Addr)(kV doc pm:aq)(an:Option Addr)(ct:aq)(oi:Array (Option aq)),
  fd=ua x qual (vj st) (sk st) (da st) .none kV doc pm an (.ref c) ct/\K.lookup f=some ⟨oc,od,.func fd,oi⟩/\PySem.W.codeIn K (.ref c) qual=true
 kp:pZ K (.ref f)=true
 hd:LD K c Pt
def LF(K:cB)(t:fZ):Sp:=fun vs H Q _=>∃a xs,vs=[.ref a]/\aD K H a (xs.map V.int)/\l9 t H/\PyVasnpb.answers_asked xs=true/\
 ∀H' r,iC H H'->l9 t H'->H r=none->H' r=some (.lst ((PyVasnpb.answers xs).map V.int))->Q (.ref r) H'
structure kZ(K:cB)(mg:Str->Option aq)(x:Str)(st:Stmt) where
 f:Addr
 fd:dn
 F:eW K x x st f fd
 m:mg x=some (.ref f)
structure Hx(K:cB)(mg:Str->Option aq)(x:Str)(st:Stmt)(Pt:Addr) where
 f:Addr
 fd:dn
 c:Addr
 F:AV K x x st f fd c Pt
 m:mg x=some (.ref f)
structure tM(K:cB)(C:Addr)(m qual:Str)(st:Stmt) where
 f:Addr
 fd:dn
 F:eW K m qual st f fd
 m:Meth K C m f
structure AW(K:cB)(C:Addr)(qual:Str)(st:Stmt) where
 f:Addr
 fd:dn
 F:eW K "__init__" qual st f fd
 m:Mk K C f
structure o9(K:cB)(es:Array qD)(n:Int)(a b:Nat)(x:Str)(st:Stmt) where
 tp:Addr
 f:Addr
 fd:dn
 e:findBy rY es (Sum.inl n)=some (.ref tp)/\∀H,kj K H tp [V.int (a:Int),V.int (b:Int),V.ref f]
 F:eW K x x st f fd
structure Wr(K:cB)(mg:Str->Option aq)(t:fZ)(es:Array qD) where
 abv:AW K t.cD "Desk.__init__" Qy
 abw:AW K t.cF "Field.__init__" Qe
 abx:AW K t.cG "Graph.__init__" Hf
 aby:AW K t.cH "Hold.__init__" Qh
 abz:AW K t.cP "Parting.__init__" Hk
 abA:AW K t.cR "Reader.__init__" P8
 abB:tM K t.cD "change" "Desk.change" QA
 abC:tM K t.cD "step_back" "Desk.step_back" QB
 abD:tM K t.cP "near_end" "Parting.near_end" Q2
 abE:tM K t.cP "far_end" "Parting.far_end" Q4
 abF:tM K t.cP "steps_from" "Parting.steps_from" Hl
 abG:tM K t.cP "search" "Parting.search" QZ
 abH:tM K t.cP "add_way" "Parting.add_way" QY
 abI:tM K t.cP "go_around" "Parting.go_around" Q8
 abJ:tM K t.cP "let_go" "Parting.let_go" Q6
 abK:tM K t.cR "ended" "Reader.ended" P9
 abL:tM K t.cR "take" "Reader.take" Qa
 abM:tM K t.cR "take_many" "Reader.take_many" Qb
 abN:kZ K mg "holder_of" Qo
 abO:kZ K mg "number_holds" Qm
 abP:kZ K mg "group_by_end" K4
 abQ:kZ K mg "empty_graph" Qk
 abR:kZ K mg "take_up_to" Qv
 abS:kZ K mg "read_fields" Qr
 abT:kZ K mg "read_roots" Qt
 abU:kZ K mg "read_graph" K6
 abV:kZ K mg "marked" QE
 abW:kZ K mg "first_holds" QD
 abX:kZ K mg "live_objects" QG
 abY:kZ K mg "lost_objects" K8
 abZ:kZ K mg "first_way" QH
 ab0:kZ K mg "all_below" Li
 ab1:kZ K mg "refusal_of" Rh
 ab2:kZ K mg "keeps" QP
 ab3:kZ K mg "tell_row" Qw
 ab4:kZ K mg "size_of" K5
 ab5:kZ K mg "refusal_unless_live" Ri
 ab6:kZ K mg "freeing_holds" QJ
 ab7:kZ K mg "live_by_kind" QU
 ab8:kZ K mg "graph_without" Hj
 ab9:kZ K mg "most_parted" Ra
 aca:kZ K mg "told_cut" Lg
 acb:kZ K mg "read_way" Rf
 acd:kZ K mg "told_ways" Lh
 ace:kZ K mg "answer_next" RD
 ED:kZ K mg "answers" RC
 acf:o9 K es 0 0 1 "answer_load" Rj
 acg:o9 K es 1 0 0 "answer_row" Rk
 ach:o9 K es 2 0 0 "answer_holds" Rl
 aci:o9 K es 3 0 0 "answer_live" Rm
 acj:o9 K es 4 0 2 "answer_without" Rn
 ack:o9 K es 5 1 2 "answer_around" Ro
 acm:o9 K es 6 2 0 "answer_keeps" Rp
 acn:o9 K es 7 1 0 "answer_keepers" Rq
 aco:o9 K es 8 0 0 "answer_tree" Rr
 acp:o9 K es 9 0 1 "answer_kept" Rt
 acq:o9 K es 10 0 0 "answer_sizes" Ru
 acr:o9 K es 11 0 0 "answer_kinds" Rv
 acs:o9 K es 12 0 1 "answer_frees" Rw
 acu:o9 K es 13 0 0 "answer_best" Rx
 acv:o9 K es 14 1 0 "answer_cut" Ry
 acw:o9 K es 15 1 0 "answer_ways" Rz
 acx:o9 K es 16 0 1 "answer_release" RA
 acy:o9 K es 17 0 0 "answer_undo" RB
 acz:Hx K mg "keepers_by_object" QR t.tK
 acA:Hx K mg "kept_sizes" QS t.tS
 acB:Hx K mg "best_hold" QL t.tB
structure Ev where
 P:eS
 w:eJ
 K:cB
 mg:Str->Option aq
 base:Heap
 t:fZ
def Goal(e:Ev):Prop:=∀(d:Addr)(es:Array qD)(W:Wr e.K e.mg e.t es),Txt e.K e.mg e.t->e.mg "CALLS"=some (.ref d)->KTab e.K d es->e.K.In e.base->e.base.Ns nG e.mg->wB e.base e.mg->c8 e.P e.w e.K e.mg e.base bJ 12 W.ED.f W.ED.fd Co (LF e.K e.t)
theorem acC:Nonempty Ev:=⟨⟨default,PySem.W.aWorld 0,[],fun _=>none,default,⟨0,0,0,0,0,0,0,0,0,0⟩⟩⟩
@[irreducible] noncomputable def yT:Ev:=@Classical.epsilon _ acC fun e=>¬Goal e
theorem aoH(h:Goal yT)(e:Ev):Goal e:=Classical.byContradiction fun n=>by
 have q:=@Classical.epsilon_spec_aux _ acC (fun e=>¬Goal e) ⟨e,n⟩;unfold yT at h;exact q h
noncomputable abbrev P:=yT.P
noncomputable abbrev w:=yT.w
noncomputable abbrev K:=yT.K
noncomputable abbrev mg:=yT.mg
noncomputable abbrev base:=yT.base
noncomputable abbrev t:=yT.t
theorem gY{X:Cx}{x:Str}{i:Int}{pos:Pos}(h:∃u,X.mg x=some (.int i u))(hg:Gl X x:=by rfl)(hd:(x==("__debug__":Str))=false:=by decide):PE X (.Name x pos) (tC (.int i)):=by
 obtain ⟨u,e⟩:=h;exact ajk hg e ⟨u,rfl⟩ hd
structure eY(P:eS)(w:eJ)(K:cB)(mg:Str->Option aq)(base:Heap)(CX:o7)(k:Nat)(x:Str)(f:Addr)(fd:dn)(ps:List Str)(sp:Sp):Prop where
 G:c8 P w K mg base CX k f fd ps sp
 b:Binds K fd ps []
 m:mg x=some (.ref f)
 kp:pZ K (.ref f)=true
structure pP(P:eS)(w:eJ)(K:cB)(mg:Str->Option aq)(base:Heap)(CX:o7)(k:Nat)(C:Addr)(m:Str)(f:Addr)(fd:dn)(ps:List Str)(sp:Sp):Prop where
 G:c8 P w K mg base CX k f fd ps sp
 b:Binds K fd ps []
 mt:Meth K C m f
structure xT(P:eS)(w:eJ)(K:cB)(mg:Str->Option aq)(base:Heap)(CX:o7)(k:Nat)(C:Addr)(f:Addr)(fd:dn)(ps:List Str)(sp:Sp):Prop where
 G:c8 P w K mg base CX k f fd ps sp
 b:Binds K fd ps []
 M:Mk K C f
def aoI(t:fZ)(H:Hp)(p a:Addr)(i:Int):Prop:=∃dx,H p=some (.ins t.cR dx (il a i))
def RZ(t:fZ):Sp:=fun vs H Q _=>∃p dx a,vs=[.ref p,.ref a]/\H p=some (.ins t.cR dx [])/\Q .eM (upd H p (.ins t.cR dx (il a 0)))
theorem aoJ{f:Addr}{fd:dn}(F:eW K "__init__" "Reader.__init__" P8 f fd)(T:Txt K mg t):c8 P w K mg base bJ 1 f fd K2 (RZ t):=by
 refine F.ok amO (fun vs H Q E h=>?_) (fun c6 A outer s H vs Q E hr h=>?_)
 .obtain ⟨p,dx,a,rfl,_⟩:=h;rfl
 .obtain ⟨p,dx,a,rfl,hp,k⟩:=h;refine ⟨_,bF (mT (pv 0) (pv 1) rfl) (cy (mT (pv 0) gg rfl)),?_⟩
  try dsimp only[fQ,fS,fT,fV]
  refine ⟨_,rfl,_,rfl,p,t.cR,dx,[],rfl,hp,T.pN,T.Lu,(by decide),?_⟩;refine ⟨_,rfl,p,t.cR,dx,_,rfl,aJ,T.pN,T.Cu,(by show 1<1000;decide),?_⟩;show Q .eM _;rw[oz,anR,anS];exact k
def LG(K:cB)(t:fZ):Sp:=fun vs H Q _=>∃p a i xs,vs=[.ref p]/\aoI t H p a i/\aD K H a xs/\Q (.bl (decide ((xs.length:Int)<=i))) H
theorem aoK{f:Addr}{fd:dn}(F:eW K "ended" "Reader.ended" P9 f fd)(T:Txt K mg t):c8 P w K mg base bJ 1 f fd He (LG K t):=by
 refine F.ok amQ (fun vs H Q E h=>?_) (fun c6 A outer s H vs Q E hr h=>?_)
 .obtain ⟨p,a,i,xs,rfl,_⟩:=h;rfl
 .obtain ⟨p,a,i,xs,rfl,⟨dx,hp⟩,hs,k⟩:=h;refine ⟨_,cy (eN (Pc aj1 (cO (pv 0) rfl) (jR l7 (by rfl) T.len lW (ax (cO (pv 0) rfl) aO)) (mS _))),?_⟩
  try dsimp only[fQ,fS,fT,fV]
  refine ⟨_,rfl,hp,T.pN,T.Cu,Ey _ _,_,rfl,hp,T.pN,T.Lu,RF _ _,a,xs,rfl,.inl hs,?_⟩;exact ⟨_,_,rfl,rfl,k⟩
def R0(K:cB)(t:fZ):Sp:=fun vs H Q _=>∃p a dx i xs v,vs=[.ref p]/\H p=some (.ins t.cR dx (il a i))/\aD K H a xs/\mf xs i=some v/\Q v (upd H p (.ins t.cR dx (il a (i+1))))
theorem aoL{f:Addr}{fd:dn}(F:eW K "take" "Reader.take" Qa f fd)(T:Txt K mg t):c8 P w K mg base bJ 1 f fd K3 (R0 K t):=by
 refine F.ok Zv (fun vs H Q E h=>?_) (fun c6 A outer s H vs Q E hr h=>?_)
 .obtain ⟨p,a,dx,i,xs,v,rfl,_⟩:=h;rfl
 .obtain ⟨p,a,dx,i,xs,v,rfl,hp,hs,hv,k⟩:=h;refine ⟨_,bF (dB (i:=1) Zv.nd rfl (Or.inl rfl) (gj ia (cO (pv 0) rfl) (cO (pv 0) rfl) (fun _ _=>rfl)))
   (bF (Yb (pv 0) gg Yc) (cy (eN (pv 1)))),?_⟩
  try dsimp only[fQ,fS,fT,fV]
  refine ⟨_,rfl,hp,T.pN,T.Lu,RF _ _,_,rfl,hp,T.pN,T.Cu,Ey _ _,a,xs,i,v,rfl,rfl,hs,hv,?_⟩;refine ⟨_,rfl,p,t.cR,dx,_,_,rfl,hp,T.pN,T.Cu,Ey _ _,i,1,rfl,rfl,dx,_,hp,(by show 2<1000;decide),?_⟩;refine ⟨_,rfl,?_⟩;rw[aaT];exact k
def acD(K:cB)(t:fZ):Sp:=fun vs H Q _=>∃p a dx i c xs,vs=[.ref p,.int c]/\H p=some (.ins t.cR dx (il a i))/\aD K H a xs/\
 ∀q,H q=none->Q (.ref q) (upd (upd H q (.lst (nj xs (some i) (some (i+c))))) p (.ins t.cR dx (il a (i+c))))
theorem aoM{f:Addr}{fd:dn}(F:eW K "take_many" "Reader.take_many" Qb f fd)(T:Txt K mg t):c8 P w K mg base bJ 1 f fd Qc (acD K t):=by
 refine F.ok Zw (fun vs H Q E h=>?_) (fun c6 A outer s H vs Q E hr h=>?_)
 .obtain ⟨p,a,dx,i,c,xs,rfl,_⟩:=h;rfl
 .obtain ⟨p,a,dx,i,c,xs,rfl,hp,hs,k⟩:=h;refine ⟨_,bF (dB (i:=2) Zw.nd rfl (Or.inl rfl) (Pn Pp (cO (pv 0) rfl) (Kw (cO (pv 0) rfl)) (Kw (o6 Gy (cO (pv 0) rfl) (pv 1)))))
   (bF (Yb (pv 0) (pv 1) Yc) (cy (eN (pv 2)))),?_⟩
  try dsimp only[fQ,fS,fT,fV]
  refine ⟨_,rfl,hp,T.pN,T.Lu,RF _ _,_,rfl,hp,T.pN,T.Cu,Ey _ _,i,rfl,?_⟩;refine ⟨_,rfl,hp,T.pN,T.Cu,Ey _ _,_,rfl,i,c,rfl,rfl,i+c,rfl,a,xs,rfl,hs,?_⟩;intro q hq;have hpq:p≠q:=dw hp hq;refine ⟨_,rfl,p,t.cR,dx,_,_,rfl,(by rw[bC hpq];exact hp),T.pN,T.Cu,Ey _ _,_,rfl,i,c,rfl,rfl,dx,_,(by rw[bC hpq];exact hp),(by show 2<1000;decide),?_⟩;refine ⟨_,rfl,?_⟩;rw[aaT];exact k q hq
def acF(t:fZ):Sp:=fun vs H Q _=>∃p dx l w a,vs=[.ref p,.int l,.int w,.int a]/\H p=some (.ins t.cF dx [])/\Q .eM (upd H p (.ins t.cF dx (Cp l w a)))
theorem aoN{f:Addr}{fd:dn}(F:eW K "__init__" "Field.__init__" Qe f fd)(T:Txt K mg t):c8 P w K mg base bJ 1 f fd Qg (acF t):=by
 refine F.ok amT (fun vs H Q E h=>?_) (fun c6 A outer s H vs Q E hr h=>?_)
 .obtain ⟨p,dx,l,w,a,rfl,_⟩:=h;rfl
 .obtain ⟨p,dx,l,w,a,rfl,hp,k⟩:=h;refine ⟨_,bF (mT (pv 0) (pv 1) rfl) (bF (mT (pv 0) (pv 2) rfl) (cy (mT (pv 0) (pv 3) rfl))),?_⟩
  try dsimp only[fQ,fS,fT,fV]
  refine ⟨_,rfl,_,rfl,p,t.cF,dx,[],rfl,hp,T.AR,T.abl,(by decide),?_⟩;refine ⟨_,rfl,_,rfl,p,t.cF,dx,_,rfl,aJ,T.AR,T.RS,(by show 1<1000;decide),?_⟩;refine ⟨_,rfl,_,rfl,p,t.cF,dx,_,rfl,aJ,T.AR,T.RT,(by rw[aaW,aaX];show 2<1000;decide),?_⟩;show Q .eM _;rw[oz,oz,aaW,aaX,anU];exact k
def acG(t:fZ):Sp:=fun vs H Q _=>∃p dx l w a,vs=[.ref p,.int l,.int w,.int a]/\H p=some (.ins t.cH dx [])/\Q .eM (upd H p (.ins t.cH dx (Cq l w a)))
theorem aoO{f:Addr}{fd:dn}(F:eW K "__init__" "Hold.__init__" Qh f fd)(T:Txt K mg t):c8 P w K mg base bJ 1 f fd Qi (acG t):=by
 refine F.ok amU (fun vs H Q E h=>?_) (fun c6 A outer s H vs Q E hr h=>?_)
 .obtain ⟨p,dx,l,w,a,rfl,_⟩:=h;rfl
 .obtain ⟨p,dx,l,w,a,rfl,hp,k⟩:=h;refine ⟨_,bF (mT (pv 0) (pv 1) rfl) (bF (mT (pv 0) (pv 2) rfl) (cy (mT (pv 0) (pv 3) rfl))),?_⟩
  try dsimp only[fQ,fS,fT,fV]
  refine ⟨_,rfl,_,rfl,p,t.cH,dx,[],rfl,hp,T.nP,T.xQ,(by decide),?_⟩;refine ⟨_,rfl,_,rfl,p,t.cH,dx,_,rfl,aJ,T.nP,T.RU,(by show 1<1000;decide),?_⟩;refine ⟨_,rfl,_,rfl,p,t.cH,dx,_,rfl,aJ,T.nP,T.xR,(by rw[aaZ,aa0];show 2<1000;decide),?_⟩;show Q .eM _;rw[oz,oz,aaZ,aa0,anV];exact k
end WD
open Vasnpa (Field Graph Hold holdsOf)
namespace WD
end WD
open Vasnpb (fromPlace toPlace)
namespace WD
def nats(l:List Nat):List V:=l.map fun (n:Nat)=>V.int (n:Int)
def EE(b:Bool):Int:=if b then 1 else 0
def yU(t:fZ)(H:Hp)(c:Addr)(f:ja):Prop:=∃dx,H c=some (.ins t.cF dx (Cp (f.label:Int) (EE f.weak) (f.to:Int)))
def k6(t:fZ)(H:Hp)(b:Addr)(fs:List ja):Prop:=∃cs:List Addr,H b=some (.lst (cs.map V.ref))/\Paired (yU t H) cs fs
def FieldsAt(t:fZ)(H:Hp)(a:Addr)(gz:List (List ja)):Prop:=∃bs:List Addr,H a=some (.lst (bs.map V.ref))/\Paired (k6 t H) bs gz
def xU(t:fZ)(H:Hp)(c:Addr)(h:Hold):Prop:=∃dx,H c=some (.ins t.cH dx (Cq (bN h:Int) (h.place:Int) (h.to:Int)))
def ma(t:fZ)(H:Hp)(a:Addr)(hs:List Hold):Prop:=∃cs:List Addr,H a=some (.lst (cs.map V.ref))/\Paired (xU t H) cs hs
theorem yU.same{H H':Hp}{c:Addr}{f:ja}(h:yU t H c f)(s:aC H H'):yU t H' c f:=let ⟨dx,e⟩:=h;⟨dx,s _ _ e⟩
theorem k6.same{H H':Hp}{c:Addr}{f:List ja}(h:k6 t H c f)(s:aC H H'):k6 t H' c f:=let ⟨cs,e,p⟩:=h;⟨cs,s _ _ e,gX p fun _ _ q=>q.same s⟩
theorem FieldsAt.same{H H':Hp}{c:Addr}{f:List (List ja)}(h:FieldsAt t H c f)(s:aC H H'):FieldsAt t H' c f:=let ⟨cs,e,p⟩:=h;⟨cs,s _ _ e,gX p fun _ _ q=>q.same s⟩
theorem xU.same{H H':Hp}{c:Addr}{f:Hold}(h:xU t H c f)(s:aC H H'):xU t H' c f:=let ⟨dx,e⟩:=h;⟨dx,s _ _ e⟩
theorem ma.same{H H':Hp}{c:Addr}{f:List Hold}(h:ma t H c f)(s:aC H H'):ma t H' c f:=let ⟨cs,e,p⟩:=h;⟨cs,s _ _ e,gX p fun _ _ q=>q.same s⟩
theorem ma.push{H:Hp}{p x dx:Addr}{hs:List Hold}{cs:List Addr}{h:Hold}(hp:H p=some (.lst (cs.map V.ref)))(pr:Paired (xU t H) cs hs)(nx:H x=none)(mm:H dx=none)(ne:dx≠x):
  ma t (upd (upd (upd H dx (.own x)) x (.ins t.cH dx (Cq (bN h:Int) (h.place:Int) (h.to:Int)))) p (.lst (cs.map V.ref++[V.ref x]))) p (hs++[h]):=by
 have yV:p≠x:=dw hp nx;have Cy:p≠dx:=dw hp mm;refine ⟨cs++[x],by rw[aJ,iO];rfl,vM (gX pr ?_) ?_⟩
 .rintro c h' ⟨d',e⟩;refine ⟨d',?_⟩;rw[bC (iG e hp (by intro z;cases z)),bC (dw e nx),bC (dw e mm)];exact e
 .exact ⟨dx,by rw[bC (fun z=>yV z.symm),aJ]⟩
def mI(rs:List Nat)(gz:List (List ja)):List Hold:=
 (rs.zipIdx.map fun r=>({src:=none,place:=r.2,to:=r.1}:Hold))++gz.zipIdx.flatMap fun x=>x.1.zipIdx.filterMap fun f=>if f.1.weak then none else some ({src:=some x.2,place:=f.2,to:=f.1.to}:Hold)
theorem AX(g:bp):bh g=mI g.roots (g.objs.map (·.fields)):=by
 unfold bh mI;rw[V5,List.flatMap_map];rfl
def vo:Sp:=fun vs H Q _=>∃n:Int,vs=[.int n]/\Q (.int (n+1)) H
theorem aoP{f:Addr}{fd:dn}(F:eW K "holder_of" "holder_of" Qo f fd):c8 P w K mg base bJ 1 f fd uz vo:=by
 refine F.ok amZ (fun vs H Q E h=>?_) (fun c6 A outer s H vs Q E hr h=>?_)
 .obtain ⟨n,rfl,_⟩:=h;rfl
 .obtain ⟨n,rfl,k⟩:=h;refine ⟨_,cy (eN (o6 Gy (pv 0) gg)),?_⟩
  try dsimp only[fQ,fS,fT,fV]
  exact ⟨_,rfl,_,_,rfl,rfl,k⟩
theorem nQ{l:List Nat}{i:Nat}{x:V}(h:(nats l)[i]? =some x):∃n,l[i]? =some n/\x=V.int (n:Int):=by
 unfold nats at h;rw[gp]at h;cases e:l[i]? with
 |none=>rw[e]at h;cases h
 |some n=>rw[e]at h;exact ⟨n,rfl,(gE h).symm⟩
theorem pd{l:List Addr}{i:Nat}{x:V}(h:(l.map V.ref)[i]? =some x):∃n,l[i]? =some n/\x=V.ref n:=by
 rw[gp]at h;cases e:l[i]? with
 |none=>rw[e]at h;cases h
 |some n=>rw[e]at h;exact ⟨n,rfl,(gE h).symm⟩
def acH(t:fZ):Sp:=fun vs H Q _=>∃aR aF rs gz,vs=[.ref aR,.ref aF]/\H aR=some (.lst (nats rs))/\FieldsAt t H aF gz/\(mI rs gz).length<=1000/\∀H' p,aC H H'->H p=none->ma t H' p (mI rs gz)->Q (.ref p) H'
theorem aoQ{α β:Type}(f:α×Nat->List β)(l:List α)(i:Nat):((l.take i).zipIdx.flatMap f).length<=(l.zipIdx.flatMap f).length:=by
 have e:l.zipIdx=(l.take i).zipIdx++(l.drop i).zipIdx (l.take i).length:=by
  rw[<-vK (l.take i).length,<-V2,FP]
 rw[e,sZ,gR];omega
theorem aoR{α β:Type}(f:α×Nat->Option β)(l:List α)(i:Nat):((l.take i).zipIdx.filterMap f).length<=(l.zipIdx.filterMap f).length:=by
 have e:l.zipIdx=(l.take i).zipIdx++(l.drop i).zipIdx (l.take i).length:=by
  rw[<-vK (l.take i).length,<-V2,FP]
 rw[e,V6,gR];omega
def EF(r:Nat×Nat):Hold:={src:=none,place:=r.2,to:=r.1}
def oK(n:Nat)(f:ja×Nat):Option Hold:=if f.1.weak then none else some {src:=some n,place:=f.2,to:=f.1.to}
theorem EG(rs:List Nat)(gz:List (List ja)):mI rs gz=rs.zipIdx.map EF++gz.zipIdx.flatMap fun x=>x.1.zipIdx.filterMap (oK x.2):=rfl
theorem aoS{f fI fh:Addr}{fd CA wD:dn}(F:eW K "number_holds" "number_holds" Qm f fd)(T:Txt K mg t)(cH:xT P w K mg base bJ 1 t.cH fI CA Qi (acG t))(ch:eY P w K mg base bJ 1 "holder_of" fh wD uz vo):
  c8 P w K mg base bJ 3 f fd Qn (acH t):=by
 refine F.ok ZA (fun vs H Q E h=>?_) (fun c6 A outer s H vs Q E hr h=>?_)
 .obtain ⟨aR,aF,rs,gz,rfl,_⟩:=h;rfl
 .obtain ⟨aR,aF,rs,gz,rfl,hR,hF,hlen,k⟩:=h;have ig:dQ 1 _:=hr.mono (by decide);have nd:=ZA.nd;refine ⟨_,bF (dB (i:=2) nd rfl (Or.inl rfl) (dG aO))
   (bF (kW jW rfl (AK rfl T.enumerate (ax (pv 0) aO)) (Ak rfl (oB (gG (i:=3) nd rfl (Or.inl rfl)) (oB (gG (i:=4) nd rfl (Or.inl rfl)) xx)))
    (cy (jv (j8 jX n6 n8 nM (pv 2)
     (ax (yG cH.M cH.G hr rfl T.mgH cH.b .nil di (ax (gY T.Cw) (ax (pv 3) (ax (pv 4) aO)))) aO)))))
   (bF (kW jW rfl (AK rfl T.enumerate (ax (pv 1) aO)) (Ak rfl (oB (gG (i:=5) nd rfl (Or.inl rfl)) (oB (gG (i:=6) nd rfl (Or.inl rfl)) xx)))
    (cy (kW jW rfl (AK rfl T.enumerate (ax (pv 6) aO)) (Ak rfl (oB (gG (i:=3) nd rfl (Or.inl rfl)) (oB (gG (i:=7) nd rfl (Or.inl rfl)) xx)))
     (cy (mQ (ng Kl (cO (pv 7) rfl) gg (mS _))
      (cy (jv (j8 jX n6 n8 nM (pv 2)
       (ax (yG cH.M cH.G hr rfl T.mgH cH.b .nil di (ax (eB ch.G ig rfl ch.m ch.kp ch.b .nil di (ax (pv 5) aO)) (ax (pv 3) (ax (cO (pv 7) rfl) aO)))) aO))))
      mP)))))
   (cy (eN (pv 2))))),?_⟩
  try dsimp only[fQ,fS,fT,fV]
  refine ⟨dU _,fun p hp=>?_⟩;have s0:aC H (upd H p (.lst [])):=aC.nw hp;refine ⟨_,rfl,aR,nats rs,rfl,aD.of (s0 _ _ hR),Ho (K:=K) (a:=aR) (xs:=nats rs)
   (fun i σ H'=>∃v3 v4:Option V,σ=[some (.ref aR),some (.ref aF),some (.ref p),v3,v4,none,none,none]/\aC H H'/\ma t H' p ((rs.take i).zipIdx.map EF))
   ⟨none,none,rfl,s0,[],aJ,.nil⟩ (fun i σ H' _ ⟨_,_,_,s1,_⟩=>aD.of (s1 _ _ hR)) ?_ ?_⟩
  .rintro i x σ H' Tu hx ⟨v3,v4,rfl,s1,cs,hl,pr⟩ hT;obtain ⟨n,hn,rfl⟩:=nQ hx;have hi:i<rs.length:=(gq.mp hn).1;have s2:aC H (upd H' Tu (.tup [.int ((i:Nat):Int),.int (n:Int)])):=s1.new hT;have iH:(upd H' Tu (.tup [.int ((i:Nat):Int),.int (n:Int)])) p=some (.lst (cs.map V.ref)):=aC.nw hT _ _ hl;refine ⟨Tu,_,rfl,kj.of aJ,rfl,_,_,rfl,_,_,rfl,rfl,?_⟩;refine ⟨_,rfl,.inl ⟨rfl,_,aD.of iH⟩,?_⟩;refine ⟨_,rfl,_,rfl,?_⟩;intro x dx nx mm ne;refine ⟨x,dx,0,(i:Int),(n:Int),rfl,aJ,rfl,?_⟩;rw[oz];have yV:p≠x:=dw iH nx;have Cy:p≠dx:=dw iH mm;refine ⟨p,cs.map V.ref,V.ref x,rfl,rfl,by rw[bC yV,bC Cy];exact iH,?_,?_⟩
   .have U:cs.length=((rs.take i).zipIdx.map EF).length:=pr.length;rw[bt,yt,mB]at U;rw[EG,gR,bt,yt]at hlen;rw[bt,eE];omega
   .refine ⟨_,_,rfl,?_,?_⟩
    .refine aC.own (aC.own (aC.own s2 ?_) ?_) hp
     .exact s2.free mm
     .exact s2.free nx
    .have:=ma.push (h:=EF (n,i)) iH (gX pr fun _ _ q=>q.same (aC.nw hT)) nx mm ne;rw[yP hn,iO];rw[vK];exact this
  .rintro σ H1 ⟨v3,v4,rfl,s1,hh⟩;have e1:rs.take (nats rs).length=rs:=by unfold nats;rw[bt,jY]
   rw[e1]at hh;obtain ⟨bs,hb,pb⟩:=hF;have lb:=pb.length;refine ⟨_,rfl,aF,bs.map V.ref,rfl,aD.of (s1 _ _ hb),Ho (K:=K) (a:=aF) (xs:=bs.map V.ref)
    (fun i σ H'=>∃v3 v5 v6 v7:Option V,σ=[some (.ref aR),some (.ref aF),some (.ref p),v3,v4,v5,v6,v7]/\aC H H'/\ma t H' p (rs.zipIdx.map EF++(gz.take i).zipIdx.flatMap fun x=>x.1.zipIdx.filterMap (oK x.2)))
    ⟨v3,none,none,none,rfl,s1,by simpa using hh⟩ (fun i σ H' _ ⟨_,_,_,_,_,s2,_⟩=>aD.of (s2 _ _ hb)) ?_ ?_⟩
   .rintro i x σ H' Tu hx ⟨v3,v5,v6,v7,rfl,s2,EH⟩ hT;obtain ⟨b,hbi,rfl⟩:=pd hx;obtain ⟨fs,yW,cs,jL,pc⟩:=lM pb hbi;have s3:aC H (upd H' Tu (.tup [.int ((i:Nat):Int),.ref b])):=s2.new hT;refine ⟨Tu,_,rfl,kj.of aJ,rfl,_,_,rfl,_,_,rfl,rfl,?_⟩;refine ⟨_,rfl,b,cs.map V.ref,rfl,aD.of (s3 _ _ jL),Ho (K:=K) (a:=b) (xs:=cs.map V.ref)
     (fun j σ H'=>∃v3 v7:Option V,σ=[some (.ref aR),some (.ref aF),some (.ref p),v3,v4,some (.int (i:Int)),some (.ref b),v7]/\aC H H'/\
      ma t H' p ((rs.zipIdx.map EF++(gz.take i).zipIdx.flatMap fun x=>x.1.zipIdx.filterMap (oK x.2))++(fs.take j).zipIdx.filterMap (oK i)))
     ⟨v3,v7,rfl,s3,by simpa using EH.same (aC.nw hT)⟩ (fun i σ H' _ ⟨_,_,_,s2,_⟩=>aD.of (s2 _ _ jL)) ?_ ?_⟩
    .rintro j x σ iJ Tv hx ⟨v3,v7,rfl,s4,yX,hl,pr⟩ EJ;obtain ⟨c,rK,rfl⟩:=pd hx;obtain ⟨fl,Hy,dxf,yY⟩:=lM pc rK;have s5:aC H (upd iJ Tv (.tup [.int ((j:Nat):Int),.ref c])):=s4.new EJ;have iH:(upd iJ Tv (.tup [.int ((j:Nat):Int),.ref c])) p=some (.lst (yX.map V.ref)):=aC.nw EJ _ _ hl;refine ⟨Tv,_,rfl,kj.of aJ,rfl,_,_,rfl,_,_,rfl,rfl,?_⟩;refine ⟨_,rfl,s5 _ _ yY,T.AR,T.RS,aaU _ _ _,rfl,_,rfl,?_⟩;cases hw:fl.weak with
     |true=>
      have e:EE true=1:=rfl;refine jq (fun z=>?_) (fun _=>?_)
      .have:=of_decide_eq_true z;rw[e]at this;cases this
      .refine ⟨_,_,rfl,s5,?_⟩;rw[yP Hy,V6];have:[(fl,0+j)].filterMap (oK i)=[]:=by simp[oK,hw]
       rw[this,nZ];exact ma.same ⟨yX,hl,pr⟩ (aC.nw EJ)
     |false=>
      have e:EE false=0:=rfl;refine jq (fun _=>?_) (fun z=>absurd (decide_eq_true (by rw[e])) z);refine ⟨_,rfl,.inl ⟨rfl,_,aD.of iH⟩,?_⟩;refine ⟨_,rfl,_,rfl,_,rfl,_,rfl,s5 _ _ yY,T.AR,T.RT,aaV _ _ _,?_⟩;intro x dx nx mm ne;refine ⟨x,dx,(i:Int)+1,(j:Int),(fl.to:Int),rfl,aJ,rfl,?_⟩;rw[oz];have yV:p≠x:=dw iH nx;have Cy:p≠dx:=dw iH mm;have LH:(fs.take (j+1)).zipIdx.filterMap (oK i)=(fs.take j).zipIdx.filterMap (oK i)++[{src:=some i,place:=j,to:=fl.to}]:=by
       rw[yP Hy,V6];simp[oK,hw]
      refine ⟨p,yX.map V.ref,V.ref x,rfl,rfl,by rw[bC yV,bC Cy];exact iH,?_,?_⟩
      .have U:=pr.length;have h2:((gz.take (i+1)).zipIdx.flatMap fun x=>x.1.zipIdx.filterMap (oK x.2)).length=((gz.take i).zipIdx.flatMap fun x=>x.1.zipIdx.filterMap (oK x.2)).length+(fs.zipIdx.filterMap (oK i)).length:=by
        rw[yP yW,sZ,gR];simp
       have h3:=aoQ (fun x:List ja×Nat=>x.1.zipIdx.filterMap (oK x.2)) gz (i+1);have h4:=aoR (oK i) fs j;rw[EG,gR]at hlen;rw[gR,gR]at U;rw[bt,eE];omega
      .refine ⟨_,_,rfl,?_,?_⟩
       .refine aC.own (aC.own (aC.own s5 ?_) ?_) hp
        .exact s5.free mm
        .exact s5.free nx
       .have:=ma.push (h:={src:=some i,place:=j,to:=fl.to}) iH (gX pr fun _ _ q=>q.same (aC.nw EJ)) nx mm ne;rw[LH,<-uS];exact this
    .rintro σ H2 ⟨v3,v7,rfl,s4,LI⟩;have e2:fs.take (cs.map V.ref).length=fs:=by rw[bt,pc.length,jY]
     rw[e2]at LI;refine ⟨_,_,_,_,rfl,s4,?_⟩;rw[yP yW,sZ,<-uS]
     simpa using LI
   .rintro σ H2 ⟨v3,v5,v6,v7,rfl,s2,EH⟩;have e2:gz.take (bs.map V.ref).length=gz:=by rw[bt,lb,jY]
    rw[e2]at EH;exact ⟨_,rfl,k H2 p s2 hp EH⟩
def numsOf(hs:List Hold)(q:Nat):List Nat:=(hs.zipIdx.filter fun h=>bN h.1==q).map (·.2)
def heldOf(hs:List Hold)(n:Nat):List (List Nat):=(jO n).map (numsOf hs)
def LstAt(H:Hp)(b:Addr)(l:List Nat):Prop:=H b=some (.lst (nats l))
def HeldAt(H:Hp)(a:Addr)(ls:List (List Nat)):Prop:=∃bs:List Addr,H a=some (.lst (bs.map V.ref))/\Paired (LstAt H) bs ls
theorem HeldAt.same{H H':Hp}{c:Addr}{f:List (List Nat)}(h:HeldAt H c f)(s:aC H H'):HeldAt H' c f:=let ⟨cs,e,p⟩:=h;⟨cs,s _ _ e,gX p fun _ _ q=>s _ _ q⟩
theorem numsOf_len(hs:List Hold)(q:Nat):(numsOf hs q).length<=hs.length:=by
 unfold numsOf;rw[bt];exact gN (mL _ _) (by simp)
def placesOf(es:List Nat)(q:Nat):List Nat:=(es.zipIdx.filter fun e=>e.1==q).map (·.2)
def yZ(es:List Nat)(n:Nat):List (List Nat):=(jO n).map (placesOf es)
theorem LJ(hs:List Hold)(q:Nat):numsOf hs q=placesOf (hs.map bN) q:=by
 unfold numsOf placesOf;rw[V5,JC,n9];rfl
theorem aoU(hs:List Hold)(n:Nat):heldOf hs n=yZ (hs.map bN) n:=yo fun q _=>LJ hs q
theorem aoV{hs:List Nat}{i:Nat}{h:Nat}(e:hs[i]? =some h)(q:Nat):placesOf (hs.take (i+1)) q=if h=q then placesOf (hs.take i) q++[i] else placesOf (hs.take i) q:=by
 unfold placesOf;rw[yP e,vJ,iO];by_cases z:h=q
 .simp[z]
 .simp[z]
theorem R3(hs:List Nat)(q:Nat):(placesOf hs q).length<=hs.length:=by
 unfold placesOf;rw[bt];exact gN (mL _ _) (by simp)
def LK(hs:List Hold)(n:Nat):List (List Nat):=yZ (hs.map dD) n
def acI:Sp:=fun vs H Q _=>∃aH hs n,vs=[.ref aH,.int ((n:Nat):Int)]/\H aH=some (.lst (nats hs))/\n<=1000/\hs.length<=1000/\(∀h∈hs,h<n)/\
 ∀H' p,aC H H'->H p=none->HeldAt H' p (yZ hs n)->Q (.ref p) H'
theorem aoW{f:Addr}{fd:dn}(F:eW K "group_by_end" "group_by_end" K4 f fd)(T:Txt K mg t):c8 P w K mg base bJ 1 f fd Qp acI:=by
 refine F.ok ZD (fun vs H Q E h=>?_) (fun c6 A outer s H vs Q E hr h=>?_)
 .obtain ⟨aH,hs,n,rfl,_⟩:=h;rfl
 .obtain ⟨aH,hs,n,rfl,hH,hn,hsl,eU,k⟩:=h;have nd:=ZD.nd;refine ⟨_,bF (KH (i:=2) (own:=[("holder",5)]) rfl nd rfl rfl (KI rfl rfl rfl (by decide +kernel)) (B0 rfl T.range (ax (pv 1) aO)) (sj (by show qQ ZC (da K4) _ _=true;decide +kernel))
    (fun s H C cl fp=>gG (i:=5) nd rfl (Or.inl rfl) (Or.inr rfl)) (fun s H C cl fp=>AB) (fun s H C cl fp=>dG aO))
   (bF (kW jW rfl (AK rfl T.enumerate (ax (pv 0) aO)) (Ak rfl (oB (gG (i:=3) nd rfl (Or.inl rfl)) (oB (gG (i:=4) nd rfl (Or.inl rfl)) xx)))
    (cy (jv (j8 jX n6 n8 nM (gj ia (pv 2) (pv 4) (fun _ _=>rfl)) (ax (pv 3) aO)))))
   (cy (eN (pv 2)))),?_⟩
  try dsimp only[fQ,fS,fT,fV]
  have hc:=hH;refine ⟨_,rfl,(n:Int),rfl,by omega,by omega,?_⟩;intro D hD;refine alS (fun i H'=>∃bs:List Addr,H' D=some (.lst (bs.map V.ref))/\bs.length=i/\bs.Nodup/\(∀b∈bs,H' b=some (.lst [])/\H b=none)/\aC H H') ⟨[],aJ,rfl,Bu,fun _ h=>(NN h).elim,aC.nw hD⟩ ?_ ?_
  .rintro i H' hi ⟨bs,hb,bl,bn,ba,s1⟩;refine ⟨rfl,dU _,fun q hq=>?_⟩;have nDq:D≠q:=dw hb hq;refine ⟨bs.map V.ref,by rw[bC nDq];exact hb,by rw[bt,bl,eE];omega,?_⟩;have nq:∀b∈bs,b≠q:=fun b iU=>dw (ba b iU).1 hq;have nD:∀b∈bs,b≠D:=fun b iU z=>by
    have:=(ba b iU).2;have h2:=(ba b iU).1;rw[z,hb]at h2;injection h2 with h2
    injection h2 with h2
    cases bs with
    |nil=>cases iU
    |cons x r=>simp at h2
   refine ⟨bs++[q],by rw[aJ,iO];rfl,by rw[gR,bl];rfl,?_,?_,?_⟩
   .rw[wZ];refine ⟨bn,by simp,?_⟩;intro a ha b iU e;simp at iU;subst iU;exact nq a ha e
   .intro b iU;rcases kN.mp iU with z|z
    .refine ⟨?_,(ba b z).2⟩;rw[bC (nD b z),bC (nq b z)];exact (ba b z).1
    .simp at z;subst z;refine ⟨?_,s1.free hq⟩;rw[bC (fun z=>nDq z.symm),aJ]
   .exact aC.own (s1.new hq) hD
  .rintro H1 ⟨bs,hb,bl,bn,ba,s1⟩;have e0:(n:Int).toNat=n:=by omega
   rw[e0]at bl;refine ⟨_,rfl,aH,nats hs,rfl,aD.of (s1 _ _ hc),Ho (K:=K) (a:=aH) (xs:=nats hs)
    (fun i σ H'=>∃v3 v4 v5:Option V,σ=[some (.ref aH),some (.int (n:Int)),some (.ref D),v3,v4,v5]/\aC H H'/\H' D=some (.lst (bs.map V.ref))/\Paired (LstAt H') bs (yZ (hs.take i) n))
    ⟨none,none,_,rfl,s1,hb,?_⟩ (fun i σ H' _ ⟨_,_,_,_,s2,_⟩=>aD.of (s2 _ _ hc)) ?_ ?_⟩
   .have gen:∀(bs:List Addr)(l:List Nat),bs.length=l.length->(∀b∈bs,H1 b=some (.lst []))->Paired (LstAt H1) bs (l.map (placesOf (hs.take 0))):=by
     intro bs
     induction bs with
     |nil=>
      intro l e _;cases l with
      |nil=>exact .nil
      |cons a r=>simp at e
     |cons b r ih=>
      intro l e h;cases l with
      |nil=>simp at e
      |cons a q=>exact .cons (h b (by simp)) (ih q (by simpa using e) fun c hc=>h c (by simp[hc]))
    exact gen bs (jO n) (by rw[bl,xc]) fun b iU=>(ba b iU).1
   .rintro i x σ H' Tu hx ⟨v3,v4,v5,rfl,s2,hl,pr⟩ hT;obtain ⟨h,HA,rfl⟩:=nQ hx;have s3:aC H (upd H' Tu (.tup [.int ((i:Nat):Int),.int (h:Int)])):=s2.new hT;have q3:aC H' (upd H' Tu (.tup [.int ((i:Nat):Int),.int (h:Int)])):=aC.nw hT;have hm:h∈hs:=iy HA;have hq:=eU h hm;obtain ⟨b,sy⟩:∃b,bs[h]? =some b:=⟨_,iN (by rw[bl];exact hq)⟩;obtain ⟨l,iH,AZ⟩:=lM pr sy;have el:l=placesOf (hs.take i) (h):=by
     unfold yZ at iH;rw[gp,BC hq]at iH;exact (gE iH).symm
    refine ⟨Tu,_,rfl,kj.of aJ,rfl,_,_,rfl,_,_,rfl,rfl,?_⟩;refine ⟨_,rfl,_,rfl,D,bs.map V.ref,_,_,rfl,rfl,aD.of (q3 _ _ hl),at_of (j:=h) (v:=V.ref b) rfl (by rw[gp,sy];rfl),?_⟩;refine ⟨.inl ⟨rfl,_,aD.of (q3 _ _ AZ)⟩,_,rfl,?_⟩;refine ⟨b,nats l,_,rfl,rfl,q3 _ _ AZ,?_,?_⟩
    .have U:=R3 (hs.take i) (h);have h2:(hs.take i).length<=hs.length:=V7 _ _;unfold nats;rw[bt,el,eE];omega
    .have hbH:H b=none:=(ba b (iy sy)).2;have nbD:D≠b:=fun z=>by
      rw[<-z,hD]at hbH;have h2:=hl;have h3:H' D=some (.lst (nats l)):=by rw[z];exact AZ
      rw[h2]at h3;injection h3 with h3
      injection h3 with h3
      cases bs with
      |nil=>simp at sy
      |cons x r=>
       cases l with
       |nil=>simp[nats]at h3
       |cons y z=>simp[nats]at h3
     refine ⟨_,_,_,rfl,s3.own hbH,?_,?_⟩
     .rw[bC nbD];exact q3 _ _ hl
     ·
      have fin:∀(HB:List Addr)(xV:List (List Nat))(G:Hp),HB.length=xV.length->(∀(j:Nat)(c:Addr)(l':List Nat),HB[j]? =some c->xV[j]? =some l'->LstAt G c l')->Paired (LstAt G) HB xV:=by
       intro HB
       induction HB with
       |nil=>
        intro xV G e _;cases xV with
        |nil=>exact .nil
        |cons a r=>simp at e
       |cons x r ih=>
        intro xV G e h;cases xV with
        |nil=>simp at e
        |cons a q=>exact .cons (h 0 x a rfl rfl) (ih q G (by simpa using e) fun j c l' U h2=>h (j+1) c l' U h2)
      refine fin bs _ _ (by unfold yZ;rw[bt,xc,bl]) ?_;intro j c' l' rK R4;have hj:j<n:=by rw[<-bl];exact (gq.mp rK).1
      have R5:l'=placesOf (hs.take (i+1)) j:=by
       unfold yZ at R4;rw[gp,BC hj]at R4;exact (gE R4).symm
      subst R5;show (upd (upd H' Tu (.tup [.int ((i:Nat):Int),.int (h:Int)])) b (.lst (nats l++[V.int (i:Int)]))) c'=some (.lst (nats (placesOf (hs.take (i+1)) j)));rw[aoV HA];by_cases z:h=j
      .subst z;have:c'=b:=gE (rK.symm.trans sy);subst this;rw[if_pos rfl,aJ,el];simp[nats]
      .rw[if_neg z];have R6:c'≠b:=fun y=>z (Hb bn sy (by rw[<-y];exact rK));obtain ⟨l',Gj,hlc⟩:=lM pr rK;have R5:l'=placesOf (hs.take i) j:=by
        unfold yZ at Gj;rw[gp,BC hj]at Gj;exact (gE Gj).symm
       rw[bC R6,<-R5];exact q3 _ _ hlc
   .rintro σ H2 ⟨v3,v4,v5,rfl,s2,hl,pr⟩;have e2:hs.take (nats hs).length=hs:=by unfold nats;rw[bt,jY]
    rw[e2]at pr;exact ⟨_,rfl,k H2 D s2 hD ⟨bs,hl,pr⟩⟩
theorem HC{H:Hp}{p c C C' dx B5:Addr}{fs pC:List (Str×V)}(h:H c=some (.ins C dx fs))(h':H p=some (.ins C' B5 pC))(hl:fs.length≠pC.length):c≠p:=
 iG h h' fun z=>by
  injection z with _ _ z
  exact hl (congrArg List.length z)
theorem oM{H:Hp}{p c C' B5:Addr}{xs:List V}{pC:List (Str×V)}(h:H c=some (.lst xs))(h':H p=some (.ins C' B5 pC)):c≠p:=iG h h' fun z=>by cases z
theorem ma.but{H H':Hp}{p a C dx:Addr}{fs:List (Str×V)}{hs:List Hold}(h:ma t H a hs)(b:bY p H H')(hp:H p=some (.ins C dx fs))(hl:fs.length≠3):ma t H' a hs:=by
 obtain ⟨cs,e,pr⟩:=h;refine ⟨cs,b _ _ e (oM e hp),gX pr ?_⟩;rintro c h ⟨d,q⟩;exact ⟨d,b _ _ q (HC q hp (fun z=>hl (z.symm.trans rfl)))⟩
theorem k6.but{H H':Hp}{p a C dx:Addr}{fs:List (Str×V)}{hs:List ja}(h:k6 t H a hs)(b:bY p H H')(hp:H p=some (.ins C dx fs))(hl:fs.length≠3):k6 t H' a hs:=by
 obtain ⟨cs,e,pr⟩:=h;refine ⟨cs,b _ _ e (oM e hp),gX pr ?_⟩;rintro c h ⟨d,q⟩;exact ⟨d,b _ _ q (HC q hp (fun z=>hl (z.symm.trans rfl)))⟩
theorem FieldsAt.but{H H':Hp}{p a C dx:Addr}{fs:List (Str×V)}{hs:List (List ja)}(h:FieldsAt t H a hs)(b:bY p H H')(hp:H p=some (.ins C dx fs))(hl:fs.length≠3):FieldsAt t H' a hs:=by
 obtain ⟨cs,e,pr⟩:=h;exact ⟨cs,b _ _ e (oM e hp),gX pr fun _ _ q=>q.but b hp hl⟩
theorem HeldAt.but{H H':Hp}{p a C dx:Addr}{fs:List (Str×V)}{hs:List (List Nat)}(h:HeldAt H a hs)(b:bY p H H')(hp:H p=some (.ins C dx fs)):HeldAt H' a hs:=by
 obtain ⟨cs,e,pr⟩:=h;exact ⟨cs,b _ _ e (oM e hp),gX pr fun _ _ q=>b _ _ q (oM q hp)⟩
structure i7(t:fZ)(H:Hp)(p:Addr)(g:bp):Prop where
 ex:∃dx aK aS aF aR aH aE aL,H p=some (.ins t.cG dx (xO aK aS aF aR aH aE aL))/\H aK=some (.lst (nats (g.objs.map (·.kind))))/\H aS=some (.lst (nats (g.objs.map (·.size))))/\FieldsAt t H aF (g.objs.map (·.fields))/\
  H aR=some (.lst (nats g.roots))/\ma t H aH (bh g)/\HeldAt H aE (heldOf (bh g) (g.objs.length+1))/\HeldAt H aL (LK (bh g) (g.objs.length+1))
theorem i7.same{H H':Hp}{p:Addr}{g:bp}(h:i7 t H p g)(s:aC H H'):i7 t H' p g:=by
 obtain ⟨dx,aK,aS,aF,aR,aH,aE,aL,U,h2,h3,h4,h5,h6,h7,h8⟩:=h.ex;exact ⟨dx,aK,aS,aF,aR,aH,aE,aL,s _ _ U,s _ _ h2,s _ _ h3,h4.same s,s _ _ h5,h6.same s,h7.same s,h8.same s⟩
def HD(t:fZ):Sp:=fun vs H Q _=>∃p dx aK aS aF aR gz rs,vs=[.ref p,.ref aK,.ref aS,.ref aF,.ref aR]/\H p=some (.ins t.cG dx [])/\FieldsAt t H aF gz/\H aR=some (.lst (nats rs))/\
 (mI rs gz).length<=1000/\gz.length<=999/\(∀h∈mI rs gz,h.to<gz.length)/\∀H' aH aE aL,bY p H H'->H' p=some (.ins t.cG dx (xO aK aS aF aR aH aE aL))->ma t H' aH (mI rs gz)->HeldAt H' aE (heldOf (mI rs gz) (gz.length+1))->
 HeldAt H' aL (LK (mI rs gz) (gz.length+1))->Q .eM H'
theorem ao0{rs:List Nat}{gz:List (List ja)}:∀h∈mI rs gz,bN h<gz.length+1:=by
 intro h hh;rw[EG]at hh;rcases kN.mp hh with z|z
 .obtain ⟨r,_,rfl⟩:=js.mp z;show 0<_;omega
 .obtain ⟨x,hx,z⟩:=NO.mp z;obtain ⟨f,_,z⟩:=Ds.mp z;have hi:=(pz.mp hx);have:=(gq.mp hi).1;unfold oK at z
  split at z
  .cases z
  .cases z;show x.2+1<_;omega
theorem ao1{f fn fg fo:Addr}{fd R9 Sa mV:dn}(F:eW K "__init__" "Graph.__init__" Hf f fd)(T:Txt K mg t)(cn:eY P w K mg base bJ 3 "number_holds" fn R9 Qn (acH t))(cg:eY P w K mg base bJ 1 "group_by_end" fg Sa Qp acI)(co:eY P w K mg base bJ 1 "holder_of" fo mV uz vo):c8 P w K mg base bJ 4 f fd Hg (HD t):=by
 refine F.ok Zz (fun vs H Q E h=>?_) (fun c6 A outer s H vs Q E hr h=>?_)
 .obtain ⟨p,dx,aK,aS,aF,aR,gz,rs,rfl,_⟩:=h;rfl
 .obtain ⟨p,dx,aK,aS,aF,aR,gz,rs,rfl,hp,hF,hR,om,iH,mn,k⟩:=h;have ig:dQ 1 _:=hr.mono (by decide);have nd:=Zz.nd;refine ⟨_,bF (mT (pv 0) (pv 1) rfl) (bF (mT (pv 0) (pv 2) rfl) (bF (mT (pv 0) (pv 3) rfl) (bF (mT (pv 0) (pv 4) rfl)
   (bF (mT (pv 0) (eB cn.G hr rfl cn.m cn.kp cn.b .nil di (ax (pv 4) (ax (pv 3) aO))) rfl)
   (bF (mT (pv 0) (eB cg.G ig rfl cg.m cg.kp cg.b .nil di (ax (wm (own:=[("hold",5)]) rfl nd (l0 (cO (pv 0) rfl)) (sj (by show qQ Qj (da Hf) _ _=true;decide +kernel))
     (fun s H C cl fp=>gG (i:=5) nd rfl (Or.inl rfl) (Or.inr rfl)) (fun s H C cl fp=>AB) (fun s H C cl fp=>wz (K:=K) (pv 5)))
     (ax (o6 Gy (jR l7 (by rfl) T.len lW (ax (pv 3) aO)) gg) aO))) rfl)
   (cy (mT (pv 0) (eB cg.G ig rfl cg.m cg.kp cg.b .nil di (ax (wm (own:=[("hold",5)]) rfl nd (l0 (cO (pv 0) rfl)) (sj (by show qQ Qj (da Hf) _ _=true;decide +kernel))
     (fun s H C cl fp=>gG (i:=5) nd rfl (Or.inl rfl) (Or.inr rfl)) (fun s H C cl fp=>AB) (fun s H C cl fp=>aa7 co.G ig co.m co.kp co.b (ax (wz (K:=K) (pv 5)) aO)))
     (ax (o6 Gy (jR l7 (by rfl) T.len lW (ax (pv 3) aO)) gg) aO))) rfl))))))),?_⟩
  try dsimp only[fQ,fS,fT,fV]
  refine ⟨_,rfl,_,rfl,p,t.cG,dx,[],rfl,hp,T.iT,T.AS,(by decide),?_⟩;refine ⟨_,rfl,_,rfl,p,t.cG,dx,_,rfl,aJ,T.iT,T.Lv,(by show 1<1000;decide),?_⟩;refine ⟨_,rfl,_,rfl,p,t.cG,dx,_,rfl,aJ,T.iT,T.RV,(by rw[RJ,RK];show 2<1000;decide),?_⟩;refine ⟨_,rfl,_,rfl,p,t.cG,dx,_,rfl,aJ,T.iT,T.Lw,(by rw[RJ,RK,aa2];show 3<1000;decide),?_⟩;rw[oz,oz,oz,RJ,RK,aa2,anY];have b1:bY p H (upd H p (.ins t.cG dx [("kinds",.ref aK),("sizes",.ref aS),("fields",.ref aF),("roots",.ref aR)])):=(bY.refl p H).upd;have hl0:([]:List (Str×V)).length≠3:=by decide
  refine ⟨_,rfl,_,rfl,aR,aF,rs,gz,rfl,b1 _ _ hR (oM hR hp),hF.but b1 hp hl0,om,?_⟩;intro H2 aH s2 _ EH;refine ⟨_,rfl,p,t.cG,dx,_,rfl,s2 _ _ aJ,T.iT,T.pO,(by show 4<1000;decide),?_⟩;rw[anZ];have oH:=s2 _ _ (aJ (H:=H) (a:=p) (o:=.ins t.cG dx [("kinds",.ref aK),("sizes",.ref aS),("fields",.ref aF),("roots",.ref aR)]));have b2:bY p H2 (upd H2 p (.ins t.cG dx [("kinds",.ref aK),("sizes",.ref aS),("fields",.ref aF),("roots",.ref aR),("holds",.ref aH)])):=(bY.refl p H2).upd;have LI:=EH.but b2 oH (by simp);have b12:bY p H H2:=b1.trans s2.but;have A0:=b12.trans b2;have hF3:=hF.but A0 hp hl0;have LL:∀{r:List (Str×V)},List.lookup ("holds":Str) (("kinds",V.ref aK)::("sizes",V.ref aS)::("fields",V.ref aF)::("roots",V.ref aR)::("holds",V.ref aH)::r)=some (V.ref aH):=by
   intro r
   kernel_rfl
  generalize eH3:upd H2 p (.ins t.cG dx [("kinds",.ref aK),("sizes",.ref aS),("fields",.ref aF),("roots",.ref aR),("holds",.ref aH)])=H3 at *;have qp:H3 p=some (.ins t.cG dx [("kinds",.ref aK),("sizes",.ref aS),("fields",.ref aF),("roots",.ref aR),("holds",.ref aH)]):=by rw[<-eH3];exact aJ
  obtain ⟨cs,hc,pc⟩:=LI;have lcs:=pc.length;refine ⟨_,rfl,qp,T.iT,T.pO,LL,aH,rfl,⟨_,aD.of hc⟩,fun D hD=>?_⟩;refine wo (K:=K) (a:=aH) (xs:=cs.map V.ref) (fun j H'=>aC H3 H'/\H' D=some (.lst (nats (((mI rs gz).take j).map bN)))) ⟨aC.nw hD,aJ⟩ (fun j H' _ ⟨s5,_⟩=>aD.of (s5 _ _ hc)) ?_ ?_
  .rintro j x H' hx ⟨s5,iw⟩;obtain ⟨c,rK,rfl⟩:=pd hx;obtain ⟨h,xW,d1,ho⟩:=lM pc rK;have hj:=(gq.mp xW).1;refine ⟨rfl,_,rfl,s5 _ _ ho,T.nP,T.xQ,yM _ _ _,_,iw,?_,s5.own hD,?_⟩
   .unfold nats;rw[bt,bt,mB,eE];omega
   .rw[aJ,take_snoc xW,iO];unfold nats;rw[iO];rfl
  rintro H4 ⟨s4,uD⟩;have e4:(mI rs gz).take (cs.map V.ref).length=mI rs gz:=by rw[bt,lcs,jY]
  rw[e4]at uD;have hF4:=hF3.same s4;obtain ⟨bs,uE,EL⟩:=hF4;refine ⟨_,rfl,aF,bs.map V.ref,rfl,.inl (aD.of uE),_,_,rfl,rfl,?_⟩;refine ⟨D,(mI rs gz).map bN,gz.length+1,?_,uD,by omega,by rw[bt];exact om,?_,?_⟩
  .rw[bt,EL.length];rfl
  .intro h hh;obtain ⟨a,ha,rfl⟩:=js.mp hh;exact ao0 a ha
  intro H5 aE s5 _ hh5;rw[<-aoU]at hh5;have A1:=s5 _ _ (s4 _ _ qp);refine ⟨_,rfl,p,t.cG,dx,_,rfl,A1,T.iT,T.Lx,(by show 5<1000;decide),?_⟩;rw[an0];have b6:bY p H5 (upd H5 p (.ins t.cG dx [("kinds",.ref aK),("sizes",.ref aS),("fields",.ref aF),("roots",.ref aR),("holds",.ref aH),("held",.ref aE)])):=(bY.refl p H5).upd;have Sb:bY p H3 (upd H5 p (.ins t.cG dx [("kinds",.ref aK),("sizes",.ref aS),("fields",.ref aF),("roots",.ref aR),("holds",.ref aH),("held",.ref aE)])):=(s4.trans s5).but.trans b6;have hh6:=hh5.but b6 A1;have ao6:ma t _ aH (mI rs gz):=ma.but (⟨cs,hc,pc⟩:ma t H3 aH (mI rs gz)) Sb qp (by simp);have y9:=hF3.but Sb qp (by simp);have ao7:bY p H _:=A0.trans Sb;generalize eH6:upd H5 p (.ins t.cG dx [("kinds",.ref aK),("sizes",.ref aS),("fields",.ref aF),("roots",.ref aR),("holds",.ref aH),("held",.ref aE)])=H6 at *;have EM:H6 p=some (.ins t.cG dx [("kinds",.ref aK),("sizes",.ref aS),("fields",.ref aF),("roots",.ref aR),("holds",.ref aH),("held",.ref aE)]):=by rw[<-eH6];exact aJ
  obtain ⟨cs,hc,pc⟩:=ao6;have lcs:=pc.length;refine ⟨_,rfl,EM,T.iT,T.pO,LL,aH,rfl,⟨_,aD.of hc⟩,fun D2 nv=>?_⟩;refine wo (K:=K) (a:=aH) (xs:=cs.map V.ref) (fun j H'=>aC H6 H'/\H' D2=some (.lst (nats (((mI rs gz).take j).map dD)))) ⟨aC.nw nv,aJ⟩ (fun j H' _ ⟨s5,_⟩=>aD.of (s5 _ _ hc)) ?_ ?_
  .rintro j x H' hx ⟨s5,iw⟩;obtain ⟨c,rK,rfl⟩:=pd hx;obtain ⟨h,xW,d1,ho⟩:=lM pc rK;have hj:=(gq.mp xW).1;refine ⟨rfl,_,rfl,s5 _ _ ho,T.nP,T.xR,yN _ _ _,_,rfl,_,iw,?_,s5.own nv,?_⟩
   .unfold nats;rw[bt,bt,mB,eE];omega
   .rw[aJ,take_snoc xW,iO];unfold nats;rw[iO];rfl
  rintro H7 ⟨s7,hD7⟩;have e7:(mI rs gz).take (cs.map V.ref).length=mI rs gz:=by rw[bt,lcs,jY]
  rw[e7]at hD7;have hF7:=y9.same s7;obtain ⟨bs,uE,EL⟩:=hF7;refine ⟨_,rfl,aF,bs.map V.ref,rfl,.inl (aD.of uE),_,_,rfl,rfl,?_⟩;refine ⟨D2,(mI rs gz).map dD,gz.length+1,?_,hD7,by omega,by rw[bt];exact om,?_,?_⟩
  .rw[bt,EL.length];rfl
  .intro h hh;obtain ⟨a,ha,rfl⟩:=js.mp hh;exact Nat.succ_lt_succ (mn a ha)
  intro H8 aL s8 _ hh8;have hp8:=s8 _ _ (s7 _ _ EM);refine ⟨_,rfl,p,t.cG,dx,_,rfl,hp8,T.iT,T.abm,(by show 6<1000;decide),?_⟩;rw[an1];have b9:bY p H8 (upd H8 p (.ins t.cG dx (xO aK aS aF aR aH aE aL))):=(bY.refl p H8).upd;have Sd:=(s7.trans s8).but.trans b9;exact k _ aH aE aL (ao7.trans Sd) aJ (ma.but (⟨cs,hc,pc⟩:ma t H6 aH (mI rs gz)) Sd EM (by simp)) (hh6.but Sd EM) (HeldAt.but hh8 b9 hp8)
def apb(t:fZ):List V->Hp->VK->Prop:=fun vs H Q=>∃aK aS aF aR g,vs=[.ref aK,.ref aS,.ref aF,.ref aR]/\H aK=some (.lst (nats (g.objs.map (·.kind))))/\H aS=some (.lst (nats (g.objs.map (·.size))))/\FieldsAt t H aF (g.objs.map (·.fields))/\
 H aR=some (.lst (nats g.roots))/\(bh g).length<=1000/\g.objs.length<=999/\(∀h∈bh g,h.to<g.objs.length)/\∀H' p,aC H H'->H p=none->i7 t H' p g->Q (.ref p) H'
theorem Se{H:Hp}{Q:VK}{vs:List V}(h:apb t vs H Q):∀x dx,H x=none->H dx=none->dx≠x->HD t (.ref x::(vs++[])) (upd (upd H dx (.own x)) x (.ins t.cG dx [])) (fun v H2=>v=.eM/\Q (.ref x) H2) E0:=by
 intro x dx nx mm ne;obtain ⟨aK,aS,aF,aR,g,rfl,hK,hS,hF,hR,om,iH,mn,k⟩:=h;have s1:aC H (upd (upd H dx (.own x)) x (.ins t.cG dx [])):=((aC.nw mm).own nx);refine ⟨x,dx,aK,aS,aF,aR,g.objs.map (·.fields),g.roots,rfl,aJ,hF.same s1,s1 _ _ hR,by rw[<-AX];exact om,by rw[bt];exact iH,by rw[<-AX,bt];exact mn,?_⟩;intro H' aH aE aL b hx hh he hL;rw[<-AX]at hh he hL;rw[bt]at he hL;have s2:aC H H':=bY.same s1 b nx;exact ⟨rfl,k H' x s2 nx ⟨dx,aK,aS,aF,aR,aH,aE,aL,hx,s2 _ _ hK,s2 _ _ hS,hF.same s2,s2 _ _ hR,hh,he,hL⟩⟩
def LM:bp:={objs:=[],roots:=[]}
def acQ(t:fZ):Sp:=fun vs H Q _=>vs=[]/\∀H' p,aC H H'->H p=none->i7 t H' p LM->Q (.ref p) H'
theorem apc{f fI:Addr}{fd CA:dn}(F:eW K "empty_graph" "empty_graph" Qk f fd)(T:Txt K mg t)(cG:xT P w K mg base bJ 4 t.cG fI CA Hg (HD t)):c8 P w K mg base bJ 6 f fd Ql (acQ t):=by
 refine F.ok amW (fun vs H Q E h=>?_) (fun c6 A outer s H vs Q E hr h=>?_)
 .obtain ⟨rfl,_⟩:=h;rfl
 .obtain ⟨rfl,k⟩:=h;refine ⟨_,cy (eN (yG cG.M cG.G hr rfl T.RW cG.b .nil di (ax (dG aO) (ax (dG aO) (ax (dG aO) (ax (dG aO) aO)))))),?_⟩
  try dsimp only[fQ,fS,fT,fV]
  refine ⟨dU _,fun a1 U=>⟨dU _,fun a2 h2=>⟨dU _,fun a3 h3=>⟨dU _,fun a4 h4=>?_⟩⟩⟩⟩;have s1:aC H (upd H a1 (.lst [])):=aC.nw U;have s2:=aC.nw (o:=.lst []) h2;have s3:=aC.nw (o:=.lst []) h3;have s4:=aC.nw (o:=.lst []) h4;refine Se ⟨a1,a2,a3,a4,LM,rfl,s4 _ _ (s3 _ _ (s2 _ _ aJ)),s4 _ _ (s3 _ _ aJ),⟨[],s4 _ _ aJ,.nil⟩,aJ,(by decide),(by decide),(by decide),?_⟩;intro H' p s5 hp g5;have s14:=((s1.trans s2).trans s3).trans s4;exact k H' p (s14.trans s5) (s14.free hp) g5
abbrev uG(α:Type):=List Int->Option (α×List Int)
def jT(most:Int):uG Int
 | []=>none
 |n::r=>if 0<=n/\n<=most then some (n,r) else none
def rep{α:Type}(one:uG α):Nat->uG (List α)
 |0,r=>some ([],r)
 |n+1,r=>match rep one n r with
  |none=>none
  |some (l,r1)=>match one r1 with
   |none=>none
   |some (a,r2)=>some (l++[a],r2)
theorem LN{α:Type}{one:uG α}{r:List Int}{i:Nat}(h:rep one i r=none):∀n,i<=n->rep one n r=none
 |0,hn=>by
  have:i=0:=by omega
  subst this;exact h
 |n+1,hn=>by
  by_cases z:i=n+1
  .subst z;exact h
  .have:=LN h n (by omega);show (match rep one n r with|none=>none|some (l,r1)=>_)=none;rw[this]
theorem CB{α:Type}{one:uG α}{r r':List Int}{l:List α}:∀{n:Nat},rep one n r=some (l,r')->l.length=n
 |0,h=>by cases h;rfl
 |n+1,h=>by
  unfold rep at h
  split at h
  .cases h
  .rename_i l1 r1 U
   split at h
   .cases h
   .cases h;rw[gR,CB U];rfl
theorem EO{α:Type}{one:uG α}{r r1:List Int}{l:List α}{n:Nat}(h:rep one n r=some (l,r1)):rep one (n+1) r=match one r1 with|none=>none|some (a,r2)=>some (l++[a],r2):=by
 show (match rep one n r with|none=>none|some (l,r1)=>match one r1 with|none=>none|some (a,r2)=>some (l++[a],r2))=_;rw[h]
def nz(count:Int):uG ja:=fun r=>match jT 199 r with
 |none=>none
 |some (l,r1)=>match jT 1 r1 with
  |none=>none
  |some (w,r2)=>match jT (count-1) r2 with
   |none=>none
   |some (a,r3)=>some ({label:=l.toNat,weak:=w==1,to:=a.toNat},r3)
def wG(count:Int):uG (List ja):=fun r=>match jT 12 r with
 |none=>none
 |some (m,r1)=>rep (nz count) m.toNat r1
def nR(count:Int):uG lj:=fun r=>match jT 99 r with
 |none=>none
 |some (k,r1)=>match jT 1000000 r1 with
  |none=>none
  |some (z,r2)=>match wG count r2 with
   |none=>none
   |some (fs,r3)=>some ({kind:=k.toNat,size:=z.toNat,fields:=fs},r3)
def uH(count:Int):uG (List Int):=fun r=>match jT 16 r with
 |none=>none
 |some (m,r1)=>rep (jT (count-1)) m.toNat r1
def pEnd(n:Int)(os:List lj)(r:List Int):Option bp:=match uH n r with
 |none=>none
 |some (rs,r3)=>if r3=[]/\(os.map fun x=>x.fields.length).sum<=160 then some {objs:=os,roots:=rs.map Int.toNat} else none
def Sf(n:Int):Option (List lj×List Int)->Option bp
 |none=>none
 |some (os,r)=>pEnd n os r
def sE(r:List Int):Option bp:=match jT 48 r with
 |none=>none
 |some (n,r1)=>Sf n (rep (nR n) n.toNat r1)
theorem ER(most n:Int)(r:List Int):jT most (n::r)=if 0<=n/\n<=most then some (n,r) else none:=rfl
theorem vp{most n:Int}{r r':List Int}(h:jT most r=some (n,r')):0<=n/\n<=most:=by
 cases r with
 |nil=>cases h
 |cons a q=>
  rw[ER]at h;by_cases z:0<=a/\a<=most
  .rw[if_pos z]at h;cases h;exact z
  .rw[if_neg z]at h;cases h
def mX(t:fZ)(H:Hp)(p a:Addr)(xs rest:List Int):Prop:=∃(dx:Addr)(i:Nat),H p=some (.ins t.cR dx (il a ((i:Nat):Int)))/\i<=xs.length/\xs.drop i=rest
theorem aD.but{H H':Hp}{p a C dx:Addr}{xs:List V}{fs:List (Str×V)}(h:aD K H a xs)(b:bY p H H')(hp:H p=some (.ins C dx fs)):aD K H' a xs:=by
 rcases h with (h|⟨o,h⟩)|h
 .exact .inl (.inl (b _ _ h (oM h hp)))
 .exact .inl (.inr ⟨o,b _ _ h (iG h hp (by intro z;cases z))⟩)
 .exact .inr h
theorem mX.same{H H':Hp}{p a:Addr}{xs r:List Int}(h:mX t H p a xs r)(s:aC H H'):mX t H' p a xs r:=let ⟨dx,i,U,h3,h4⟩:=h;⟨dx,i,s _ _ U,h3,h4⟩
theorem mX.ins{H:Hp}{p a:Addr}{xs r:List Int}(h:mX t H p a xs r):∃dx i,H p=some (.ins t.cR dx (il a i)):=let ⟨dx,i,U,_⟩:=h;⟨dx,_,U⟩
def LO(K:cB)(t:fZ):Sp:=fun vs H Q E=>∃p a xs rest most,vs=[.ref p,.int most]/\aD K H a (xs.map V.int)/\mX t H p a xs rest/\(match jT most rest with
 |none=>∀H',bY p H H'->E (.ref t.cX) none H'
 |some (n,qr)=>∀H',bY p H H'->mX t H' p a xs qr->Q (.int n) H')
theorem apd{f fe ft:Addr}{fd wH HG:dn}(F:eW K "take_up_to" "take_up_to" Qv f fd)(T:Txt K mg t)(ce:pP P w K mg base bJ 1 t.cR "ended" fe wH He (LG K t))(ct:pP P w K mg base bJ 1 t.cR "take" ft HG K3 (R0 K t)):c8 P w K mg base (qT (.ref t.cX) P w) 2 f fd Hh (LO K t):=by
 refine F.KZ ZK (fun vs H Q E h=>?_) (fun c6 A outer s H vs Q E hr h=>?_)
 .obtain ⟨p,a,xs,rest,most,rfl,_⟩:=h;rfl
 .obtain ⟨p,a,xs,rest,most,rfl,hs,⟨dx,i,hp,hi,hd⟩,k⟩:=h;have nd:=ZK.nd;refine ⟨_,bF (mQ (tF (B8 (pv 0) T.pN ce.mt ce.G hr ce.b .nil di)) (cy (P6 qU T.LA rfl T.Lz)) mP)
   (bF (dB (i:=2) nd rfl (Or.inl rfl) (B8 (pv 0) T.pN ct.mt ct.G hr ct.b .nil di))
   (bF (mQ (PW.pt (J9 (ng Km (pv 2) gg (mS _)) (O0 (ng Kn (pv 2) (pv 1) (mS _))))) (cy (P6 qU T.LA rfl T.Lz)) mP)
   (cy (eN (pv 2))))),?_⟩
  try dsimp only[fQ,fS,fT,fV]
  have hlk:∀{m:Str},(¬m="numbers")->(¬m="at")->(il a ((i:Nat):Int)).lookup m=none:=fun U h2=>Lk _ _ U h2;refine ⟨_,rfl,p,dx,_,rfl,hp,hlk (by decide +kernel) (by decide +kernel),p,a,(i:Int),xs.map V.int,rfl,⟨dx,hp⟩,hs,_,rfl,?_⟩;refine jq (fun z=>?_) (fun z=>?_)
  .have z':=of_decide_eq_true z;rw[bt]at z';have e:rest=[]:=by
    rw[<-hd];exact zT (by omega)
   subst e;exact k H (bY.refl p H)
  .have eU:i<xs.length:=by
    rw[decide_eq_true_iff,bt]at z;omega
   have e:rest=xs[i]::xs.drop (i+1):=by rw[<-hd,Jt eU]
   subst e;have sv:mf (xs.map V.int) ((i:Nat):Int)=some (V.int xs[i]):=at_of rfl (by rw[gp,iN eU];rfl);refine ⟨_,rfl,p,dx,_,rfl,hp,hlk (by decide +kernel) (by decide +kernel),p,a,dx,(i:Int),xs.map V.int,_,rfl,hp,hs,sv,?_⟩;have b1:bY p H (upd H p (.ins t.cR dx (il a ((i:Int)+1)))):=(bY.refl p H).upd;have bad:¬(0<=xs[i]/\xs[i]<=most)->E (.ref t.cX) none (upd H p (.ins t.cR dx (il a ((i:Int)+1)))):=fun y=>by
    have e:jT most (xs[i]::xs.drop (i+1))=none:=by
     rw[ER,if_neg y]
    rw[e]at k;exact k _ b1
   refine ⟨_,rfl,_,_,rfl,rfl,_,rfl,jq (fun y=>bad fun q=>absurd q.1 (by have:=of_decide_eq_true y;omega)) (fun y=>?_)⟩;rw[decide_eq_true_iff]at y;refine ⟨_,rfl,_,rfl,_,_,rfl,rfl,_,rfl,jq (fun y2=>bad fun q=>absurd q.2 (by have:=of_decide_eq_true y2;omega)) (fun y2=>?_)⟩;rw[decide_eq_true_iff]at y2;have e:jT most (xs[i]::xs.drop (i+1))=some (xs[i],xs.drop (i+1)):=by
    rw[ER,if_pos ⟨by omega,by omega⟩]
   rw[e]at k;refine ⟨_,rfl,k _ b1 ⟨dx,i+1,aJ,eU,rfl⟩⟩
theorem mX.acT{H:Hp}{p a q:Addr}{xs r:List Int}{o:HO}(h:mX t H p a xs r)(hq:H q=none):mX t (upd H q o) p a xs r:=h.same (aC.nw hq)
theorem k6.push{H:Hp}{p x dx:Addr}{fs:List ja}{cs:List Addr}{f:ja}(hp:H p=some (.lst (cs.map V.ref)))(pr:Paired (yU t H) cs fs)(nx:H x=none)(mm:H dx=none)(ne:dx≠x):
  k6 t (upd (upd (upd H dx (.own x)) x (.ins t.cF dx (Cp (f.label:Int) (EE f.weak) (f.to:Int)))) p (.lst (cs.map V.ref++[V.ref x]))) p (fs++[f]):=by
 have yV:p≠x:=dw hp nx;have Cy:p≠dx:=dw hp mm;refine ⟨cs++[x],by rw[aJ,iO];rfl,vM (gX pr ?_) ?_⟩
 .rintro c h' ⟨d',e⟩;refine ⟨d',?_⟩;rw[bC (iG e hp (by intro z;cases z)),bC (dw e nx),bC (dw e mm)];exact e
 .exact ⟨dx,by rw[bC (fun z=>yV z.symm),aJ]⟩
def acU(K:cB)(t:fZ):Sp:=fun vs H Q E=>∃p a xs rest count,vs=[.ref p,.int count]/\aD K H a (xs.map V.int)/\mX t H p a xs rest/\(match wG count rest with
 |none=>∀H',bY p H H'->E (.ref t.cX) none H'
 |some (fs,qr)=>∀H' b,bY p H H'->H b=none->mX t H' p a xs qr->k6 t H' b fs->Q (.ref b) H')
theorem ape{f fu fI:Addr}{fd HI CA:dn}(F:eW K "read_fields" "read_fields" Qr f fd)(T:Txt K mg t)(cu:eY P w K mg base (qT (.ref t.cX) P w) 2 "take_up_to" fu HI Hh (LO K t))(cF:xT P w K mg base bJ 1 t.cF fI CA Qg (acF t)):c8 P w K mg base (qT (.ref t.cX) P w) 3 f fd Qs (acU K t):=by
 refine F.KZ ZI (fun vs H Q E h=>?_) (fun c6 A outer s H vs Q E hr h=>?_)
 .obtain ⟨p,a,xs,rest,count,rfl,_⟩:=h;rfl
 .obtain ⟨p,a,xs,rest,count,rfl,hS,hR,k⟩:=h;have LP:=hR.ins;have sq:∀{H'},bY p H H'->aD K H' a (xs.map V.int):=fun {H'} b=>by
   obtain ⟨dx,i,e⟩:=LP;exact aD.but hS b e
  have nd:=ZI.nd;refine ⟨_,bF (dB (i:=2) nd rfl (Or.inl rfl) (dG aO))
   (bF (kW qU.own rfl (B0 rfl T.range (ax (eB cu.G hr rfl cu.m cu.kp cu.b .nil (wt qU) (ax (pv 0) (ax (gY T.aox) aO))) aO)) (gG (i:=3) nd rfl (Or.inl rfl))
    (bF (dB (i:=4) nd rfl (Or.inl rfl) (eB cu.G hr rfl cu.m cu.kp cu.b .nil (wt qU) (ax (pv 0) (ax (gY T.aoz) aO))))
    (bF (dB (i:=5) nd rfl (Or.inl rfl) (eB cu.G hr rfl cu.m cu.kp cu.b .nil (wt qU) (ax (pv 0) (ax gg aO))))
    (bF (dB (i:=6) nd rfl (Or.inl rfl) (eB cu.G hr rfl cu.m cu.kp cu.b .nil (wt qU) (ax (pv 0) (ax (o6 Pb (pv 1) gg) aO))))
    (cy (jv (j8 jX n6 n8 nM (pv 2)
     (ax (yG cF.M cF.G hr rfl T.mgF cF.b .nil di (ax (pv 4) (ax (pv 5) (ax (pv 6) aO)))) aO))))))))
   (cy (eN (pv 2)))),?_⟩
  try dsimp only[fQ,fS,fT,fV]
  refine ⟨dU _,fun b hb=>?_⟩;have fail:wG count rest=none->∀H',bY p H H'->E (.ref t.cX) none H':=fun e=>by
   rw[e]at k;exact k
  have b0:bY p H (upd H b (.lst [])):=(bY.refl p H).new hb;refine ⟨_,rfl,p,a,xs,rest,12,rfl,sq b0,hR.acT hb,?_⟩;cases e1:jT 12 rest with
  |none=>
   intro H' b1;refine fail ?_ H' (b0.trans b1);unfold wG;rw[e1]
  |some mr=>
   obtain ⟨m,r1⟩:=mr;intro H1 b1 ES;have hm:=vp e1;have eO:wG count rest=rep (nz count) m.toNat r1:=by
    unfold wG;rw[e1]
   have ET:p≠b:=by
    obtain ⟨dx,i,e⟩:=hR.ins;exact dw e hb
   have Sh:H1 b=some (.lst []):=b1 _ _ aJ (fun z=>ET z.symm);refine ⟨m,rfl,by omega,by omega,D0 (n:=m.toNat) (fun i σ H'=>∃v3 v4 v5 v6:Option V,σ=[some (.ref p),some (.int count),some (.ref b),v3,v4,v5,v6]/\bY p H H'/\∃fs ri,rep (nz count) i r1=some (fs,ri)/\mX t H' p a xs ri/\k6 t H' b fs)
    ⟨none,none,none,none,rfl,b0.trans b1,[],r1,rfl,ES,[],Sh,.nil⟩ ?_ ?_⟩
   .rintro i σ H' hi ⟨v3,v4,v5,v6,rfl,b2,fs,ri,er,tP,hO⟩;have stop:nz count ri=none->∀iJ,bY p H' iJ->E (.ref t.cX) none iJ:=fun z iJ b3=>by
     refine fail ?_ iJ (b2.trans b3);rw[eO];refine LN (i:=i+1) ?_ _ (by omega);rw[EO er,z]
    refine ⟨_,rfl,p,a,xs,ri,199,rfl,sq b2,tP,?_⟩;cases e2:jT 199 ri with
    |none=>
     intro H2 b3;refine stop ?_ H2 b3;unfold nz;rw[e2]
    |some lr=>
     obtain ⟨l,r2⟩:=lr;intro H2 b3 vq;refine ⟨_,rfl,p,a,xs,r2,1,rfl,sq (b2.trans b3),vq,?_⟩;cases e3:jT 1 r2 with
     |none=>
      intro H3 b4;refine stop ?_ H3 (b3.trans b4);unfold nz;rw[e2];simp only[e3]
     |some wr=>
      obtain ⟨wk,r3⟩:=wr;intro H3 b4 LQ;refine ⟨_,rfl,_,rfl,_,_,rfl,rfl,p,a,xs,r3,count-1,rfl,sq (b2.trans (b3.trans b4)),LQ,?_⟩;cases e4:jT (count-1) r3 with
      |none=>
       intro H4 b5;refine stop ?_ H4 ((b3.trans b4).trans b5);unfold nz;rw[e2];simp only[e3,e4]
      |some tr=>
       obtain ⟨to,r4⟩:=tr;intro H4 b5 CD;have eF:nz count ri=some ({label:=l.toNat,weak:=wk==1,to:=to.toNat},r4):=by
        unfold nz;rw[e2];simp only[e3,e4]
       have h2:=vp e2;have h3:=vp e3;have h4:=vp e4;have b24:bY p H' H4:=(b3.trans b4).trans b5;obtain ⟨dxr,ir,hpr⟩:=tP.ins;have hO4:k6 t H4 b fs:=hO.but b24 hpr (by simp[il]);obtain ⟨cs,jL,LR⟩:=hO4;refine ⟨_,rfl,.inl ⟨rfl,_,aD.of jL⟩,?_⟩;refine ⟨_,rfl,_,rfl,_,rfl,?_⟩;intro x dx nx mm ne;refine ⟨x,dx,l,wk,to,rfl,aJ,rfl,?_⟩;rw[oz];have yV:b≠x:=dw jL nx;have Cy:b≠dx:=dw jL mm;refine ⟨b,cs.map V.ref,V.ref x,rfl,rfl,by rw[bC yV,bC Cy];exact jL,?_,?_⟩
       .have e5:=LR.length;have e6:=CB er;rw[bt,eE];omega
       .have Sj:bY p H H4:=b2.trans b24;have nxH:H x=none:=by
         cases q:H x with
         |none=>rfl
         |some o=>
          by_cases z:x=p
          .obtain ⟨_,_,A1,_⟩:=CD;rw[z,A1]at nx;cases nx
          .rw[Sj x o q z]at nx;cases nx
        have ndH:H dx=none:=by
         cases q:H dx with
         |none=>rfl
         |some o=>
          by_cases z:dx=p
          .obtain ⟨_,_,A1,_⟩:=CD;rw[z,A1]at mm;cases mm
          .rw[Sj dx o q z]at mm;cases mm
        refine ⟨_,_,_,_,rfl,((Sj.new ndH).new nxH).new hb,_,r4,by rw[EO er,eF],?_,?_⟩
        .obtain ⟨apj,i5,A1,hi5,hd5⟩:=CD;have s1:aC H4 (upd (upd H4 dx (.own x)) x (.ins t.cF dx (Cp l wk to))):=(aC.nw mm).own nx;refine ⟨apj,i5,?_,hi5,hd5⟩;rw[bC ET];exact s1 _ _ A1
        .have:=k6.push (f:={label:=l.toNat,weak:=wk==1,to:=to.toNat}) jL LR nx mm ne;have e7:((l.toNat:Nat):Int)=l:=by omega
         have e8:EE (wk==1)=wk:=by
          rcases (show wk=0∨wk=1 by omega) with z|z
          .subst z;rfl
          .subst z;rfl
         have e9:((to.toNat:Nat):Int)=to:=by omega
         simp only[e7,e8,e9]at this;exact this
   .rintro σ H2 ⟨v3,v4,v5,v6,rfl,b2,fs,ri,er,tP,hO⟩;rw[eO,er]at k;exact ⟨_,rfl,k H2 b b2 hb tP hO⟩
theorem xX{p q:Addr}{H H':Hp}(b:bY p H H')(hp:∃o,H' p=some o)(h:H' q=none):H q=none:=by
 cases e:H q with
 |none=>rfl
 |some o=>
  by_cases z:q=p
  .obtain ⟨o',h'⟩:=hp;rw[z,h']at h;cases h
  .rw[b q o e z]at h;cases h
def acX(K:cB)(t:fZ):Sp:=fun vs H Q E=>∃p a xs rest count,vs=[.ref p,.int count]/\aD K H a (xs.map V.int)/\mX t H p a xs rest/\(match uH count rest with
 |none=>∀H',bY p H H'->E (.ref t.cX) none H'
 |some (rs,qr)=>∀H' b,bY p H H'->H b=none->mX t H' p a xs qr->H' b=some (.lst (rs.map V.int))->Q (.ref b) H')
theorem apm{f fu:Addr}{fd HI:dn}(F:eW K "read_roots" "read_roots" Qt f fd)(T:Txt K mg t)(cu:eY P w K mg base (qT (.ref t.cX) P w) 2 "take_up_to" fu HI Hh (LO K t)):
  c8 P w K mg base (qT (.ref t.cX) P w) 3 f fd Qu (acX K t):=by
 refine F.KZ ZJ (fun vs H Q E h=>?_) (fun c6 A outer s H vs Q E hr h=>?_)
 .obtain ⟨p,a,xs,rest,count,rfl,_⟩:=h;rfl
 .obtain ⟨p,a,xs,rest,count,rfl,hS,hR,k⟩:=h;have LP:=hR.ins;have sq:∀{H'},bY p H H'->aD K H' a (xs.map V.int):=fun {H'} b=>by
   obtain ⟨dx,i,e⟩:=LP;exact aD.but hS b e
  have nd:=ZJ.nd;refine ⟨_,bF (dB (i:=2) nd rfl (Or.inl rfl) (dG aO))
   (bF (kW qU.own rfl (B0 rfl T.range (ax (eB cu.G hr rfl cu.m cu.kp cu.b .nil (wt qU) (ax (pv 0) (ax (gY T.aoA) aO))) aO)) (gG (i:=3) nd rfl (Or.inl rfl))
    (cy (jv (j8 jX n6 n8 nM (pv 2)
     (ax (eB cu.G hr rfl cu.m cu.kp cu.b .nil (wt qU) (ax (pv 0) (ax (o6 Pb (pv 1) gg) aO))) aO)))))
   (cy (eN (pv 2)))),?_⟩
  try dsimp only[fQ,fS,fT,fV]
  refine ⟨dU _,fun b hb=>?_⟩;have fail:uH count rest=none->∀H',bY p H H'->E (.ref t.cX) none H':=fun e=>by
   rw[e]at k;exact k
  have b0:bY p H (upd H b (.lst [])):=(bY.refl p H).new hb;refine ⟨_,rfl,p,a,xs,rest,16,rfl,sq b0,hR.acT hb,?_⟩;cases e1:jT 16 rest with
  |none=>
   intro H' b1;refine fail ?_ H' (b0.trans b1);unfold uH;rw[e1]
  |some mr=>
   obtain ⟨m,r1⟩:=mr;intro H1 b1 ES;have hm:=vp e1;have eO:uH count rest=rep (jT (count-1)) m.toNat r1:=by
    unfold uH;rw[e1]
   have ET:p≠b:=by
    obtain ⟨dx,i,e⟩:=LP;exact dw e hb
   have Sh:H1 b=some (.lst []):=b1 _ _ aJ (fun z=>ET z.symm);refine ⟨m,rfl,by omega,by omega,D0 (n:=m.toNat) (fun i σ H'=>∃v3:Option V,σ=[some (.ref p),some (.int count),some (.ref b),v3]/\bY p H H'/\∃rs ri,rep (jT (count-1)) i r1=some (rs,ri)/\mX t H' p a xs ri/\H' b=some (.lst (rs.map V.int)))
    ⟨none,rfl,b0.trans b1,[],r1,rfl,ES,Sh⟩ ?_ ?_⟩
   .rintro i σ H' hi ⟨v3,rfl,b2,rs,ri,er,tP,hO⟩;refine ⟨_,rfl,.inl ⟨rfl,_,aD.of hO⟩,_,rfl,_,rfl,_,_,rfl,rfl,p,a,xs,ri,count-1,rfl,sq b2,tP,?_⟩;cases e2:jT (count-1) ri with
    |none=>
     intro H2 b3;refine fail ?_ H2 (b2.trans b3);rw[eO];refine LN (i:=i+1) ?_ _ (by omega);rw[EO er,e2]
    |some lr=>
     obtain ⟨l,r2⟩:=lr;intro H2 b3 vq;have hO2:H2 b=some (.lst (rs.map V.int)):=b3 _ _ hO (fun z=>ET z.symm);refine ⟨b,rs.map V.int,V.int l,rfl,rfl,hO2,?_,?_⟩
     .have e6:=CB er;rw[bt,eE];omega
     .refine ⟨_,rfl,(b2.trans b3).new hb,_,r2,by rw[EO er,e2],?_,?_⟩
      .obtain ⟨d,j,U,h2,h3⟩:=vq;exact ⟨d,j,by rw[bC ET];exact U,h2,h3⟩
      .rw[aJ,iO];rfl
   .rintro σ H2 ⟨v3,rfl,b2,rs,ri,er,tP,hO⟩;rw[eO,er]at k;exact ⟨_,rfl,k H2 b b2 hb tP hO⟩
theorem k6.acY{H H':Hp}{p a:Addr}{xs:List V}{hs:List ja}(h:k6 t H a hs)(b:bY p H H')(hp:H p=some (.lst xs))(ne:a≠p):k6 t H' a hs:=by
 obtain ⟨cs,e,pr⟩:=h;refine ⟨cs,b _ _ e ne,gX pr ?_⟩;rintro c h ⟨d,q⟩;exact ⟨d,b _ _ q (iG q hp (by intro z;cases z))⟩
theorem Sk(rs:List Nat)(gz:List (List ja)):(mI rs gz).length<=rs.length+(gz.map List.length).sum:=by
 rw[EG,gR,bt,yt];have gen:∀(l:List (List ja))(n:Nat),((l.zipIdx n).flatMap fun x=>x.1.zipIdx.filterMap (oK x.2)).length<=(l.map List.length).sum:=by
  intro l
  induction l with
  |nil=>intro n;simp
  |cons a r ih=>
   intro n;rw[Jr,JD,gR,jx,yp];have U:=ih (n+1);have h2:(a.zipIdx.filterMap (oK n)).length<=a.length:=by
    have:=ahs (oK n) a.zipIdx
    simpa using this
   show (a.zipIdx.filterMap (oK n)).length+_<=_;omega
 have:=gen gz 0;omega
def acZ(K:cB)(t:fZ):Sp:=fun vs H Q E=>∃a xs,vs=[.ref a]/\aD K H a (xs.map V.int)/\(match sE xs with
 |none=>∀H',aC H H'->E (.ref t.cX) none H'
 |some g=>∀H' p,aC H H'->H p=none->i7 t H' p g->Q (.ref p) H')
theorem FieldsAt.Sl{H:Hp}{bs:List Addr}{gz:List (List ja)}{k z l:Addr}{xs:List V}{H':Hp}{q:Addr}(pr:Paired (fun b fs=>k6 t H b fs/\b≠k/\b≠z/\b≠l) bs gz)(b:bY q H H')(hq:H q=some (.lst xs))(hk:q=k∨q=z∨q=l):
  Paired (fun b fs=>k6 t H' b fs/\b≠k/\b≠z/\b≠l) bs gz:=
 gX pr fun c fs ⟨h,n1,n2,n3⟩=>⟨h.acY b hq (by rcases hk with e|e|e<;>subst e<;>assumption),n1,n2,n3⟩
theorem LS{α:Type}{one:uG α}{Pr:α->Prop}(U:∀r a r',one r=some (a,r')->Pr a):∀{n:Nat}{r r':List Int}{l:List α},rep one n r=some (l,r')->∀a∈l,Pr a
 |0,_,_,_,h=>by cases h;intro a ha;cases ha
 |n+1,_,_,_,h=>by
  unfold rep at h
  split at h
  .cases h
  .rename_i l1 r1 e1
   split at h
   .cases h
   .rename_i a r2 e2;cases h;intro b hb;rcases kN.mp hb with z|z
    .exact LS U e1 b z
    .simp at z;subst z;exact U _ _ _ e2
theorem apo{n:Int}{r r':List Int}{f:ja}(h:nz n r=some (f,r')):(f.to:Int)<n:=by
 unfold nz at h
 split at h
 .cases h
 .split at h
  .cases h
  .split at h
   .cases h
   .rename_i a r3 e;have:=vp e;cases h;show ((a.toNat:Nat):Int)<n;omega
theorem apq{n:Int}{r r':List Int}{o:lj}(h:nR n r=some (o,r')):∀f∈o.fields,(f.to:Int)<n:=by
 unfold nR at h
 split at h
 .cases h
 .split at h
  .cases h
  .split at h
   .cases h
   .rename_i fs r3 e;cases h;unfold wG at e
    split at e
    .cases e
    .exact LS (fun _ _ _ q=>apo q) e
theorem apr{n:Int}{r r':List Int}{l:List Int}(h:uH n r=some (l,r')):∀x∈l,0<=x/\x<n:=by
 unfold uH at h
 split at h
 .cases h
 .exact LS (Pr:=fun x=>0<=x/\x<n) (fun _ _ _ q=>by have:=vp q;omega) h
theorem aps{rs:List Nat}{gz:List (List ja)}{n:Nat}(U:∀x∈rs,x<n)(h2:∀fs∈gz,∀f∈fs,f.to<n):∀h∈mI rs gz,h.to<n:=by
 intro h hh;rw[EG]at hh;rcases kN.mp hh with z|z
 .obtain ⟨r,hr,rfl⟩:=js.mp z;have hi:=(pz.mp hr);exact U _ (iy hi)
 .obtain ⟨x,hx,z⟩:=NO.mp z;obtain ⟨f,hf,z⟩:=Ds.mp z;have hi:=iy (pz.mp hx);have hj:=iy (pz.mp hf);unfold oK at z
  split at z
  .cases z
  .cases z;exact h2 _ hi _ hj
theorem apt{f fR fu ff fr fe fG:Addr}{fd So HI Sq oN wH Sr:dn}(F:eW K "read_graph" "read_graph" K6 f fd)(T:Txt K mg t)(cR:xT P w K mg base bJ 1 t.cR fR So K2 (RZ t))(cu:eY P w K mg base (qT (.ref t.cX) P w) 2 "take_up_to" fu HI Hh (LO K t))(cf:eY P w K mg base (qT (.ref t.cX) P w) 3 "read_fields" ff Sq Qs (acU K t))(cr:eY P w K mg base (qT (.ref t.cX) P w) 3 "read_roots" fr oN Qu (acX K t))(ce:pP P w K mg base bJ 1 t.cR "ended" fe wH He (LG K t))(cG:xT P w K mg base bJ 4 t.cG fG Sr Hg (HD t)):
  c8 P w K mg base (qT (.ref t.cX) P w) 6 f fd Qq (acZ K t):=by
 refine F.KZ ZH (fun vs H Q E h=>?_) (fun c6 A outer s H vs Q E hr h=>?_)
 .obtain ⟨a,xs,rfl,_⟩:=h;rfl
 .obtain ⟨a,xs,rfl,hS,k⟩:=h;have nd:=ZH.nd;have ig:dQ 1 _:=hr.mono (by decide);have mY:dQ 2 _:=hr.mono (by decide);have tQ:dQ 3 _:=hr.mono (by decide);refine ⟨_,bF (dB (i:=1) nd rfl (Or.inl rfl) (yG cR.M cR.G mY rfl T.mgR cR.b .nil di (ax (pv 0) aO)))
   (bF (dB (i:=2) nd rfl (Or.inl rfl) (eB cu.G mY rfl cu.m cu.kp cu.b .nil (wt qU) (ax (pv 1) (ax (gY T.aou) aO))))
   (bF (dB (i:=3) nd rfl (Or.inl rfl) (dG aO)) (bF (dB (i:=4) nd rfl (Or.inl rfl) (dG aO)) (bF (dB (i:=5) nd rfl (Or.inl rfl) (dG aO))
   (bF (kW qU.own rfl (B0 rfl T.range (ax (pv 2) aO)) (gG (i:=6) nd rfl (Or.inl rfl))
    (bF (jv (j8 jX n6 n8 nM (pv 3) (ax (eB cu.G mY rfl cu.m cu.kp cu.b .nil (wt qU) (ax (pv 1) (ax (gY T.aov) aO))) aO)))
    (bF (jv (j8 jX n6 n8 nM (pv 4) (ax (eB cu.G mY rfl cu.m cu.kp cu.b .nil (wt qU) (ax (pv 1) (ax (gY T.aow) aO))) aO)))
    (cy (jv (j8 jX n6 n8 nM (pv 5) (ax (eB cf.G tQ rfl cf.m cf.kp cf.b .nil (wt qU) (ax (pv 1) (ax (pv 2) aO))) aO)))))))
   (bF (dB (i:=7) nd rfl (Or.inl rfl) (eB cr.G tQ rfl cr.m cr.kp cr.b .nil (wt qU) (ax (pv 1) (ax (pv 2) aO))))
   (bF (mQ (PW.pt (J9 (DW (tF (B8 (pv 1) T.pN ce.mt ce.G ig ce.b .nil di))) (O0 (ng Kn
     (jR (YN rfl) rfl T.sum boot_sum (ax (wm (own:=[("own",8)]) rfl nd (l0 (pv 5)) (sj (by show qQ ZG (da K6) _ _=true;decide +kernel))
      (fun s H C cl fp=>gG (i:=8) nd rfl (Or.inl rfl) (Or.inr rfl)) (fun s H C cl fp=>AB) (fun s H C cl fp=>jR (aa6 (K:=K)) (by rfl) T.len lW (ax (pv 8) aO))) aO))
     (gY T.aoy) (mS _))))) (cy (P6 qU T.LA rfl T.Lz)) mP)
   (cy (eN (yG cG.M cG.G hr rfl T.RW cG.b .nil di (ax (pv 3) (ax (pv 4) (ax (pv 5) (ax (pv 7) aO)))))))))))))),?_⟩
  try dsimp only[fQ,fS,fT,fV]
  have fail:sE xs=none->∀H',aC H H'->E (.ref t.cX) none H':=fun e=>by
   rw[e]at k;exact k
  refine ⟨_,rfl,?_⟩;intro p dx np mm ne;refine ⟨p,dx,a,rfl,aJ,rfl,?_⟩;rw[oz];have s0:aC H (upd (upd H dx (.own p)) p (.ins t.cR dx (il a 0))):=(aC.nw mm).own np;have hR0:mX t (upd (upd H dx (.own p)) p (.ins t.cR dx (il a 0))) p a xs xs:=⟨dx,0,aJ,dU _,rfl⟩;refine ⟨_,rfl,p,a,xs,xs,48,rfl,s0.seq hS,hR0,?_⟩;cases e1:jT 48 xs with
  |none=>
   intro H' b1;refine fail ?_ H' (b1.same s0 np);unfold sE;rw[e1]
  |some nr=>
   obtain ⟨n,r1⟩:=nr;intro H1 b1 ES;have s1:aC H H1:=b1.same s0 np;have hn:=vp e1;refine ⟨dU _,fun ak hk=>⟨dU _,fun az hz=>⟨dU _,fun al hl=>?_⟩⟩⟩;have Ss:ak≠az:=dw aJ hz;have Su:az≠al:=dw aJ hl;have Sv:ak≠al:=dw ((aC.nw hz) _ _ aJ) hl;have s2:aC H1 (upd (upd (upd H1 ak (.lst [])) az (.lst [])) al (.lst [])):=((aC.nw hk).trans (aC.nw hz)).trans (aC.nw hl);have fk:H ak=none:=s1.free hk;have fz:H az=none:=(s1.trans (aC.nw hk)).free hz;have fl:H al=none:=(s1.trans ((aC.nw hk).trans (aC.nw hz))).free hl;obtain ⟨dp,ip,tR⟩:=ES.ins;have Sx:p≠ak:=dw tR hk;have Sy:p≠az:=dw ((aC.nw hk) _ _ tR) hz;have Sz:p≠al:=dw (((aC.nw hk).trans (aC.nw hz)) _ _ tR) hl;have eG:sE xs=Sf n (rep (nR n) n.toNat r1):=by
    unfold sE;rw[e1]
   refine ⟨_,rfl,n,rfl,by omega,by omega,D0 (n:=n.toNat) (fun i σ H'=>∃v6:Option V,σ=[some (.ref a),some (.ref p),some (.int n),some (.ref ak),some (.ref az),some (.ref al),v6,none,none]/\aC H H'/\
     ∃os ri bs,rep (nR n) i r1=some (os,ri)/\mX t H' p a xs ri/\H' ak=some (.lst (nats (os.map (·.kind))))/\H' az=some (.lst (nats (os.map (·.size))))/\H' al=some (.lst (bs.map V.ref))/\
      Paired (fun b fs=>k6 t H' b fs/\b≠ak/\b≠az/\b≠al) bs (os.map (·.fields)))
    ⟨none,rfl,s1.trans s2,[],r1,[],rfl,ES.same s2,?_,?_,aJ,.nil⟩ ?_ ?_⟩
   .rw[bC Sv,bC Ss];exact aJ
   .rw[bC Su];exact aJ
   .rintro i σ H' hi ⟨v6,rfl,s3,os,ri,bs,er,tP,zd,HK,iH,pb⟩;have lo:=CB er;have stop:nR n ri=none->∀iJ,aC H iJ->E (.ref t.cX) none iJ:=fun z iJ s4=>by
     refine fail ?_ iJ s4;rw[eG,LN (i:=i+1) (by rw[EO er,z]) _ (by omega)];rfl
    have oH:=tP.ins;obtain ⟨dr,ir,oH⟩:=oH;refine ⟨_,rfl,.inl ⟨rfl,_,aD.of zd⟩,_,rfl,p,a,xs,ri,99,rfl,s3.seq hS,tP,?_⟩;cases e2:jT 99 ri with
    |none=>
     intro H2 b3;refine stop ?_ H2 (b3.same s3 np);unfold nR;rw[e2]
    |some kr=>
     obtain ⟨kd,r2⟩:=kr;intro H2 b3 vq;have s4:aC H H2:=b3.same s3 np;have ze:=b3 _ _ zd (oM zd oH);have SA:=b3 _ _ HK (oM HK oH);have mn:=b3 _ _ iH (oM iH oH);have LV:Paired (fun b fs=>k6 t H2 b fs/\b≠ak/\b≠az/\b≠al) bs (os.map (·.fields)):=gX pb fun c fs h=>⟨h.1.but b3 oH (by simp[il]),h.2⟩;refine ⟨ak,_,V.int kd,rfl,rfl,ze,?_,?_⟩
     .unfold nats;rw[bt,bt,eE];omega
     have bk:bY ak H2 (upd H2 ak (.lst (nats (os.map (·.kind))++[V.int kd]))):=(bY.refl ak H2).upd;have s5:aC H (upd H2 ak (.lst (nats (os.map (·.kind))++[V.int kd]))):=s4.own fk;have hz4:=bk _ _ SA (fun q=>Ss q.symm);have xY:=bk _ _ mn (fun q=>Sv q.symm);have pb4:=FieldsAt.Sl LV bk ze (.inl rfl);have LQ:mX t (upd H2 ak (.lst (nats (os.map (·.kind))++[V.int kd]))) p a xs r2:=by
      obtain ⟨d,j,U,h2⟩:=vq;exact ⟨d,j,bk _ _ U Sx,h2⟩
     refine ⟨_,rfl,.inl ⟨rfl,_,aD.of hz4⟩,_,rfl,p,a,xs,r2,1000000,rfl,s5.seq hS,LQ,?_⟩;cases e3:jT 1000000 r2 with
     |none=>
      intro H3 b4;refine stop ?_ H3 (b4.same s5 np);unfold nR;rw[e2];simp only[e3]
     |some zr=>
      obtain ⟨sz,r3⟩:=zr;intro H3 b4 CD;have s6:aC H H3:=b4.same s5 np;obtain ⟨d4,j4,CG,_⟩:=LQ;have hk5:=b4 _ _ (aJ (H:=H2) (a:=ak) (o:=.lst (nats (os.map (·.kind))++[V.int kd]))) (fun q=>Sx q.symm);have hz5:=b4 _ _ hz4 (fun q=>Sy q.symm);have CI:=b4 _ _ xY (fun q=>Sz q.symm);have pb5:Paired (fun b fs=>k6 t H3 b fs/\b≠ak/\b≠az/\b≠al) bs (os.map (·.fields)):=gX pb4 fun c fs h=>⟨h.1.but b4 CG (by simp[il]),h.2⟩;refine ⟨az,_,V.int sz,rfl,rfl,hz5,?_,?_⟩
      .unfold nats;rw[bt,bt,eE];omega
      have bz:bY az H3 (upd H3 az (.lst (nats (os.map (·.size))++[V.int sz]))):=(bY.refl az H3).upd;have s7:aC H (upd H3 az (.lst (nats (os.map (·.size))++[V.int sz]))):=s6.own fz;have hk6:=bz _ _ hk5 Ss;have SD:=bz _ _ CI (fun q=>Su q.symm);have pb6:=FieldsAt.Sl pb5 bz hz5 (.inr (.inl rfl));have hR6:mX t (upd H3 az (.lst (nats (os.map (·.size))++[V.int sz]))) p a xs r3:=by
       obtain ⟨d,j,U,h2⟩:=CD;exact ⟨d,j,bz _ _ U Sy,h2⟩
      refine ⟨_,rfl,.inl ⟨rfl,_,aD.of SD⟩,_,rfl,_,rfl,p,a,xs,r3,n,rfl,s7.seq hS,hR6,?_⟩;cases e4:wG n r3 with
      |none=>
       intro H4 b5;refine stop ?_ H4 (b5.same s7 np);unfold nR;rw[e2];simp only[e3,e4]
      |some fr=>
       obtain ⟨fs,r4⟩:=fr;intro H4 b b5 hb hR7 hO;have s8:aC H H4:=b5.same s7 np;obtain ⟨d6,j6,EM,_⟩:=hR6;have hz6:(upd H3 az (.lst (nats (os.map (·.size))++[V.int sz]))) az=some (.lst (nats (os.map (·.size))++[V.int sz])):=aJ;have hk7:=b5 _ _ hk6 (fun q=>Sx q.symm);have hz7:=b5 _ _ hz6 (fun q=>Sy q.symm);have EV:=b5 _ _ SD (fun q=>Sz q.symm);have pb7:Paired (fun b fs=>k6 t H4 b fs/\b≠ak/\b≠az/\b≠al) bs (os.map (·.fields)):=gX pb6 fun c fs h=>⟨h.1.but b5 EM (by simp[il]),h.2⟩;have SE:b≠ak:=fun z=>by rw[z,hk6]at hb;cases hb
       have nbz:b≠az:=fun z=>by rw[z,hz6]at hb;cases hb
       have CJ:b≠al:=fun z=>by rw[z,SD]at hb;cases hb
       have lb:=pb.length;rw[bt]at lb;refine ⟨al,_,V.ref b,rfl,rfl,EV,?_,?_⟩
       .rw[bt,eE];omega
       have bl:bY al H4 (upd H4 al (.lst (bs.map V.ref++[V.ref b]))):=(bY.refl al H4).upd;have h2':=vp e2;have h3':=vp e3;have eF:nR n ri=some ({kind:=kd.toNat,size:=sz.toNat,fields:=fs},r4):=by
        unfold nR;rw[e2];simp only[e3,e4]
       refine ⟨_,rfl,s8.own fl,os++[{kind:=kd.toNat,size:=sz.toNat,fields:=fs}],r4,bs++[b],by rw[EO er,eF],?_,?_,?_,?_,?_⟩
       .obtain ⟨d,j,U,h2⟩:=hR7;exact ⟨d,j,bl _ _ U Sz,h2⟩
       .have:=bl _ _ hk7 Sv;rw[this];have e7:((kd.toNat:Nat):Int)=kd:=by omega
        simp[nats,e7]
       .have:=bl _ _ hz7 Su;rw[this];have e7:((sz.toNat:Nat):Int)=sz:=by omega
        simp[nats,e7]
       .rw[aJ,iO];rfl
       .rw[iO];exact vM (FieldsAt.Sl pb7 bl EV (.inr (.inr rfl))) ⟨hO.acY bl EV CJ,SE,nbz,CJ⟩
   .rintro σ H2 ⟨v6,rfl,s3,os,ri,bs,er,tP,zd,HK,iH,pb⟩;have CK:sE xs=pEnd n os ri:=by rw[eG,er];rfl
    have lo:=CB er;obtain ⟨dr,ir,oH⟩:=tP.ins;refine ⟨_,rfl,_,rfl,p,a,xs,ri,n,rfl,s3.seq hS,tP,?_⟩;cases e2:uH n ri with
    |none=>
     intro H3 b3;refine fail ?_ H3 (b3.same s3 np);rw[CK];unfold pEnd;rw[e2]
    |some rr=>
     obtain ⟨rs,r3⟩:=rr;intro H3 ar b3 har vq hO;have CK:sE xs=if r3=[]/\(os.map fun x=>x.fields.length).sum<=160 then some {objs:=os,roots:=rs.map Int.toNat} else none:=by
      rw[CK];unfold pEnd;rw[e2]
     have s4:aC H H3:=b3.same s3 np;have ze:=b3 _ _ zd (oM zd oH);have SA:=b3 _ _ HK (oM HK oH);have mn:=b3 _ _ iH (oM iH oH);have LV:Paired (fun b fs=>k6 t H3 b fs) bs (os.map (·.fields)):=gX pb fun c fs h=>h.1.but b3 oH (by simp[il]);have hrs:∀x∈rs,0<=x:=by
      unfold uH at e2
      split at e2
      .cases e2
      .rename_i m r1' _;have gen:∀(j:Nat)(l:List Int)(q q':List Int),rep (jT (n-1)) j q=some (l,q')->∀x∈l,0<=x:=by
        intro j
        induction j with
        |zero=>
         intro l q q' h x hx;cases h;cases hx
        |succ j ih=>
         intro l q q' h x hx;unfold rep at h
         split at h
         .cases h
         .rename_i l1 q1 U
          split at h
          .cases h
          .rename_i y q2 h2;cases h;rcases kN.mp hx with z|z
           .exact ih l1 q q1 U x z
           .simp at z;subst z;exact (vp h2).1
       exact gen _ _ _ _ e2
     have hrl:rs.length<=16:=by
      unfold uH at e2
      split at e2
      .cases e2
      .rename_i m r1' U;have:=CB e2;have:=vp U;omega
     obtain ⟨dr3,SF,qp,HL,mj⟩:=vq;refine ⟨_,rfl,p,dr3,_,rfl,qp,Lk _ _ (by decide +kernel) (by decide +kernel),p,a,(SF:Int),xs.map V.int,rfl,⟨dr3,qp⟩,s4.seq hS,_,rfl,?_⟩;refine jq (fun y=>?_) (fun y=>?_)
     .show E (.ref t.cX) none H3;refine fail ?_ H3 s4;rw[CK,if_neg];rintro ⟨q,_⟩;rw[rh,decide_eq_false_iff_not,bt]at y;rw[q]at mj;have:=congrArg List.length mj;simp at this;omega
     .have r3e:r3=[]:=by
       have y':decide ((((xs.map V.int).length:Nat):Int)<=(SF:Int))=true:=by
        cases q:decide ((((xs.map V.int).length:Nat):Int)<=(SF:Int)) with
        |true=>rfl
        |false=>rw[q]at y;exact absurd rfl y
       have y2:=of_decide_eq_true y';rw[bt]at y2;rw[<-mj];exact zT (by omega)
      refine ⟨_,rfl,al,rfl,⟨_,aD.of mn⟩,fun D hD=>?_⟩;refine wo (K:=K) (a:=al) (xs:=bs.map V.ref) (fun j H'=>aC H3 H'/\H' D=some (.lst ((((os.map (·.fields)).take j).map fun l=>((l.length:Nat):Int)).map V.int))) ⟨aC.nw hD,aJ⟩ (fun j H' _ ⟨s5,_⟩=>aD.of (s5 _ _ mn)) ?_ ?_
      .rintro j x H' hx ⟨s5,iw⟩;obtain ⟨b,hbj,rfl⟩:=pd hx;obtain ⟨fs,HM,cs,jL,LR⟩:=lM LV hbj;refine ⟨rfl,_,rfl,b,cs.map V.ref,rfl,.inl (aD.of (s5 _ _ jL)),_,iw,?_,s5.own hD,?_⟩
       .have lb:=pb.length;have hj:=(gq.mp HM).1;rw[bt]at hj;rw[bt,bt,mB,eE];omega
       .rw[aJ,take_snoc HM];simp[LR.length]
      .rintro H4 ⟨s5,iw⟩;have s6:aC H H4:=s4.trans s5;have e5:(os.map (·.fields)).take (bs.map V.ref).length=os.map (·.fields):=by
        have lb:=pb.length;rw[bt,lb,jY]
       rw[e5]at iw;refine ⟨D,_,rfl,aD.of iw,?_⟩;have ac9:∀(l:List lj),((l.map (·.fields)).map fun l=>((l.length:Nat):Int)).sum=(((l.map fun x=>x.fields.length).sum:Nat):Int):=by
        intro l
        induction l with
        |nil=>rfl
        |cons x r ih=>
         simp only[jx,yp]at ih ⊢;rw[ih];omega
       refine ⟨_,_,rfl,rfl,_,rfl,?_⟩;refine jq (fun y3=>?_) (fun y3=>?_)
       .show E (.ref t.cX) none H4;refine fail ?_ H4 s6;rw[CK,if_neg];rintro ⟨_,q⟩;have y4:=of_decide_eq_true y3;rw[ac9]at y4;omega
       .have apK:(os.map fun x=>x.fields.length).sum<=160:=by
         rw[decide_eq_true_iff,ac9]at y3;omega
        rw[if_pos ⟨r3e,apK⟩]at CK;rw[CK]at k;refine ⟨_,rfl,_,rfl,_,rfl,_,rfl,?_⟩;have ers:rs.map V.int=nats (rs.map Int.toNat):=by
         unfold nats;rw[n9];apply yo;intro x hx;have:=hrs x hx;show V.int x=V.int ((x.toNat:Nat):Int);congr 1;omega
        have hlen:(bh {objs:=os,roots:=rs.map Int.toNat}).length<=1000:=by
         rw[AX];have:=Sk (rs.map Int.toNat) (os.map (·.fields));rw[bt,n9]at this;have e9:(os.map (List.length ∘ fun x=>x.fields)).sum=(os.map fun x=>x.fields.length).sum:=rfl;rw[e9]at this;show (mI (rs.map Int.toNat) (os.map (·.fields))).length<=1000;omega
        refine Se ⟨ak,az,al,ar,{objs:=os,roots:=rs.map Int.toNat},rfl,s5 _ _ ze,s5 _ _ SA,⟨bs,s5 _ _ mn,gX LV fun _ _ q=>q.same s5⟩,by rw[<-ers];exact s5 _ _ hO,hlen,?_,?_,?_⟩
        .show os.length<=999;omega
        .rw[AX];show ∀h∈mI (rs.map Int.toNat) (os.map (·.fields)),h.to<os.length;have lo:=CB er;refine aps (fun x hx=>?_) (fun fs LX f hf=>?_)
         .obtain ⟨y,hy,rfl⟩:=js.mp hx;have:=apr e2 y hy;omega
         .obtain ⟨o,ho,rfl⟩:=js.mp LX;have:=LS (fun _ _ _ q=>apq q) er o ho f hf;omega
        .intro H5 g s7 hg SG;exact k H5 g (s6.trans s7) (s6.free hg) SG
theorem apM(xs:List V)(k:Nat):nj xs none (some (k:Int))=xs.take k:=by
 unfold nj;rw[HT.Yt,HT.Kt];simp only[List.drop_zero,Nat.sub_zero];rw[aht];omega
theorem apO(xs:List V)(k:Nat):nj xs (some (k:Int)) none=xs.drop k:=by
 unfold nj;rw[HT.Yt,HT.Kt];rw[VX (by rw[Jz];omega)];rcases ahu k xs.length with h|h
 .rw[V3 h]
 .rw[ahv h,zT h,zT (dR _)]
theorem apP(xs:List V)(i c:Nat):nj xs (some (i:Int)) (some ((i:Int)+(c:Int)))=(xs.drop i).take c:=by
 unfold nj;have e:((i:Int)+(c:Int))=((i+c:Nat):Int):=by omega
 rw[e,HT.Kt,HT.Kt];rcases ahu i xs.length with h|h
 .rw[V3 h,aht,Jz];omega
 .rw[ahv h,zT h,zT (dR _)];simp
theorem i7.but{H H':Hp}{p q C dx:Addr}{fs:List (Str×V)}{g:bp}(h:i7 t H q g)(b:bY p H H')(hp:H p=some (.ins C dx fs))(h3:fs.length≠3)(h6:fs.length≠7):i7 t H' q g:=by
 obtain ⟨d,aK,aS,aF,aR,aH,aE,aL,U,h2,h4,h5,h7,h8,h9,CL⟩:=h.ex;exact ⟨d,aK,aS,aF,aR,aH,aE,aL,b _ _ U (HC U hp fun z=>h6 (z.symm.trans rfl)),b _ _ h2 (oM h2 hp),b _ _ h4 (oM h4 hp),h5.but b hp h3,b _ _ h7 (oM h7 hp),h8.but b hp h3,h9.but b hp,CL.but b hp⟩
def mq(t:fZ)(H:Hp)(p:Addr)(g:bp)(past:List bp):Prop:=∃dx ag ab gM,H p=some (.ins t.cD dx (kK ag ab))/\i7 t H ag g/\H ab=some (.lst (gM.map V.ref))/\Paired (i7 t H) gM past
theorem mq.same{H H':Hp}{p:Addr}{g:bp}{past:List bp}(h:mq t H p g past)(s:aC H H'):mq t H' p g past:=
 let ⟨dx,ag,ab,gM,U,h2,h3,h4⟩:=h;⟨dx,ag,ab,gM,s _ _ U,h2.same s,s _ _ h3,gX h4 fun _ _ q=>q.same s⟩
def ada(t:fZ):Sp:=fun vs H Q _=>∃p dx,vs=[.ref p]/\H p=some (.ins t.cD dx [])/\∀H',bY p H H'->mq t H' p LM []->Q .eM H'
theorem apQ{f fe:Addr}{fd wH:dn}(F:eW K "__init__" "Desk.__init__" Qy f fd)(T:Txt K mg t)(ce:eY P w K mg base bJ 6 "empty_graph" fe wH Ql (acQ t)):c8 P w K mg base bJ 7 f fd Qz (ada t):=by
 refine F.ok am5 (fun vs H Q E h=>?_) (fun c6 A outer s H vs Q E hr h=>?_)
 .obtain ⟨p,dx,rfl,_⟩:=h;rfl
 .obtain ⟨p,dx,rfl,hp,k⟩:=h;refine ⟨_,bF (mT (pv 0) (akr ce.G hr rfl ce.m ce.kp ce.b .nil di) rfl) (cy (mT (pv 0) (dG aO) rfl)),?_⟩
  try dsimp only[fQ,fS,fT,fV]
  refine ⟨rfl,?_⟩;intro H1 ag s1 hag SG;have tR:=s1 _ _ hp;refine ⟨_,rfl,p,t.cD,dx,[],rfl,tR,T.iI,T.jE,(by decide),?_⟩;rw[an6];refine ⟨dU _,fun ab hab=>?_⟩;have SH:p≠ab:=dw aJ hab;refine ⟨_,rfl,p,t.cD,dx,_,rfl,by rw[bC SH];exact aJ,T.iI,T.Cv,(by show 1<1000;decide),?_⟩;rw[an7];have b1:bY p H1 (upd H1 p (.ins t.cD dx [("graph",.ref ag)])):=(bY.refl p H1).upd;have s2:=aC.nw (o:=.lst []) hab;have b2:bY p (upd (upd H1 p (.ins t.cD dx [("graph",.ref ag)])) ab (.lst [])) (upd (upd (upd H1 p (.ins t.cD dx [("graph",.ref ag)])) ab (.lst [])) p (.ins t.cD dx (kK ag ab))):=(bY.refl p _).upd;have oH:(upd (upd H1 p (.ins t.cD dx [("graph",.ref ag)])) ab (.lst [])) p=some (.ins t.cD dx [("graph",.ref ag)]):=by rw[bC SH];exact aJ
  have g1:=SG.but b1 tR (by simp) (by simp);have g2:=(g1.same s2).but b2 oH (by simp) (by simp);refine k _ (((s1.but).trans b1).trans (s2.but.trans b2)) ⟨dx,ag,ab,[],aJ,g2,?_,.nil⟩;rw[bC (fun z=>SH z.symm)];exact aJ
def SI(t:fZ):Sp:=fun vs H Q _=>∃p ag g g0 past,vs=[.ref p,.ref ag]/\mq t H p g0 past/\i7 t H ag g/\past.length<=1000/\∀H',bY p H H'->mq t H' p g ((g0::past).take 16)->Q .eM H'
theorem apR{f:Addr}{fd:dn}(F:eW K "change" "Desk.change" QA f fd)(T:Txt K mg t):c8 P w K mg base bJ 1 f fd K7 (SI t):=by
 refine F.ok am6 (fun vs H Q E h=>?_) (fun c6 A outer s H vs Q E hr h=>?_)
 .obtain ⟨p,ag,g,g0,past,rfl,_⟩:=h;rfl
 .obtain ⟨p,an,g,g0,past,rfl,⟨dx,ag,ab,gM,hp,hg,hb,mJ⟩,EX,hl,k⟩:=h;refine ⟨_,bF (mT (pv 0) (Pn Pp (o6 ve (dG (ax (cO (pv 0) rfl) aO)) (cO (pv 0) rfl)) Yu (Kw (gY T.aoB))) rfl) (cy (mT (pv 0) (pv 1) rfl)),?_⟩
  try dsimp only[fQ,fS,fT,fV]
  have lg:=mJ.length;refine ⟨_,rfl,hp,T.iI,T.jE,j9 _ _,(by show 1<=cJ;decide),fun l1 U=>?_⟩;have s1:=aC.nw (o:=.lst [V.ref ag]) U;refine ⟨_,rfl,s1 _ _ hp,T.iI,T.Cv,Lm _ _,l1,ab,_,_,rfl,rfl,aJ,s1 _ _ hb,?_,fun l2 h2=>?_⟩
  .rw[bt,eE];show 1+_<=_;omega
  have s2:=s1.trans (aC.nw (o:=.lst ([V.ref ag]++gM.map V.ref)) h2);refine ⟨16,rfl,l2,_,rfl,aD.of aJ,fun l3 h3=>?_⟩;have s3:=s2.trans (aC.nw (o:=.lst (nj ([V.ref ag]++gM.map V.ref) none (some 16))) h3);have e16:nj ([V.ref ag]++gM.map V.ref) none (some 16)=((ag::gM).take 16).map V.ref:=by
   have:=apM ([V.ref ag]++gM.map V.ref) 16;rw[ahw];exact this
  refine ⟨_,rfl,p,t.cD,dx,_,rfl,s3 _ _ hp,T.iI,T.Cv,(by show 2<1000;decide),?_⟩;rw[aa5];refine ⟨_,rfl,_,rfl,p,t.cD,dx,_,rfl,aJ,T.iI,T.jE,(by show 2<1000;decide),?_⟩;rw[aa4,oz];have qp:=s3 _ _ hp;have b3:bY p (upd (upd (upd H l1 (.lst [V.ref ag])) l2 (.lst ([V.ref ag]++gM.map V.ref))) l3 (.lst (nj ([V.ref ag]++gM.map V.ref) none (some 16)))) (upd (upd (upd (upd H l1 (.lst [V.ref ag])) l2 (.lst ([V.ref ag]++gM.map V.ref))) l3 (.lst (nj ([V.ref ag]++gM.map V.ref) none (some 16)))) p (.ins t.cD dx (kK an l3))):=(bY.refl p _).upd;have n3:l3≠p:=fun z=>by
   rw[z]at h3;rw[s2 _ _ hp]at h3;cases h3
  refine k _ (s3.but.trans b3) ⟨dx,an,l3,(ag::gM).take 16,aJ,(EX.same s3).but b3 qp (by simp[kK]) (by simp[kK]),?_,?_⟩
  .rw[bC n3,aJ,e16]
  .have pa:Paired (i7 t (upd (upd (upd (upd H l1 (.lst [V.ref ag])) l2 (.lst ([V.ref ag]++gM.map V.ref))) l3 (.lst (nj ([V.ref ag]++gM.map V.ref) none (some 16)))) p (.ins t.cD dx (kK an l3)))) (ag::gM) (g0::past):=
    .cons ((hg.same s3).but b3 qp (by simp[kK]) (by simp[kK])) (gX mJ fun _ _ q=>(q.same s3).but b3 qp (by simp[kK]) (by simp[kK]))
   have tk:∀{α β:Type}{R:α->β->Prop}{l:List α}{m:List β}(n:Nat),Paired R l m->Paired R (l.take n) (m.take n):=by
    intro α β R l m n h
    induction h generalizing n with
    |nil=>simp;exact .nil
    |cons r q ih=>
     cases n with
     |zero=>exact .nil
     |succ n=>exact .cons r (ih n)
   exact tk 16 pa
def ade(t:fZ):Sp:=fun vs H Q _=>∃p g g0 past,vs=[.ref p]/\mq t H p g0 (g::past)/\∀H',bY p H H'->mq t H' p g past->Q .eM H'
theorem apT{f:Addr}{fd:dn}(F:eW K "step_back" "Desk.step_back" QB f fd)(T:Txt K mg t):c8 P w K mg base bJ 1 f fd QC (ade t):=by
 refine F.ok am8 (fun vs H Q E h=>?_) (fun c6 A outer s H vs Q E hr h=>?_)
 .obtain ⟨p,g,g0,past,rfl,_⟩:=h;rfl
 .obtain ⟨p,g,g0,past,rfl,⟨dx,ag,ab,gM,hp,hg,hb,mJ⟩,k⟩:=h;cases mJ with
  | @cons a1 _ gM _ hg1 mJ=>
  refine ⟨_,bF (mT (pv 0) (gj ia (cO (pv 0) rfl) gg (fun _ _=>rfl)) rfl) (cy (mT (pv 0) (Pn Pp (cO (pv 0) rfl) (Kw gg) Yu) rfl)),?_⟩
  try dsimp only[fQ,fS,fT,fV]
  refine ⟨_,rfl,hp,T.iI,T.Cv,Lm _ _,ab,_,0,V.ref a1,rfl,rfl,aD.of hb,at_of (j:=0) rfl rfl,?_⟩;refine ⟨_,rfl,p,t.cD,dx,_,rfl,hp,T.iI,T.jE,(by show 2<1000;decide),?_⟩;rw[aa4];have b1:bY p H (upd H p (.ins t.cD dx (kK a1 ab))):=(bY.refl p H).upd;have hb1:=b1 _ _ hb (oM hb hp);refine ⟨_,rfl,aJ,T.iI,T.Cv,Lm _ _,1,rfl,ab,_,rfl,aD.of hb1,fun l3 h3=>?_⟩;have s3:=aC.nw (o:=.lst (nj ((a1::gM).map V.ref) (some 1) none)) h3;have e1:nj ((a1::gM).map V.ref) (some 1) none=gM.map V.ref:=apO ((a1::gM).map V.ref) 1;refine ⟨_,rfl,p,t.cD,dx,_,rfl,s3 _ _ aJ,T.iI,T.Cv,(by show 2<1000;decide),?_⟩;rw[aa5];have qp:=s3 _ _ (aJ (H:=H) (a:=p) (o:=.ins t.cD dx (kK a1 ab)));have b3:bY p (upd (upd H p (.ins t.cD dx (kK a1 ab))) l3 (.lst (nj ((a1::gM).map V.ref) (some 1) none))) (upd (upd (upd H p (.ins t.cD dx (kK a1 ab))) l3 (.lst (nj ((a1::gM).map V.ref) (some 1) none))) p (.ins t.cD dx (kK a1 l3))):=(bY.refl p _).upd;have n3:l3≠p:=fun z=>by
   rw[z,aJ]at h3;cases h3
  have all:∀{q:Addr}{x:bp},i7 t H q x->i7 t (upd (upd (upd H p (.ins t.cD dx (kK a1 ab))) l3 (.lst (nj ((a1::gM).map V.ref) (some 1) none))) p (.ins t.cD dx (kK a1 l3))) q x:=fun z=>
   ((z.but b1 hp (by simp[kK]) (by simp[kK])).same s3).but b3 qp (by simp[kK]) (by simp[kK])
  refine k _ ((b1.trans s3.but).trans b3) ⟨dx,a1,l3,gM,aJ,all hg1,?_,gX mJ fun _ _ q=>all q⟩;rw[bC n3,aJ,e1]
end WD
open Vasnpb (Found)
namespace WD
end WD
open WK (keys scan visit VW Ad jQ iF run)
namespace WD
def adf(kvs:List (Key×V))(l:List Nat):Prop:=∀n:Nat,(hJ kvs (Sum.inl (n:Int))).isSome=decide (n∈l)
def dk(m:Found):List (Key×V):=m.map fun x=>(Sum.inl (x.1:Int),V.int ((x.2.getLast?.getD 0:Nat):Int))
theorem LY(m:Found)(l:Nat):(hJ (dk m) (Sum.inl (l:Int))).isSome=decide (l∈keys m):=by
 rw[<-Eh,n4,sY,decide_eq_true_iff];unfold dk keys;simp only[js];constructor
 .rintro ⟨kv,⟨x,hx,rfl⟩,h⟩;refine ⟨x,hx,?_⟩;have:=of_decide_eq_true h;have:=zP this;omega
 .rintro ⟨x,hx,rfl⟩;exact ⟨_,⟨x,hx,rfl⟩,decide_eq_true rfl⟩
theorem apW{m:Found}{l n:Nat}{w:List Nat}(h:l∉keys m):putK (dk m) (Sum.inl (l:Int)) (V.int (n:Int))=dk (m++[(l,w++[n])]):=by
 rw[KJ]
 .unfold dk;rw[iO];simp
 .have:=LY m l;rw[decide_eq_false h]at this;cases q:hJ (dk m) (Sum.inl (l:Int)) with
  |none=>rfl
  |some v=>rw[q]at this;cases this
theorem apX{m:Found}(nd:(keys m).Nodup){x:Nat×List Nat}(hx:x∈m):hJ (dk m) (Sum.inl (x.1:Int))=some (V.int ((x.2.getLast?.getD 0:Nat):Int)):=by
 induction m with
 |nil=>cases hx
 |cons a r ih=>
  unfold keys at nd;rw[jx,t8]at nd;by_cases e:a.1=x.1
  .have:a=x:=by
    rcases f6.mp hx with q|q
    .exact q.symm
    .exact absurd (js.mpr ⟨x,q,e.symm⟩) nd.1
   subst this;exact vg rfl
  .rcases f6.mp hx with q|q
   .exact absurd (by rw[q]) e
   .show hJ ((Sum.inl (a.1:Int),_)::dk r) _=_;rw[vh (p:=(Sum.inl (a.1:Int),V.int ((a.2.getLast?.getD 0:Nat):Int))) (fun z=>e (by have:=zP z;omega))];exact ih nd.2 q
def adg(K:cB):Sp:=fun vs H Q _=>∃a l,vs=[.ref a]/\aD K H a (nats l)/\l.length<=1000/\∀H' d kvs,aC H H'->H d=none->H' d=some (.dK kvs)->adf kvs l->Q (.ref d) H'
theorem apY{f:Addr}{fd:dn}(F:eW K "marked" "marked" QE f fd):c8 P w K mg base bJ 1 f fd QF (adg K):=by
 refine F.ok ZO (fun vs H Q E h=>?_) (fun c6 A outer s H vs Q E hr h=>?_)
 .obtain ⟨a,l,rfl,_⟩:=h;rfl
 .obtain ⟨a,l,rfl,hS,hl,k⟩:=h;have nd:=ZO.nd;have hu:=vk hr;refine ⟨_,bF (dB (i:=1) nd rfl (Or.inl rfl) G6) (bF (kW jW rfl (l0 (pv 0)) (gG (i:=2) nd rfl (Or.inl rfl)) (cy (El hu (pv 1) (pv 2) BW rfl))) (cy (eN (pv 1)))),?_⟩
  try dsimp only[fQ,fS,fT,fV]
  intro d hd;have s0:aC H (upd H d (.dK [])):=aC.nw hd;refine ⟨_,rfl,a,rfl,⟨_,s0.seq hS⟩,qK (K:=K) (a:=a) (xs:=nats l) (fun i σ H'=>∃(v2:Option V)(kvs:List (Key×V)),σ=[some (.ref a),some (.ref d),v2]/\aC H H'/\H' d=some (.dK kvs)/\kvs.length<=i/\adf kvs (l.take i))
   ⟨none,[],rfl,s0,aJ,dU _,fun n=>by simp[alT]⟩ (fun i σ H' _ ⟨_,_,_,s1,_⟩=>s1.seq hS) ?_ ?_⟩
  .rintro i x σ H' hx ⟨v2,kvs,rfl,s1,rM,om,mk⟩;obtain ⟨n,hn,rfl⟩:=nQ hx;have hi:i<l.length:=(gq.mp hn).1;refine ⟨_,rfl,_,rfl,d,_,rfl,vi.k (k:=Sum.inl (n:Int)) rM (by rw[eE];omega),?_⟩;refine ⟨_,_,rfl,s1.own hd,aJ,?_,?_⟩
   .unfold putK
    split
    .rw[bt];omega
    .rw[gR];simp;omega
   .intro j;rw[Za,take_snoc hn];by_cases e:j=n
    .subst e;rw[if_pos rfl];simp
    .rw[if_neg (fun z=>e (by have:=zP z;omega)),mk j];simp[e]
  .rintro σ H1 ⟨v2,kvs,rfl,s1,rM,om,mk⟩;have e:l.take (nats l).length=l:=by unfold nats;rw[bt,jY]
   rw[e]at mk;exact ⟨_,rfl,k H1 d kvs s1 hd rM mk⟩
end WD
open WK (GoodW)
namespace WD
structure pj(g:bp):Prop where
 ok:iF g
 no:g.objs.length<=48
 nh:(bh g).length<=1000
def EY(g:bp)(out cut:List Nat)(a:Nat)(fd:Found):Prop:=
 (a=0/\fd=[])∨∃p,a=p+1/\p<=fd.length/\GoodW g out cut fd/\∀F,g.objs.length<=F+p->run (VW (bh g) out cut) F p fd=jQ g out cut
def A3(fd:Found):List Nat:=0::(keys fd).map (·+1)
theorem adh(fd:Found):(A3 fd).length=fd.length+1:=by unfold A3 keys;simp
theorem EY.turn{g:bp}(ok:iF g){out cut:List Nat}{a:Nat}{fd:Found}(q:EY g out cut a fd)(h:a<fd.length+1):∃pl wy,(A3 fd)[a]? =some pl/\pl<g.objs.length+1/\a<=g.objs.length/\fd.length<=g.objs.length/\EY g out cut (a+1) (visit (bh g) out cut fd pl wy):=by
 rcases q with ⟨rfl,rfl⟩|⟨p,rfl,hp,gw,hr⟩
 .refine ⟨0,[],rfl,by omega,by omega,by simp,.inr ⟨0,rfl,dU _,GoodW.start g out cut,fun F hF=>?_⟩⟩;exact (WK.JS ok out cut (by omega)).symm
 .have eU:p<fd.length:=by omega
  have hl:=gw.len ok;have hx:fd[p]? =some fd[p]:=iN eU;refine ⟨fd[p].1+1,fd[p].2,?_,?_,by omega,hl,.inr ⟨p+1,rfl,?_,gw.visit (Bw eU),fun F hF=>?_⟩⟩
  .unfold A3 keys;rw[FX,n9,gp,hx];rfl
  .obtain ⟨_,_,h,_,h2,h3,_⟩:=gw.tr fd[p] (Bw eU);rw[<-h3];have:=ok.uX _ (iy h2);omega
  .obtain ⟨r,e⟩:=WK.JR (bh g) out cut fd fd[p];show p+1<=(VW (bh g) out cut fd fd[p]).length;rw[e,gR];omega
  .rw[<-hr (F+1) (by omega)];rw[WK.OF,hx];rfl
theorem EY.stop{g:bp}{out cut:List Nat}{a:Nat}{fd:Found}(q:EY g out cut a fd)(h:¬a<fd.length+1):fd=jQ g out cut:=by
 rcases q with ⟨rfl,rfl⟩|⟨p,rfl,hp,gw,hr⟩
 .exact absurd (by simp) h
 .rw[<-hr g.objs.length (by omega)];have:fd.length<=p:=by omega
  cases hN:g.objs.length with
  |zero=>rfl
  |succ n=>
   rw[WK.OF,FO this]
def LZ(K:cB)(t:fZ):Sp:=fun vs H Q _=>∃ag ao ac g out cut,vs=[.ref ag,.ref ao,.ref ac]/\i7 t H ag g/\pj g/\aD K H ao (nats out)/\aD K H ac (nats cut)/\out.length<=1000/\cut.length<=1000/\
 ∀H' d,aC H H'->H d=none->H' d=some (.dK (dk (jQ g out cut)))->Q (.ref d) H'
theorem apZ{f fm fh:Addr}{fd CM wD:dn}(F:eW K "first_holds" "first_holds" QD f fd)(T:Txt K mg t)(cm:eY P w K mg base bJ 1 "marked" fm CM QF (adg K))(ch:eY P w K mg base bJ 1 "holder_of" fh wD uz vo):c8 P w K mg base bJ 2 f fd Hi (LZ K t):=by
 refine F.ok ZN (fun vs H Q E h=>?_) (fun c6 A outer s H vs Q E hr h=>?_)
 .obtain ⟨ag,ao,ac,g,out,cut,rfl,_⟩:=h;rfl
 .obtain ⟨ag,ao,ac,g,out,cut,rfl,hg,fit,ho,hc,lo,lc,k⟩:=h;have nd:=ZN.nd;have hu:=vk hr;refine ⟨_,bF (dB (i:=3) nd rfl (Or.inl rfl) (eB cm.G hr rfl cm.m cm.kp cm.b .nil di (ax (pv 1) aO)))
   (bF (dB (i:=4) nd rfl (Or.inl rfl) (eB cm.G hr rfl cm.m cm.kp cm.b .nil di (ax (pv 2) aO)))
   (bF (dB (i:=5) nd rfl (Or.inl rfl) G6) (bF (dB (i:=6) nd rfl (Or.inl rfl) (dG (ax (gY T.Cw) aO))) (bF (dB (i:=7) nd rfl (Or.inl rfl) gg)
   (bF (BY jW (ng Km (pv 7) (jR l7 (by rfl) T.len lW (ax (pv 6) aO)) (mS _))
    (bF (kW jW rfl (l0 (gj ia (cO (pv 0) rfl) (gj ia (pv 6) (pv 7) (fun _ _=>rfl)) (fun _ _=>rfl))) (gG (i:=8) nd rfl (Or.inl rfl))
     (bF (dB (i:=9) nd rfl (Or.inl rfl) (cO (gj ia (cO (pv 0) rfl) (pv 8) (fun _ _=>rfl)) rfl))
     (bF (mQ (PW.pt (J9 (vV (KN hu (pv 8) (pv 4)) (by with_unfolding_all rfl)) (J9 (vV (KN hu (pv 9) (pv 3)) (by with_unfolding_all rfl)) (O0 (vV (KN hu (pv 9) (pv 5)) (by with_unfolding_all rfl)))))) (cy ajy) mP)
     (bF (El hu (pv 5) (pv 9) (pv 8) rfl)
     (cy (jv (j8 jX n6 n8 nM (pv 6) (ax (eB ch.G hr rfl ch.m ch.kp ch.b .nil di (ax (pv 9) aO)) aO))))))))
    (cy (XN (i:=7) nd rfl (Or.inl rfl) gg XO))))
   (cy (eN (pv 5)))))))),?_⟩
  try dsimp only[fQ,fS,fT,fV]
  obtain ⟨dx,aK,aS,aF,aR,aH,aE,pR,gP,_,_,_,_,hH,hE,_⟩:=hg.ex;obtain ⟨jL,jU,kx⟩:=hH;obtain ⟨uE,EZ,CN⟩:=hE;refine ⟨_,rfl,ao,out,rfl,ho,lo,?_⟩;intro H1 dO ko s1 fO hO mO;refine ⟨_,rfl,ac,cut,rfl,s1.seq hc,lc,?_⟩;intro H2 dC kc s2 fC hC mC;intro fo yY;refine ⟨(by show 1<=cJ;decide),fun wa pk=>?_⟩;have SM:aC H H2:=s1.trans s2;have s3:=aC.nw (o:=.dK []) yY;have s4:=aC.nw (o:=.lst [V.int 0]) pk;have SN:fo≠wa:=dw aJ pk;have fF:H fo=none:=SM.free yY;have fW:H wa=none:=(SM.trans s3).free pk;have nOf:dO≠fo:=dw (s2 _ _ hO) yY;have nCf:dC≠fo:=dw hC yY;have nOw:dO≠wa:=dw (s3 _ _ (s2 _ _ hO)) pk;have nCw:dC≠wa:=dw (s3 _ _ hC) pk
  let L0:Nat->Found->Option V->Option V->L2.St->Hp->Prop:=fun a fd v8 v9 σ H'=>σ=[some (.ref ag),some (.ref ao),some (.ref ac),some (.ref dO),some (.ref dC),some (.ref fo),some (.ref wa),some (.int (a:Int)),v8,v9]/\
   aC H H'/\H' dO=some (.dK ko)/\H' dC=some (.dK kc)/\H' fo=some (.dK (dk fd))/\H' wa=some (.lst (nats (A3 fd)))
  refine ⟨fun m σ H'=>∃a fd v8 v9,L0 a fd v8 v9 σ H'/\EY g out cut a fd/\m=g.objs.length+2-a,⟨_,0,[],none,none,⟨rfl,SM.trans (s3.trans s4),s4 _ _ (s3 _ _ (s2 _ _ hO)),s4 _ _ (s3 _ _ hC),by rw[bC SN];exact aJ,aJ⟩,.inl ⟨rfl,rfl⟩,rfl⟩,?_⟩;rintro m σ H' ⟨a,fd,v8,v9,⟨rfl,s5,hO5,hC5,hF5,SO⟩,qa,rfl⟩;refine ⟨_,rfl,_,rfl,wa,_,rfl,.inl (aD.of SO),_,_,rfl,rfl,_,rfl,?_⟩;have adl:(nats (A3 fd)).length=fd.length+1:=by unfold nats;rw[bt,adh]
  refine jq (fun z=>?_) (fun z=>?_)
  .have eU:a<fd.length+1:=by
    have:=of_decide_eq_true z;rw[adl]at this;omega
   obtain ⟨pl,wy,l6,adm,Zs,hfN,qa'⟩:=qa.turn fit.ok eU;refine ⟨fun cV iJ=>∃v8 v9,L0 (a+1) (visit (bh g) out cut fd pl wy) v8 v9 cV iJ,?_,?_⟩
   .rintro cV iJ ⟨v8,v9,i⟩;exact ⟨g.objs.length+2-(a+1),by omega,a+1,_,v8,v9,i,qa',rfl⟩
   obtain ⟨bq,sy⟩:∃b,uE[pl]? =some b:=⟨_,iN (by rw[CN.length];unfold heldOf;rw[bt,xc];exact adm)⟩;obtain ⟨ln,A4,AZ⟩:=lM CN sy;have HP:ln=WK.vQ (bh g) pl:=by
    unfold heldOf at A4;rw[gp,BC adm]at A4;exact (gE A4).symm
   refine ⟨_,rfl,s5 _ _ gP,T.iT,T.Lx,RI _ _ _ _ _ _ _,_,rfl,_,rfl,wa,_,_,_,rfl,rfl,aD.of SO,at_of (j:=a) (v:=V.int (pl:Int)) rfl (by unfold nats;rw[gp,l6];rfl),
    aE,_,_,_,rfl,rfl,aD.of (s5 _ _ EZ),at_of (j:=pl) (v:=V.ref bq) rfl (by rw[gp,sy];rfl),bq,rfl,⟨_,aD.of (s5 _ _ AZ)⟩,
    qK (K:=K) (a:=bq) (xs:=nats ln) (fun j σ iJ=>∃v8 v9,L0 a ((ln.take j).foldl (scan (bh g) out cut wy) fd) v8 v9 σ iJ) ⟨v8,v9,rfl,s5,hO5,hC5,hF5,SO⟩ (fun j σ iJ _ ⟨_,_,i⟩=>aD.of (i.2.1 _ _ AZ)) ?_ ?_⟩
   .rintro j x σ iJ hx ⟨v8',v9',rfl,s6,HQ,HR,y9,E3⟩;obtain ⟨n,hn,rfl⟩:=nQ hx;have SR:n∈WK.vQ (bh g) pl:=by rw[<-HP];exact iy hn
    obtain ⟨hh,he,hf⟩:=WK.Gd.mp SR;obtain ⟨c,SS,sv⟩:=uB kx he;obtain ⟨dxh,oR⟩:=sv;have lfd:((ln.take j).foldl (scan (bh g) out cut wy) fd).length<=2000:=by
     have gen:∀(l:List Nat)(m:Found),(l.foldl (scan (bh g) out cut wy) m).length<=m.length+l.length:=by
      intro l
      induction l with
      |nil=>intro m;simp
      |cons b r ih=>
       intro m;rw[kz];have U:=ih (scan (bh g) out cut wy m b);have h2:(scan (bh g) out cut wy m b).length<=m.length+1:=by
        unfold WK.scan
        split
        .omega
        .split
         .omega
         .simp
       simp;omega
     have U:=gen (ln.take j) fd;have h2:(ln.take j).length<=ln.length:=V7 _ _;have h3:=numsOf_len (bh g) pl;have h4:ln.length=(numsOf (bh g) pl).length:=by rw[HP];rfl
     have h5:=fit.nh;have h6:=fit.no;omega
    generalize efm:(ln.take j).foldl (scan (bh g) out cut wy) fd=fm at y9 E3 lfd;have L4:(ln.take (j+1)).foldl (scan (bh g) out cut wy) fd=scan (bh g) out cut wy fm n:=by
     rw[take_snoc hn,VF,efm];rfl
    refine ⟨_,rfl,s6 _ _ gP,T.iT,T.pO,rH _ _ _ _ _ _ _,_,rfl,aH,_,_,_,rfl,rfl,aD.of (s6 _ _ jU),at_of (j:=n) (v:=V.ref c) rfl (by rw[gp,SS];rfl),s6 _ _ oR,T.nP,T.xR,yN _ _ _,?_⟩;have skip:(n∈cut∨hh.to∈out∨hh.to∈keys fm)->scan (bh g) out cut wy fm n=fm:=fun y=>by
     unfold WK.scan;rw[he];simp only;rw[if_pos y]
    have cont:(n∈cut∨hh.to∈out∨hh.to∈keys fm)->∃v8 v9,L0 a ((ln.take (j+1)).foldl (scan (bh g) out cut wy) fd) v8 v9 [some (.ref ag),some (.ref ao),some (.ref ac),some (.ref dO),some (.ref dC),some (.ref fo),some (.ref wa),some (.int (a:Int)),some (.int (n:Int)),some (.int (hh.to:Int))] iJ:=fun y=>
     ⟨_,_,rfl,s6,HQ,HR,by rw[L4,skip y];exact y9,by rw[L4,skip y];exact E3⟩
    refine ⟨_,rfl,_,rfl,dC,_,rfl,lL.k (k:=Sum.inl (n:Int)) HR,_,rfl,?_⟩;rw[mC n];refine jq (fun y=>cont (.inl (of_decide_eq_true y))) (fun y=>?_);rw[decide_eq_true_iff]at y;refine ⟨_,rfl,_,rfl,dO,_,rfl,lL.k (k:=Sum.inl (hh.to:Int)) HQ,_,rfl,?_⟩;rw[mO hh.to];refine jq (fun y2=>cont (.inr (.inl (of_decide_eq_true y2)))) (fun y2=>?_);rw[decide_eq_true_iff]at y2;refine ⟨_,rfl,_,rfl,fo,_,rfl,lL.k (k:=Sum.inl (hh.to:Int)) y9,_,rfl,?_⟩;rw[LY];refine jq (fun y3=>cont (.inr (.inr (of_decide_eq_true y3)))) (fun y3=>?_);rw[decide_eq_true_iff]at y3;have adp:scan (bh g) out cut wy fm n=fm++[(hh.to,wy++[n])]:=by
     unfold WK.scan;rw[he];simp only;rw[if_neg (fun q=>q.elim y fun q=>q.elim y2 y3)]
    refine ⟨_,rfl,_,rfl,_,rfl,fo,_,rfl,vi.k (k:=Sum.inl (hh.to:Int)) y9 (by unfold dk;rw[bt,eE];omega),?_⟩;rw[apW (w:=wy) y3];have hW7:(upd iJ fo (.dK (dk (fm++[(hh.to,wy++[n])])))) wa=some (.lst (nats (A3 fm))):=by rw[bC (fun z=>SN z.symm)];exact E3
    refine ⟨_,rfl,.inl ⟨rfl,_,aD.of hW7⟩,_,rfl,(hh.to:Int),rfl,?_⟩;refine ⟨wa,_,V.int ((hh.to:Int)+1),rfl,rfl,hW7,?_,?_⟩
    .unfold nats;rw[bt,adh,eE];omega
    .refine ⟨_,_,rfl,(s6.own fF).own fW,?_,?_,?_,?_⟩
     .rw[bC nOw,bC nOf];exact HQ
     .rw[bC nCw,bC nCf];exact HR
     .rw[bC SN,aJ,L4,adp]
     .rw[aJ,L4,adp];unfold A3 keys nats;simp
   .rintro σ iJ ⟨v8',v9',rfl,s6,HQ,HR,y9,E3⟩;have e9:(ln.take (nats ln).length).foldl (scan (bh g) out cut wy) fd=visit (bh g) out cut fd pl wy:=by
     have:(nats ln).length=ln.length:=by unfold nats;rw[bt]
     rw[this,jY,HP];rfl
    rw[e9]at y9 E3;refine ⟨_,rfl,_,_,rfl,rfl,v8',v9',?_,s6,HQ,HR,y9,E3⟩;rfl
  .have e:fd=jQ g out cut:=qa.stop (by
    rw[decide_eq_true_iff,adl]at z;omega)
   subst e;exact ⟨_,rfl,k H' fo s5 fF hF5⟩
end WD
open Vasnpb (alive gone)
namespace WD
theorem aqc{g:bp}(ok:iF g){out cut:List Nat}{ns:List Int}(p:ns.Perm ((keys (jQ g out cut)).map fun n:Nat=>(n:Int)))(o:ns.Pairwise (·<=·)):ns=(alive g out cut).map fun n:Nat=>(n:Int):=by
 have SU:(keys (jQ g out cut)).Nodup:=(WK.DN ok out cut).nd;have so:=WK.DI g out cut;have vt:(alive g out cut).Nodup:=so.imp fun h=>kg h;have p2:(keys (jQ g out cut)).Perm (alive g out cut):=(ahx SU vt).mpr fun a=>by rw[WK.Xi ok,WK.tj ok]
 refine V8 (le:=fun a b:Int=>a<=b) (fun a b _ _ U h2=>by omega) o ?_ (p.trans (p2.map _));refine List.Pairwise.map _ (fun a b (h:a<b)=>?_) so;omega
theorem aqd(m:Found):(dk m).map (·.1)=((keys m).map fun n:Nat=>(n:Int)).map Sum.inl:=by
 unfold dk keys;simp
def Ask(K:cB)(t:fZ)(H:Hp)(ag ao ac:Addr)(g:bp)(out cut:List Nat):Prop:=
 i7 t H ag g/\pj g/\aD K H ao (nats out)/\aD K H ac (nats cut)/\out.length<=1000/\cut.length<=1000
theorem Ask.same{H H':Hp}{ag ao ac:Addr}{g:bp}{out cut:List Nat}(a:Ask K t H ag ao ac g out cut)(s:aC H H'):Ask K t H' ag ao ac g out cut:=
 let ⟨U,h2,h3,h4,h5,h6⟩:=a;⟨U.same s,h2,s.seq h3,s.seq h4,h5,h6⟩
def A5(K:cB)(t:fZ):Sp:=fun vs H Q _=>∃ag ao ac g out cut,vs=[.ref ag,.ref ao,.ref ac]/\Ask K t H ag ao ac g out cut/\
 ∀H' p,aC H H'->H p=none->H' p=some (.lst (nats (alive g out cut)))->Q (.ref p) H'
theorem aqe{f fh:Addr}{fd wD:dn}(F:eW K "live_objects" "live_objects" QG f fd)(T:Txt K mg t)(ch:eY P w K mg base bJ 2 "first_holds" fh wD Hi (LZ K t)):
  c8 P w K mg base bJ 3 f fd yL (A5 K t):=by
 refine F.ok anb (fun vs H Q E h=>?_) (fun c6 A outer s H vs Q E hr h=>?_)
 .obtain ⟨ag,ao,ac,g,out,cut,rfl,_⟩:=h;rfl
 .obtain ⟨ag,ao,ac,g,out,cut,rfl,⟨hg,fit,ho,hc,lo,lc⟩,k⟩:=h;refine ⟨_,cy (eN (jR (aa9 rfl) rfl T.sorted V9 (ax (eB ch.G hr rfl ch.m ch.kp ch.b .nil di (ax (pv 0) (ax (pv 1) (ax (pv 2) aO)))) aO))),?_⟩
  try dsimp only[fQ,fS,fT,fV]
  refine ⟨_,rfl,_,rfl,_,rfl,ag,ao,ac,g,out,cut,rfl,hg,fit,ho,hc,lo,lc,?_⟩;intro H1 d s1 hd rM;have gl:=(WK.DN fit.ok out cut).len fit.ok;refine ⟨d,_,_,rfl,rM,aqd _,?_,?_⟩
  .have:(keys (jQ g out cut)).length=(jQ g out cut).length:=by unfold keys;rw[bt]
   have:=fit.no;rw[bt];omega
  .intro qN p hp p8 hpn;rw[aqc fit.ok hp p8,n9];exact k _ p (s1.new hpn) (s1.free hpn) aJ
def zg(K:cB)(t:fZ):Sp:=fun vs H Q _=>∃ag ao ac g out cut,vs=[.ref ag,.ref ao,.ref ac]/\Ask K t H ag ao ac g out cut/\
 ∀H' p,aC H H'->H p=none->H' p=some (.lst (nats (gone g out cut)))->Q (.ref p) H'
theorem aqf{g:bp}(ok:iF g)(out cut:List Nat):gone g out cut=(alive g [] []).filter fun o=>!(decide (o∈keys (jQ g out cut))):=by
 refine WK.Oo ok fun y _=>?_;simp[WK.Xi ok]
theorem aqg{f fh fl:Addr}{fd wD lO:dn}(F:eW K "lost_objects" "lost_objects" K8 f fd)(ch:eY P w K mg base bJ 2 "first_holds" fh wD Hi (LZ K t))(cl:eY P w K mg base bJ 3 "live_objects" fl lO yL (A5 K t)):c8 P w K mg base bJ 4 f fd xN (zg K t):=by
 refine F.ok ZR (fun vs H Q E h=>?_) (fun c6 A outer s H vs Q E hr h=>?_)
 .obtain ⟨ag,ao,ac,g,out,cut,rfl,_⟩:=h;rfl
 .obtain ⟨ag,ao,ac,g,out,cut,rfl,⟨hg,fit,ho,hc,lo,lc⟩,k⟩:=h;have nd:=ZR.nd;have mY:dQ 2 _:=hr.mono (by decide);have hu:=vk hr;refine ⟨_,bF (dB (i:=3) nd rfl (Or.inr rfl) (eB ch.G mY rfl ch.m ch.kp ch.b .nil di (ax (pv 0) (ax (pv 1) (ax (pv 2) aO)))))
   (cy (eN (wm (own:=[("number",4)]) rfl nd (l0 (eB cl.G hr rfl cl.m cl.kp cl.b .nil di (ax (pv 0) (ax (dG aO) (ax (dG aO) aO))))) (sj (by show qQ ZQ (da K8) _ _=true;decide +kernel))
    (fun s H C cl fp=>gG (i:=4) nd rfl (Or.inl rfl) (Or.inr rfl)) (fun s H C cl fp=>Cd (vV (Cg hu (pv 4) (pv 3)) (by with_unfolding_all rfl))) (fun s H C cl fp=>pv 4)))),?_⟩
  try dsimp only[fQ,fS,fT,fV]
  refine ⟨_,rfl,_,rfl,_,rfl,ag,ao,ac,g,out,cut,rfl,hg,fit,ho,hc,lo,lc,?_⟩;intro H1 d s1 hd rM;refine ⟨_,rfl,dU _,fun a1 U=>⟨dU _,fun a2 h2=>?_⟩⟩;have s2:=aC.nw (o:=.lst []) U;have s3:=aC.nw (o:=.lst []) h2;refine ⟨ag,a1,a2,g,[],[],rfl,⟨((hg.same s1).same s2).same s3,fit,aD.of (s3 _ _ aJ),aD.of aJ,by simp,by simp⟩,?_⟩;intro H2 l s4 hl iH;have qZ:aC H1 H2:=(s2.trans s3).trans s4;have hd2:=qZ _ _ rM;refine ⟨l,rfl,⟨_,aD.of iH⟩,fun D hD=>?_⟩;refine wo (K:=K) (a:=l) (xs:=nats (alive g [] [])) (fun j H'=>aC H2 H'/\H' D=some (.lst (nats (((alive g [] []).take j).filter fun o=>!(decide (o∈keys (jQ g out cut))))))) ⟨aC.nw hD,aJ⟩ (fun j H' _ ⟨s5,_⟩=>aD.of (s5 _ _ iH)) ?_ ?_
  .rintro j x H' hx ⟨s5,iw⟩;obtain ⟨n,hn,rfl⟩:=nQ hx;refine ⟨rfl,_,rfl,_,rfl,d,_,rfl,lL.k (k:=Sum.inl (n:Int)) (s5 _ _ hd2),_,rfl,?_⟩;rw[LY];have hj:j<(alive g [] []).length:=(gq.mp hn).1;have hal:(alive g [] []).length<=48:=by
    have U:=WK.zX (N:=g.objs.length) ((WK.DI g [] []).imp fun h=>kg h) (fun x hx=>((WK.tj fit.ok).mp hx).lt fit.ok);have:=fit.no;omega
   refine jq (fun z=>?_) (fun z=>?_)
   .refine ⟨_,rfl,_,iw,?_,s5.own hD,?_⟩
    .unfold nats;have U:=mL (fun o=>!(decide (o∈keys (jQ g out cut)))) ((alive g [] []).take j);have h2:((alive g [] []).take j).length<=(alive g [] []).length:=V7 _ _;rw[bt,eE];omega
    .rw[aJ,take_snoc hn,vJ];unfold nats;rw[iO];congr 3;have:[n].filter (fun o=>!(decide (o∈keys (jQ g out cut))))=[n]:=by rw[kO,if_pos z];rfl
     rw[this];rfl
   .refine ⟨s5,?_⟩;rw[take_snoc hn,vJ];have:[n].filter (fun o=>!(decide (o∈keys (jQ g out cut))))=[]:=by rw[kO,if_neg z];rfl
    rw[this,nZ];exact iw
  .rintro H3 ⟨s5,iw⟩;have e:(alive g [] []).take (nats (alive g [] [])).length=alive g [] []:=by unfold nats;rw[bt,jY]
   rw[e,<-aqf fit.ok]at iw;have HS:aC H H2:=s1.trans qZ;exact k H3 D (HS.trans s5) (HS.free hD) iw
def adv(K:cB)(t:fZ):Sp:=fun vs H Q _=>∃ag ao ac g out cut x,vs=[.ref ag,.int ((x:Nat):Int),.ref ao,.ref ac]/\Ask K t H ag ao ac g out cut/\
 ∀H' p,aC H H'->H p=none->H' p=some (.lst (nats ((Vasnpb.wayAround g out cut x).getD [])))->Q (.ref p) H'
theorem aqh{f fh fo:Addr}{fd wD mV:dn}(F:eW K "first_way" "first_way" QH f fd)(T:Txt K mg t)(ch:eY P w K mg base bJ 2 "first_holds" fh wD Hi (LZ K t))(co:eY P w K mg base bJ 1 "holder_of" fo mV uz vo):c8 P w K mg base bJ 3 f fd QI (adv K t):=by
 refine F.ok ZS (fun vs H Q E h=>?_) (fun c6 A outer s H vs Q E hr h=>?_)
 .obtain ⟨ag,ao,ac,g,out,cut,x,rfl,_⟩:=h;rfl
 .obtain ⟨ag,ao,ac,g,out,cut,x,rfl,⟨hg,fit,ho,hc,lo,lc⟩,k⟩:=h;have nd:=ZS.nd;have ig:dQ 1 _:=hr.mono (by decide);have hu:=vk hr;refine ⟨_,bF (dB (i:=4) nd rfl (Or.inl rfl) (eB ch.G hr rfl ch.m ch.kp ch.b .nil di (ax (pv 0) (ax (pv 2) (ax (pv 3) aO)))))
   (bF (mQ (vV (Cg hu (pv 1) (pv 4)) (by with_unfolding_all rfl)) (cy (eN (dG aO))) mP)
   (bF (dB (i:=5) nd rfl (Or.inl rfl) (dG aO))
   (bF (dB (i:=6) nd rfl (Or.inl rfl) (eB co.G ig rfl co.m co.kp co.b .nil di (ax (pv 1) aO)))
   (bF (BY jW (ng uu (pv 6) (gY T.Cw) (mS _))
    (bF (dB (i:=7) nd rfl (Or.inl rfl) (Cf hu (pv 4) (o6 Pb (pv 6) gg) (fun _ _=>rfl)))
    (bF (jv (j8 jX n6 n8 nM (pv 5) (ax (pv 7) aO)))
    (cy (dB (i:=6) nd rfl (Or.inl rfl) (cO (gj ia (cO (pv 0) rfl) (pv 7) (fun _ _=>rfl)) rfl))))))
   (bF (jv (akZ jX PySem.F.slot_list_reverse PySem.F.type_list_reverse ak9 (pv 5)))
   (cy (eN (pv 5)))))))),?_⟩
  try dsimp only[fQ,fS,fT,fV]
  obtain ⟨dx,aK,aS,aF,aR,aH,aE,pR,gP,_,_,_,_,hH,_⟩:=hg.ex;obtain ⟨jL,jU,kx⟩:=hH;have gw:=WK.DN fit.ok out cut;refine ⟨_,rfl,_,rfl,_,rfl,ag,ao,ac,g,out,cut,rfl,hg,fit,ho,hc,lo,lc,?_⟩;intro H1 d s1 hd rM;refine ⟨_,rfl,_,rfl,d,_,rfl,lL.k (k:=Sum.inl (x:Int)) rM,_,rfl,?_⟩;rw[LY];refine jq (fun z=>?_) (fun z=>?_)
  .refine ⟨dU _,fun p hp=>?_⟩;refine k _ p (s1.new hp) (s1.free hp) ?_;rw[aJ];have hx:x∉keys (jQ g out cut):=by simpa using z
   rw[WK.JP];have:(jQ g out cut).find? (fun y=>y.1==x)=none:=by
    rw[Jp];intro y hy e;exact hx (by unfold keys;exact js.mpr ⟨y,hy,by simpa using e⟩)
   rw[this];rfl
  .have hx:x∈keys (jQ g out cut):=by simpa using z
   unfold keys at hx;obtain ⟨y,hy,GI⟩:=js.mp hx;have ew:Vasnpb.wayAround g out cut x=some y.2:=by
    rw[WK.JP];cases q:(jQ g out cut).find? (fun y=>y.1==x) with
    |none=>
     have:=Jp.mp q y hy;simp[GI]at this
    |some y'=>
     have m:=FN q;have e:y'.1=x:=by simpa using VD q
     have:y'=y:=by
      have nd':=gw.nd;unfold keys at nd';obtain ⟨i,hi,ei⟩:=Jv.mp m;obtain ⟨j,hj,ej⟩:=Jv.mp hy;have U:((jQ g out cut).map (·.1))[i]? =some x:=by rw[gp,iN hi,ei];exact congrArg some e
      have h2:((jQ g out cut).map (·.1))[j]? =some x:=by rw[gp,iN hj,ej];exact congrArg some GI
      have:i=j:=Hb nd' U h2;subst this;exact ei.symm.trans ej
     rw[this];rfl
   rw[ew]at k;refine ⟨dU _,fun wa pk=>?_⟩;have s2:=aC.nw (o:=.lst []) pk;have fW:H wa=none:=s1.free pk;refine ⟨_,rfl,(x:Int),rfl,?_⟩;have qZ:=s1.trans s2;refine ⟨fun m σ H'=>∃(v7:Option V)(q:Nat)(done rest:List Nat),σ=[some (.ref ag),some (.int (x:Int)),some (.ref ao),some (.ref ac),some (.ref d),some (.ref wa),some (.int (q:Int)),v7]/\aC H H'/\H' d=some (.dK (dk (jQ g out cut)))/\
     H' wa=some (.lst (nats done))/\y.2=rest++done.reverse/\m=rest.length/\(q=0/\rest=[]∨∃o,q=o+1/\(o,rest)∈jQ g out cut),
    ⟨_,none,x+1,[],y.2,by rfl,qZ,s2 _ _ rM,aJ,by simp,rfl,.inr ⟨x,rfl,by rw[<-GI];exact hy⟩⟩,?_⟩
   rintro m σ H' ⟨v7,q,done,rest,rfl,s3,mj,CO,ey,rfl,hq⟩;refine ⟨_,rfl,rfl,_,rfl,?_⟩;refine jq (fun z2=>?_) (fun z2=>?_)
   .rcases hq with ⟨rfl,_⟩|⟨o,rfl,L6⟩
    .exact absurd z2 (by decide)
    .obtain ⟨w',n,h,e1,e2,e3,_,_,e6⟩:=gw.tr (o,rest) L6;have SV:rest=w'++[n]:=e1;refine ⟨_,fun cV iJ hh=>⟨w'.length,by rw[SV];simp,hh⟩,?_⟩;have hv:hJ (dk (jQ g out cut)) (Sum.inl (((o+1:Nat):Int)-1))=some (V.int (n:Int)):=by
      have:=apX gw.nd L6;have e9:((o+1:Nat):Int)-1=(o:Int):=by omega
      rw[e9,this,SV];simp
     obtain ⟨c,SS,dxh,oR⟩:=uB kx e2;refine ⟨_,rfl,_,rfl,_,_,rfl,rfl,d,V.int (n:Int),rfl,?_,?_⟩
     .rw[<-hv];exact lL.k (k:=Sum.inl (((o+1:Nat):Int)-1)) mj
     refine ⟨_,rfl,.inl ⟨rfl,_,aD.of CO⟩,_,rfl,wa,_,_,rfl,rfl,CO,?_,?_⟩
     .have hl:done.length<=y.2.length:=by rw[ey];simp
      have h2:=WK.OJ fit.ok hy;have h3:=fit.no;unfold nats;rw[bt,eE];omega
     refine ⟨_,rfl,(s3.own fW) _ _ gP,T.iT,T.pO,rH _ _ _ _ _ _ _,_,rfl,aH,_,_,_,rfl,rfl,aD.of ((s3.own fW) _ _ jU),at_of (j:=n) (v:=V.ref c) rfl (by rw[gp,SS];rfl),(s3.own fW) _ _ oR,T.nP,T.xQ,yM _ _ _,?_⟩;have L7:d≠wa:=dw rM pk;refine ⟨_,bN h,done++[n],w',rfl,s3.own fW,by rw[bC L7];exact mj,by rw[aJ];unfold nats;simp,by rw[ey,SV];simp,rfl,?_⟩;rcases e6 with ⟨h6,h7⟩|⟨o',h6,h7⟩
     .exact .inl ⟨by unfold bN;rw[h6],h7⟩
     .exact .inr ⟨o',by unfold bN;rw[h6],h7⟩
   .rcases hq with ⟨rfl,rfl⟩|⟨o,rfl,_⟩
    .refine ⟨_,rfl,.inl ⟨rfl,_,aD.of CO⟩,wa,_,rfl,rfl,CO,?_⟩;refine ⟨_,rfl,?_⟩;refine k _ wa (s3.own fW) fW ?_;rw[aJ];have:y.2=done.reverse:=by simpa using ey
     show some (HO.lst (nats done).reverse)=some (HO.lst (nats y.2));rw[this];unfold nats;rw[List.map_reverse]
    .exfalso
     apply z2;rw[rh,decide_eq_false_iff_not];intro e;have:=V.int.inj e;omega
end WD
open Vasnpa (readFields readObjs readGraph goodGraph)
namespace WD
def i8(l:List Nat):List Int:=l.map fun n:Nat=>(n:Int)
theorem SW(n:Nat)(l:List Nat):i8 (n::l)=(n:Int)::i8 l:=rfl
theorem CP{α:Type}(one:uG α):∀(n:Nat)(r:List Int),rep one (n+1) r=match one r with|none=>none|some (a,r1)=>(rep one n r1).map fun p=>(a::p.1,p.2)
 |0,r=>by
  show (match one r with|none=>none|some (a,r2)=>some ([]++[a],r2))=_;cases one r with
  |none=>rfl
  |some p=>rfl
 |n+1,r=>by
  have ih:=CP one n r;have e:rep one (n+1+1) r=match rep one (n+1) r with|none=>none|some (l,r1)=>match one r1 with|none=>none|some (a,r2)=>some (l++[a],r2):=rfl
  rw[e,ih];cases U:one r with
  |none=>rfl
  |some p=>
   obtain ⟨a,r1⟩:=p;have e2:rep one (n+1) r1=match rep one n r1 with|none=>none|some (l,r2)=>match one r2 with|none=>none|some (b,r3)=>some (l++[b],r3):=rfl
   simp only;rw[e2];cases h2:rep one n r1 with
   |none=>rfl
   |some q=>
    obtain ⟨l,r2⟩:=q;simp only[DB];cases h3:one r2 with
    |none=>rfl
    |some u=>rfl
theorem uJ(m n:Nat)(r:List Nat):jT (m:Int) (i8 (n::r))=if n<=m then some ((n:Int),i8 r) else none:=by
 rw[SW,ER];by_cases h:n<=m
 .rw[if_pos h,if_pos ⟨by omega,by omega⟩]
 .rw[if_neg h,if_neg (fun z=>h (by omega))]
theorem SX(c n:Nat)(r:List Nat):jT ((c:Int)-1) (i8 (n::r))=if n<c then some ((n:Int),i8 r) else none:=by
 rw[SW,ER];by_cases h:n<c
 .rw[if_pos h,if_pos ⟨by omega,by omega⟩]
 .rw[if_neg h,if_neg (fun z=>h (by omega))]
def SY(c:Nat)(f:ja):Prop:=f.label<200/\f.to<c
theorem adx(c:Nat)(a b d:Nat)(r:List Nat):nz (c:Int) (i8 (a::b::d::r))=if a<=199/\b<=1/\d<c then some ({label:=a,weak:=b==1,to:=d},i8 r) else none:=by
 unfold nz;rw[show (199:Int)=((199:Nat):Int) from rfl,uJ];by_cases U:a<=199
 .rw[if_pos U];simp only;rw[show (1:Int)=((1:Nat):Int) from rfl,uJ];by_cases h2:b<=1
  .rw[if_pos h2];simp only;rw[show ((1:Nat):Int)=(1:Int) from rfl,SX];by_cases h3:d<c
   .rw[if_pos h3,if_pos ⟨U,h2,h3⟩];simp only[Jy];have:((b:Int)==((1:Nat):Int))=(b==1):=by
     rw[n4];simp;omega
    rw[show (((b:Nat):Int)==(1:Int))=(b==1) from this]
   .rw[if_neg h3,if_neg (fun z=>h3 z.2.2)]
  .rw[if_neg h2,if_neg (fun z=>h2 z.2.1)]
 .rw[if_neg U,if_neg (fun z=>U z.1)]
theorem ady(c:Nat)(r:List Nat)(h:r.length<3):nz (c:Int) (i8 r)=none:=by
 match r,h with
 | [],_=>rfl
 | [a],_=>
  unfold nz;rw[show (199:Int)=((199:Nat):Int) from rfl,uJ]
  split
  .rfl
  .rename_i h
   split at h
   .cases h;rfl
   .cases h
 | [a,b],_=>
  unfold nz;rw[show (199:Int)=((199:Nat):Int) from rfl,uJ]
  split
  .rfl
  .rename_i h
   split at h
   .cases h;rw[show (1:Int)=((1:Nat):Int) from rfl,uJ]
    split
    .rfl
    .rename_i h'
     split at h'
     .cases h';rfl
     .cases h'
   .cases h
theorem adz{c:Nat}:∀{n:Nat}{r:List Nat}{fs:List ja}{s:List Int},rep (nz (c:Int)) n (i8 r)=some (fs,s)->∃r',s=i8 r'/\readFields n r=some (fs,r')/\∀f∈fs,SY c f
 |0,r,fs,s,h=>by
  cases h;exact ⟨r,rfl,rfl,fun f hf=>by cases hf⟩
 |n+1,r,fs,s,h=>by
  rw[CP]at h
  match r,h with
  | [],h=>cases h
  | [a],h=>rw[ady c [a] (by simp)]at h;cases h
  | [a,b],h=>rw[ady c [a,b] (by simp)]at h;cases h
  |a::b::d::r,h=>
   rw[adx]at h;by_cases z:a<=199/\b<=1/\d<c
   .rw[if_pos z]at h;simp only at h;cases h2:rep (nz (c:Int)) n (i8 r) with
    |none=>rw[h2]at h;cases h
    |some q=>
     obtain ⟨pC,s'⟩:=q;rw[h2]at h;cases h;obtain ⟨r',e1,e2,e3⟩:=adz h2;refine ⟨r',e1,?_,?_⟩
     .show (if 1<b then none else (readFields n r).map fun q=>({label:=a,weak:=b==1,to:=d}::q.1,q.2))=_;rw[if_neg (by omega),e2];rfl
     .intro f hf;rcases f6.mp hf with rfl|hf
      .exact ⟨by show a<200;omega,z.2.2⟩
      .exact e3 f hf
   .rw[if_neg z]at h;cases h
theorem adA{c:Nat}:∀{n:Nat}{r r':List Nat}{fs:List ja},readFields n r=some (fs,r')->(∀f∈fs,SY c f)->rep (nz (c:Int)) n (i8 r)=some (fs,i8 r')
 |0,r,r',fs,h,_=>by
  cases h;rfl
 |n+1,r,r',fs,h,ok=>by
  match r,h with
  | [],h=>cases h
  | [a],h=>cases h
  | [a,b],h=>cases h
  |a::b::d::r,h=>
   have h:(if 1<b then none else (readFields n r).map fun q=>(({label:=a,weak:=b==1,to:=d}:ja)::q.1,q.2))=some (fs,r'):=h;by_cases z:1<b
   .rw[if_pos z]at h;cases h
   .rw[if_neg z]at h;cases h2:readFields n r with
    |none=>rw[h2]at h;cases h
    |some q=>
     obtain ⟨pC,s'⟩:=q;rw[h2]at h;cases h;have o1:=ok {label:=a,weak:=b==1,to:=d} (by simp);have o2:a<200:=o1.1;have o3:d<c:=o1.2;rw[CP,adx,if_pos ⟨by omega,by omega,o3⟩];simp only;rw[adA h2 fun f hf=>ok f (by simp[hf])];rfl
def HU(c:Nat)(x:lj):Prop:=x.kind<100/\x.size<=1000000/\x.fields.length<=12/\∀f∈x.fields,SY c f
theorem S0:∀{n:Nat}{r r':List Nat}{fs:List ja},readFields n r=some (fs,r')->fs.length=n
 |0,r,r',fs,h=>by cases h;rfl
 |n+1,r,r',fs,h=>by
  match r,h with
  | [],h=>cases h
  | [a],h=>cases h
  | [a,b],h=>cases h
  |a::b::d::r,h=>
   have h:(if 1<b then none else (readFields n r).map fun q=>(({label:=a,weak:=b==1,to:=d}:ja)::q.1,q.2))=some (fs,r'):=h;by_cases z:1<b
   .rw[if_pos z]at h;cases h
   .rw[if_neg z]at h;cases h2:readFields n r with
    |none=>rw[h2]at h;cases h
    |some q=>
     obtain ⟨pC,s'⟩:=q;rw[h2]at h;cases h;simp[S0 h2]
theorem adB(c k z m:Nat)(r:List Nat):nR (c:Int) (i8 (k::z::m::r))=if k<=99/\z<=1000000/\m<=12 then (rep (nz (c:Int)) m (i8 r)).map fun q=>({kind:=k,size:=z,fields:=q.1},q.2) else none:=by
 unfold nR;rw[show (99:Int)=((99:Nat):Int) from rfl,uJ];by_cases U:k<=99
 .rw[if_pos U];simp only;rw[show (1000000:Int)=((1000000:Nat):Int) from rfl,uJ];by_cases h2:z<=1000000
  .rw[if_pos h2];simp only;unfold wG;rw[show (12:Int)=((12:Nat):Int) from rfl,uJ];by_cases h3:m<=12
   .rw[if_pos h3,if_pos ⟨U,h2,h3⟩];simp only[Jy];cases rep (nz (c:Int)) m (i8 r) with
    |none=>rfl
    |some q=>rfl
   .rw[if_neg h3,if_neg (fun y=>h3 y.2.2)]
  .rw[if_neg h2,if_neg (fun y=>h2 y.2.1)]
 .rw[if_neg U,if_neg (fun y=>U y.1)]
theorem adC(c:Nat)(r:List Nat)(h:r.length<3):nR (c:Int) (i8 r)=none:=by
 match r,h with
 | [],_=>rfl
 | [a],_=>
  unfold nR;rw[show (99:Int)=((99:Nat):Int) from rfl,uJ]
  split
  .rfl
  .rename_i h
   split at h
   .cases h;rfl
   .cases h
 | [a,b],_=>
  unfold nR;rw[show (99:Int)=((99:Nat):Int) from rfl,uJ]
  split
  .rfl
  .rename_i h
   split at h
   .cases h;rw[show (1000000:Int)=((1000000:Nat):Int) from rfl,uJ]
    split
    .rfl
    .rename_i h'
     split at h'
     .cases h';rfl
     .cases h'
   .cases h
theorem adD{c:Nat}:∀{n:Nat}{r:List Nat}{os:List lj}{s:List Int},rep (nR (c:Int)) n (i8 r)=some (os,s)->∃r',s=i8 r'/\readObjs n r=some (os,r')/\∀x∈os,HU c x
 |0,r,os,s,h=>by
  cases h;exact ⟨r,rfl,rfl,fun f hf=>by cases hf⟩
 |n+1,r,os,s,h=>by
  rw[CP]at h
  match r,h with
  | [],h=>cases h
  | [a],h=>rw[adC c [a] (by simp)]at h;cases h
  | [a,b],h=>rw[adC c [a,b] (by simp)]at h;cases h
  |k::z::m::r,h=>
   rw[adB]at h;by_cases y:k<=99/\z<=1000000/\m<=12
   .rw[if_pos y]at h;cases h2:rep (nz (c:Int)) m (i8 r) with
    |none=>rw[h2]at h;cases h
    |some q=>
     obtain ⟨fs,s1⟩:=q;rw[h2]at h;obtain ⟨r1,e1,e2,e3⟩:=adz h2;subst e1;simp only[DB]at h;cases h3:rep (nR (c:Int)) n (i8 r1) with
     |none=>rw[h3]at h;cases h
     |some q2=>
      obtain ⟨B7,s'⟩:=q2;rw[h3]at h;cases h;obtain ⟨r',e4,e5,e6⟩:=adD h3;refine ⟨r',e4,?_,?_⟩
      .show (match readFields m r with|none=>none|some f=>(readObjs n f.2).map fun (q:List lj×List Nat)=>(({kind:=k,size:=z,fields:=f.1}:lj)::q.1,q.2))=_;rw[e2];simp only;rw[e5];rfl
      .intro x hx;rcases f6.mp hx with rfl|hx
       .refine ⟨by show k<100;omega,y.2.1,?_,e3⟩;show fs.length<=12;rw[S0 e2];exact y.2.2
       .exact e6 x hx
   .rw[if_neg y]at h;cases h
theorem adE{c:Nat}:∀{n:Nat}{r r':List Nat}{os:List lj},readObjs n r=some (os,r')->(∀x∈os,HU c x)->rep (nR (c:Int)) n (i8 r)=some (os,i8 r')
 |0,r,r',os,h,_=>by
  cases h;rfl
 |n+1,r,r',os,h,ok=>by
  match r,h with
  | [],h=>cases h
  | [a],h=>cases h
  | [a,b],h=>cases h
  |k::z::m::r,h=>
   have h:(match readFields m r with|none=>none|some f=>(readObjs n f.2).map fun (q:List lj×List Nat)=>(({kind:=k,size:=z,fields:=f.1}:lj)::q.1,q.2))=some (os,r'):=h;cases h2:readFields m r with
   |none=>rw[h2]at h;cases h
   |some q=>
    obtain ⟨fs,r1⟩:=q;rw[h2]at h;simp only at h;cases h3:readObjs n r1 with
    |none=>rw[h3]at h;cases h
    |some q2=>
     obtain ⟨B7,s'⟩:=q2;rw[h3]at h;cases h;obtain ⟨o1,o2,o3,o4⟩:=ok {kind:=k,size:=z,fields:=fs} (by simp);have o1:k<100:=o1;have o2:z<=1000000:=o2;have o3:fs.length<=12:=o3;rw[S0 h2]at o3;rw[CP,adB,if_pos ⟨by omega,o2,o3⟩,adA h2 o4];simp only[DB];rw[adE h3 fun x hx=>ok x (by simp[hx])];rfl
theorem adF{c:Nat}:∀{n:Nat}{r:List Nat}{rs:List Int}{s:List Int},rep (jT ((c:Int)-1)) n (i8 r)=some (rs,s)->∃q r',r=q++r'/\q.length=n/\rs=i8 q/\s=i8 r'/\∀x∈q,x<c
 |0,r,rs,s,h=>by
  cases h;exact ⟨[],r,rfl,rfl,rfl,rfl,fun x hx=>by cases hx⟩
 |n+1,r,rs,s,h=>by
  rw[CP]at h;cases r with
  |nil=>cases h
  |cons a r=>
   rw[SX]at h;by_cases z:a<c
   .rw[if_pos z]at h;simp only at h;cases h2:rep (jT ((c:Int)-1)) n (i8 r) with
    |none=>rw[h2]at h;cases h
    |some q=>
     obtain ⟨rs',s'⟩:=q;rw[h2]at h;cases h;obtain ⟨q,r',e1,e2,e3,e4,e5⟩:=adF h2;refine ⟨a::q,r',by rw[e1];rfl,by simp[e2],by rw[SW,e3],e4,?_⟩;intro x hx;rcases f6.mp hx with rfl|hx
     .exact z
     .exact e5 x hx
   .rw[if_neg z]at h;cases h
theorem adG{c:Nat}:∀(q r:List Nat),(∀x∈q,x<c)->rep (jT ((c:Int)-1)) q.length (i8 (q++r))=some (i8 q,i8 r)
 | [],r,_=>rfl
 |a::q,r,h=>by
  show rep (jT ((c:Int)-1)) (q.length+1) (i8 (a::(q++r)))=_;rw[CP,SX,if_pos (h a (by simp))];simp only;rw[adG q r fun x hx=>h x (by simp[hx])];rfl
theorem aqj(l:List Nat):(i8 l).map Int.toNat=l:=by
 unfold i8;rw[n9]
 conv=>rhs;rw[<-Wa l]
 apply yo;intro x _;simp
theorem adH{l:List Nat}:i8 l=[]↔l=[]:=by unfold i8;simp
theorem vv{g:bp}:kP g=true↔g.objs.length<=48/\g.roots.length<=16/\(g.objs.map fun x=>x.fields.length).sum<=160/\(∀x∈g.roots,x<g.objs.length)/\∀x∈g.objs,HU g.objs.length x:=by
 unfold kP;have es:∀l:List Nat,Vasnpa.sum l=l.sum:=by
  intro l;unfold Vasnpa.sum;have gen:∀(l:List Nat)(a:Nat),l.foldl (fun a b=>a+b) a=a+l.sum:=by
   intro l
   induction l with
   |nil=>intro a;simp
   |cons x r ih=>
    intro a;rw[kz,ih,yp];omega
  rw[gen];omega
 rw[es];simp only[jN,decide_eq_true_iff,tZ];constructor
 .rintro ⟨⟨⟨⟨U,h2⟩,h3⟩,h4⟩,h5⟩;refine ⟨U,h2,h3,h4,fun x hx=>?_⟩;obtain ⟨⟨⟨a1,a2⟩,a3⟩,a4⟩:=h5 x hx;exact ⟨a1,a2,a3,fun f hf=>⟨(a4 f hf).1,(a4 f hf).2⟩⟩
 .rintro ⟨U,h2,h3,h4,h5⟩;refine ⟨⟨⟨⟨U,h2⟩,h3⟩,h4⟩,fun x hx=>?_⟩;obtain ⟨a1,a2,a3,a4⟩:=h5 x hx;exact ⟨⟨⟨a1,a2⟩,a3⟩,fun f hf=>⟨(a4 f hf).1,(a4 f hf).2⟩⟩
theorem S1:∀{n:Nat}{r r':List Nat}{os:List lj},readObjs n r=some (os,r')->os.length=n
 |0,r,r',os,h=>by cases h;rfl
 |n+1,r,r',os,h=>by
  match r,h with
  | [],h=>cases h
  | [a],h=>cases h
  | [a,b],h=>cases h
  |k::z::m::r,h=>
   have h:(match readFields m r with|none=>none|some f=>(readObjs n f.2).map fun (q:List lj×List Nat)=>(({kind:=k,size:=z,fields:=f.1}:lj)::q.1,q.2))=some (os,r'):=h;cases h2:readFields m r with
   |none=>rw[h2]at h;cases h
   |some q=>
    rw[h2]at h;simp only at h;cases h3:readObjs n q.2 with
    |none=>rw[h3]at h;cases h
    |some q2=>
     obtain ⟨B7,s'⟩:=q2;rw[h3]at h;cases h;simp[S1 h3]
theorem aqk(l:List Nat):sE (i8 l)=readGraph l:=by
 cases l with
 |nil=>rfl
 |cons n r=>
  have hr:readGraph (n::r)=if 48<n then none else match readObjs n r with|some (x,m::q)=>if q.length==m&&kP {objs:=x,roots:=q} then some {objs:=x,roots:=q} else none|_=>none:=rfl
  unfold sE;rw[show (48:Int)=((48:Nat):Int) from rfl,uJ,hr];by_cases U:n<=48
  .rw[if_pos U,if_neg (by omega)];simp only[Jy];cases h2:rep (nR (n:Int)) n (i8 r) with
   |some p=>
    obtain ⟨os,s⟩:=p;obtain ⟨r2,rfl,e2,e3⟩:=adD h2;rw[e2];show pEnd (n:Int) os (i8 r2)=_;unfold pEnd uH;cases r2 with
    |nil=>rfl
    |cons m q=>
     rw[show (16:Int)=((16:Nat):Int) from rfl,uJ];have lo:=S1 e2;by_cases h3:m<=16
     .rw[if_pos h3];simp only[Jy];cases h4:rep (jT ((n:Int)-1)) m (i8 q) with
      |some p=>
       obtain ⟨rs,s⟩:=p;obtain ⟨q1,q2,e4,e5,e6,e7,e8⟩:=adF h4;subst e6 e7;simp only;rw[aqj];by_cases h5:i8 q2=[]/\(os.map fun x=>x.fields.length).sum<=160
       .rw[if_pos h5];have eq:q=q1:=by rw[e4,adH.mp h5.1,nZ]
        subst eq;rw[if_pos];rw[jN,vv];refine ⟨by simp[e5],by show os.length<=48;omega,by show q.length<=16;omega,h5.2,by show ∀x∈q,x<os.length;rw[lo];exact e8,by show ∀x∈os,HU os.length x;rw[lo];exact e3⟩
       .rw[if_neg h5,if_neg];rw[jN,vv];rintro ⟨y1,y2,y3,y4,y5,y6⟩;apply h5;refine ⟨adH.mpr ?_,y4⟩;have y1:q.length=m:=by simpa using y1
        have:=congrArg List.length e4;rw[gR]at this;exact Jm.mp (by omega)
      |none=>
       simp only;rw[if_neg];rw[jN,vv];rintro ⟨y1,y2,y3,y4,y5,y6⟩;have y1:q.length=m:=by simpa using y1
       have y5:∀x∈q,x<os.length:=y5;have:=adG (c:=n) q [] (by rw[<-lo];exact y5);rw[nZ,y1,h4]at this;cases this
     .rw[if_neg h3];simp only;rw[if_neg];rw[jN,vv];rintro ⟨y1,y2,y3,y4,y5,y6⟩;have y1:q.length=m:=by simpa using y1
      have y3:q.length<=16:=y3;omega
   |none=>
    show Sf (n:Int) none=_;cases h3:readObjs n r with
    |none=>rfl
    |some p=>
     obtain ⟨os,r2⟩:=p;have lo:=S1 h3;cases r2 with
     |nil=>rfl
     |cons m q=>
      show none=if (q.length==m&&kP {objs:=os,roots:=q})=true then some ({objs:=os,roots:=q}:bp) else none
      rw[if_neg];rw[jN,vv];rintro ⟨y1,y2,y3,y4,y5,y6⟩;have y6:∀x∈os,HU os.length x:=y6;have:=adE (c:=n) h3 (by rw[<-lo];exact y6);rw[h2]at this;cases this
  .rw[if_neg U,if_pos (by omega)]
theorem zi{m n:Int}{r r':List Int}(h:jT m r=some (n,r')):∃q,r=q++r'/\∀x∈q,0<=x:=by
 cases r with
 |nil=>cases h
 |cons a t=>
  rw[ER]at h;by_cases z:0<=a/\a<=m
  .rw[if_pos z]at h;cases h;exact ⟨[n],rfl,fun x hx=>by simp at hx;subst hx;exact z.1⟩
  .rw[if_neg z]at h;cases h
theorem zj{r r1 r2:List Int}(a:∃q,r=q++r1/\∀x∈q,0<=x)(b:∃q,r1=q++r2/\∀x∈q,0<=x):∃q,r=q++r2/\∀x∈q,0<=x:=by
 obtain ⟨q1,e1,U⟩:=a;obtain ⟨q2,e2,h2⟩:=b;refine ⟨q1++q2,by rw[e1,e2,uS],fun x hx=>?_⟩;rcases kN.mp hx with z|z
 .exact U x z
 .exact h2 x z
theorem L8{α:Type}{one:uG α}(U:∀{r a r'},one r=some (a,r')->∃q,r=q++r'/\∀x∈q,0<=x):∀{n:Nat}{r:List Int}{l:List α}{r':List Int},rep one n r=some (l,r')->∃q,r=q++r'/\∀x∈q,0<=x
 |0,r,l,r',h=>by
  cases h;exact ⟨[],rfl,fun x hx=>by cases hx⟩
 |n+1,r,l,r',h=>by
  unfold rep at h
  split at h
  .cases h
  .rename_i l1 r1 e1
   split at h
   .cases h
   .rename_i a r2 e2;cases h;exact zj (L8 U e1) (U e2)
theorem aql{c:Int}{r:List Int}{f:ja}{r':List Int}(h:nz c r=some (f,r')):∃q,r=q++r'/\∀x∈q,0<=x:=by
 unfold nz at h
 split at h
 .cases h
 .rename_i e1
  split at h
  .cases h
  .rename_i e2
   split at h
   .cases h
   .rename_i e3;cases h;exact zj (zi e1) (zj (zi e2) (zi e3))
theorem aqm{c:Int}{r:List Int}{f:List ja}{r':List Int}(h:wG c r=some (f,r')):∃q,r=q++r'/\∀x∈q,0<=x:=by
 unfold wG at h
 split at h
 .cases h
 .rename_i e1;exact zj (zi e1) (L8 (fun z=>aql z) h)
theorem aqn{c:Int}{r:List Int}{f:lj}{r':List Int}(h:nR c r=some (f,r')):∃q,r=q++r'/\∀x∈q,0<=x:=by
 unfold nR at h
 split at h
 .cases h
 .rename_i e1
  split at h
  .cases h
  .rename_i e2
   split at h
   .cases h
   .rename_i e3;cases h;exact zj (zi e1) (zj (zi e2) (aqm e3))
theorem aqo{r:List Int}{g:bp}(h:sE r=some g):∀x∈r,0<=x:=by
 unfold sE at h
 split at h
 .cases h
 .rename_i n r1 e1;cases e2:rep (nR n) n.toNat r1 with
  |none=>rw[e2]at h;cases h
  |some p=>
   obtain ⟨os,r2⟩:=p;rw[e2]at h;have h:pEnd n os r2=some g:=h;unfold pEnd at h
   split at h
   .cases h
   .rename_i rs r3 e3
    split at h
    .rename_i z;unfold uH at e3
     split at e3
     .cases e3
     .rename_i e4;have p1:=zj (zi e1) (zj (L8 (fun z=>aqn z) e2) (zj (zi e4) (L8 (fun z=>zi z) e3)));obtain ⟨q,e,hq⟩:=p1;rw[e,z.1,nZ];exact hq
    .cases h
theorem aqp(r:List Int):sE r=if r.any (fun n=>decide (n<0)) then none else readGraph (Vasnpb.toNats r):=by
 by_cases z:r.any (fun n=>decide (n<0))=true
 .rw[if_pos z];cases h:sE r with
  |none=>rfl
  |some g=>
   obtain ⟨x,hx,hn⟩:=sY.mp z;have:=aqo h x hx;have:=of_decide_eq_true hn;omega
 .rw[if_neg z,<-aqk];congr 1;unfold i8 Vasnpb.toNats;rw[n9]
  conv=>lhs;rw[<-Wa r]
  apply yo;intro x hx;have:¬x<0:=fun y=>z (sY.mpr ⟨x,hx,decide_eq_true y⟩);show x=((x.toNat:Nat):Int);omega
theorem aqq{l:List Nat}{g:bp}(h:readGraph l=some g):kP g=true:=by
 cases l with
 |nil=>cases h
 |cons n r=>
  have hr:readGraph (n::r)=if 48<n then none else match readObjs n r with|some (x,m::q)=>if q.length==m&&kP {objs:=x,roots:=q} then some {objs:=x,roots:=q} else none|_=>none:=rfl
  rw[hr]at h
  split at h
  .cases h
  .split at h
   .split at h
    .rename_i z;cases h;exact (jN _ _▸z).2
    .cases h
   .cases h
end WD
open Vasnpb (toInts)
namespace WD
theorem wJ(l:List Nat):nats l=(toInts l).map V.int:=by
 unfold nats toInts;rw[n9];rfl
theorem nA{g:bp}(h:kP g=true):pj g:=by
 obtain ⟨U,h2,h3,h4,h5⟩:=vv.mp h;have key:∀x∈bh g,x.to<g.objs.length/\∀o,x.src=some o->o<g.objs.length:=by
  intro x hx;rw[AX,EG]at hx;rcases kN.mp hx with z|z
  .obtain ⟨r,hr,rfl⟩:=js.mp z;refine ⟨h4 r.1 ?_,fun o ho=>by cases ho⟩;exact iy (pz.mp hr)
  .obtain ⟨y,hy,z⟩:=NO.mp z;obtain ⟨f,hf,z⟩:=Ds.mp z;have hi:=pz.mp hy;rw[gp]at hi;cases e:g.objs[y.2]? with
   |none=>rw[e]at hi;cases hi
   |some ob=>
    rw[e]at hi;have ey:ob.fields=y.1:=gE hi;have eU:=(gq.mp e).1;have ho:=h5 ob (iy e);have hfm:f.1∈ob.fields:=by rw[ey];exact iy (pz.mp hf)
    unfold oK at z
    split at z
    .cases z
    .cases z;refine ⟨(ho.2.2.2 f.1 hfm).2,fun o hs=>?_⟩;cases hs;exact eU
 refine ⟨⟨fun x hx=>(key x hx).1,fun x hx=>(key x hx).2⟩,U,?_⟩;rw[AX];have:=Sk g.roots (g.objs.map (·.fields));rw[n9]at this;have e:(g.objs.map (List.length ∘ fun x=>x.fields)).sum=(g.objs.map fun x=>x.fields.length).sum:=rfl;rw[e]at this;omega
structure uK(g:bp)(past:List bp):Prop where
 now:kP g=true
 old:∀x∈past,kP x=true
 len:past.length<=16
def xZ(H:Hp)(a:Addr)(cS:List (List Int)):Prop:=∃bs:List Addr,H a=some (.lst (bs.map V.ref))/\Paired (fun b l=>H b=some (.lst (l.map V.int))) bs cS
theorem xZ.same{H H':Hp}{a:Addr}{l:List (List Int)}(h:xZ H a l)(s:aC H H'):xZ H' a l:=let ⟨bs,e,p⟩:=h;⟨bs,s _ _ e,gX p fun _ _ q=>s _ _ q⟩
def sJ(t:fZ)(C:List Int->List (List Int)->DC->Prop):Sp:=fun vs H Q _=>∃p aN aL g past ns cS c,vs=[.ref p,.ref aN,.ref aL]/\mq t H p g past/\uK g past/\H aN=some (.lst (ns.map V.int))/\xZ H aL cS/\
 (∀l∈cS,l.length<=1000)/\ns.length<=10/\C ns cS c/\∀H' r,bY p H H'->H r=none->mq t H' p (lp ⟨g,past⟩ c).1.graph (lp ⟨g,past⟩ c).1.past->H' r=some (.lst ((lp ⟨g,past⟩ c).2.map V.int))->Q (.ref r) H'
def S2(K:cB):Sp:=fun vs H Q _=>∃(a:Addr)(xs:List Int)(b:Int),vs=[.ref a,.int b]/\aD K H a (xs.map V.int)/\xs.length<=2000/\∀H',aC H H'->Q (.bl (xs.all fun n=>decide (0<=n)&&decide (n<b))) H'
theorem aqs{f:Addr}{fd:dn}(F:eW K "all_below" "all_below" Li f fd)(T:Txt K mg t):c8 P w K mg base bJ 1 f fd Lj (S2 K):=by
 refine F.ok aag (fun vs H Q E h=>?_) (fun c6 A outer s H vs Q E hr h=>?_)
 .obtain ⟨a,xs,b,rfl,_⟩:=h;rfl
 .obtain ⟨a,xs,b,rfl,hS,hl,k⟩:=h;have nd:=aag.nd;refine ⟨_,cy (eN (jR (alh rfl) rfl T.all boot_all (ax (wm (own:=[("number",2)]) rfl nd (l0 (pv 0)) (sj (by show qQ aaf (da Li) _ _=true;decide +kernel))
   (fun s H C cl fp=>gG (i:=2) nd rfl (Or.inl rfl) (Or.inr rfl)) (fun s H C cl fp=>AB) (fun s H C cl fp=>aj4 aj0 Km gg (pv 2) (pv 1))) aO))),?_⟩
  try dsimp only[fQ,fS,fT,fV]
  refine ⟨_,rfl,a,rfl,⟨_,hS⟩,fun D hD=>?_⟩;refine wo (K:=K) (a:=a) (xs:=xs.map V.int) (fun j H'=>aC H H'/\H' D=some (.lst (((xs.take j).map fun n=>decide (0<=n)&&decide (n<b)).map V.bl))) ⟨aC.nw hD,aJ⟩ (fun j H' _ ⟨s5,_⟩=>s5.seq hS) ?_ ?_
  .rintro j x H' hx ⟨s5,iw⟩;rw[gp]at hx;cases e:xs[j]? with
   |none=>rw[e]at hx;cases hx
   |some n=>
    rw[e]at hx;have ex:V.int n=x:=gE hx;subst ex;have hj:=(gq.mp e).1;have fin:∀v:Bool,v=(decide (0<=n)&&decide (n<b))->∃acc,H' D=some (.lst acc)/\acc.length<cJ/\(aC H (upd H' D (.lst (acc++[V.bl v])))/\(upd H' D (.lst (acc++[V.bl v]))) D=some (.lst (((xs.take (j+1)).map fun n=>decide (0<=n)&&decide (n<b)).map V.bl))):=by
     intro v hv;refine ⟨_,iw,?_,s5.own hD,?_⟩
     .rw[bt,bt,mB,eE];omega
     .rw[aJ,take_snoc e,hv];simp
    refine ⟨rfl,_,rfl,_,_,rfl,rfl,_,rfl,?_⟩;refine jq (fun z=>?_) (fun z=>?_)
    .refine ⟨_,rfl,_,_,rfl,rfl,?_⟩;exact fin _ (by rw[z,agu])
    .refine fin _ ?_;have:decide (0<=n)=false:=by simpa using z
     rw[this,agS]
  .rintro H1 ⟨s5,iw⟩;have e:xs.take (xs.map V.int).length=xs:=by rw[bt,jY]
   rw[e]at iw;refine ⟨D,_,rfl,aD.of iw,?_⟩;have:=k H1 s5;have e2:(xs.map fun n=>decide (0<=n)&&decide (n<b)).all id=xs.all fun n=>decide (0<=n)&&decide (n<b):=by
    rw[VZ];rfl
   rw[e2];exact this
def nU(g:bp)(o:Int):Bool:=decide (0<=o)&&decide (o<(g.objs.length:Int))
def x8(g:bp)(o:Int):Bool:=decide (0<=o)&&decide (o<((bh g).length:Int))
def refusal(g:bp)(xs ys:List Int):Int:=if xs.all (nU g) then (if ys.all (x8 g) then 0 else -10) else -3
def CS(K:cB)(t:fZ):Sp:=fun vs H Q _=>∃ag ao ah g xs ys,vs=[.ref ag,.ref ao,.ref ah]/\i7 t H ag g/\aD K H ao (xs.map V.int)/\aD K H ah (ys.map V.int)/\xs.length<=2000/\ys.length<=2000/\
 ∀H',aC H H'->Q (.int (refusal g xs ys)) H'
theorem aqt{f fa:Addr}{fd zm:dn}(F:eW K "refusal_of" "refusal_of" Rh f fd)(T:Txt K mg t)(ca:eY P w K mg base bJ 1 "all_below" fa zm Lj (S2 K)):
  c8 P w K mg base bJ 2 f fd AN (CS K t):=by
 refine F.ok ant (fun vs H Q E h=>?_) (fun c6 A outer s H vs Q E hr h=>?_)
 .obtain ⟨ag,ao,ah,g,xs,ys,rfl,_⟩:=h;rfl
 .obtain ⟨ag,ao,ah,g,xs,ys,rfl,hg,hx,hy,lx,ly,k⟩:=h;refine ⟨_,bF (mQ (DW (tF (eB ca.G hr rfl ca.m ca.kp ca.b .nil di (ax (pv 1) (ax (jR l7 (by rfl) T.len lW (ax (cO (pv 0) rfl) aO)) aO))))) (cy (eN (gY T.abt))) mP)
   (bF (mQ (DW (tF (eB ca.G hr rfl ca.m ca.kp ca.b .nil di (ax (pv 2) (ax (jR l7 (by rfl) T.len lW (ax (cO (pv 0) rfl) aO)) aO))))) (cy (eN (gY T.aoE))) mP)
   (cy (eN (gY T.lN)))),?_⟩
  try dsimp only[fQ,fS,fT,fV]
  obtain ⟨dx,aK,aS,aF,aR,aH,aE,pR,gP,hK,_,_,_,hH,_⟩:=hg.ex;obtain ⟨jL,jU,kx⟩:=hH;refine ⟨_,rfl,_,rfl,gP,T.iT,T.AS,Cr _ _ _ _ _ _ _,aK,_,rfl,.inl (aD.of hK),ao,xs,_,rfl,hx,lx,?_⟩;intro H1 s1;refine ⟨_,rfl,?_⟩;have e1:(nats (g.objs.map (·.kind))).length=g.objs.length:=by unfold nats;rw[bt,bt]
  rw[e1];have e2:(jL.map V.ref).length=(bh g).length:=by rw[bt,kx.length]
  cases q1:xs.all (nU g) with
  |false=>
   have:(xs.all fun n=>decide (0<=n)&&decide (n<(g.objs.length:Int)))=false:=q1;rw[this];show Q (.int (-3)) H1;have:=k H1 s1;unfold refusal at this;rw[q1]at this;exact this
  |true=>
   have:(xs.all fun n=>decide (0<=n)&&decide (n<(g.objs.length:Int)))=true:=q1;rw[this];refine ⟨_,rfl,_,rfl,s1 _ _ gP,T.iT,T.pO,rH _ _ _ _ _ _ _,aH,_,rfl,.inl (aD.of (s1 _ _ jU)),ah,ys,_,rfl,s1.seq hy,ly,?_⟩;intro H2 s2;refine ⟨_,rfl,?_⟩;rw[e2];have fin:=k H2 (s1.trans s2);unfold refusal at fin;rw[q1]at fin;cases q2:ys.all (x8 g) with
   |false=>
    have:(ys.all fun n=>decide (0<=n)&&decide (n<((bh g).length:Int)))=false:=q2;rw[this];rw[q2]at fin;exact fin
   |true=>
    have:(ys.all fun n=>decide (0<=n)&&decide (n<((bh g).length:Int)))=true:=q2;rw[this];rw[q2]at fin;exact fin
theorem E5{g:bp}{xs ys:List Int}(h:refusal g xs ys=0):xs.all (nU g)=true/\ys.all (x8 g)=true:=by
 unfold refusal at h
 split at h
 .split at h
  .exact ⟨by assumption,by assumption⟩
  .cases h
 .cases h
theorem CT{xs:List Int}(h:∀x∈xs,0<=x):xs.map V.int=nats (Vasnpb.toNats xs):=by
 unfold nats Vasnpb.toNats;rw[n9];apply yo;intro x hx;have:=h x hx;show V.int x=V.int ((x.toNat:Nat):Int);congr 1;omega
theorem HW{g:bp}{xs:List Int}(h:xs.all (nU g)=true):∀x∈xs,0<=x:=fun x hx=>by
 have:=tZ.mp h x hx;unfold nU at this;rw[jN,decide_eq_true_iff]at this;exact this.1
theorem Ma{g:bp}{xs:List Int}(h:xs.all (x8 g)=true):∀x∈xs,0<=x:=fun x hx=>by
 have:=tZ.mp h x hx;unfold x8 at this;rw[jN,decide_eq_true_iff]at this;exact this.1
theorem aqv{f fl:Addr}{fd lO:dn}(F:eW K "answer_live" "answer_live" Rm f fd)(T:Txt K mg t)(cl:eY P w K mg base bJ 3 "live_objects" fl lO yL (A5 K t)):
  c8 P w K mg base bJ 4 f fd aao (sJ t fun _ _ c=>c=.live):=by
 refine F.ok anA (fun vs H Q E h=>?_) (fun c6 A outer s H vs Q E hr h=>?_)
 .obtain ⟨p,aN,aL,g,past,ns,cS,c,rfl,_⟩:=h;rfl
 .obtain ⟨p,aN,aL,g,past,ns,cS,c,rfl,hD,gs,hN,hL,ll,ln,rfl,k⟩:=h;refine ⟨_,cy (eN (o6 ve (dG (ax (gY T.lN) aO)) (eB cl.G hr rfl cl.m cl.kp cl.b .nil di (ax (cO (pv 0) rfl) (ax (dG aO) (ax (dG aO) aO)))))),?_⟩
  try dsimp only[fQ,fS,fT,fV]
  obtain ⟨dx,ag,ab,gM,hp,hg,hb,mJ⟩:=hD;refine ⟨(by show 1<=cJ;decide),fun l1 U=>?_⟩;have s1:=aC.nw (o:=.lst [V.int 0]) U;refine ⟨_,rfl,s1 _ _ hp,T.iI,T.jE,j9 _ _,dU _,fun l2 h2=>⟨dU _,fun l3 h3=>?_⟩⟩;have s2:=aC.nw (o:=.lst []) h2;have s3:=aC.nw (o:=.lst []) h3;have HS:=(s1.trans s2).trans s3;refine ⟨ag,l2,l3,g,[],[],rfl,⟨hg.same HS,nA gs.now,aD.of (s3 _ _ aJ),aD.of aJ,by simp,by simp⟩,?_⟩;intro H1 l4 s4 xY hv;have sA:=HS.trans s4;refine ⟨l1,l4,_,_,rfl,rfl,s4 _ _ (s3 _ _ (s2 _ _ aJ)),hv,?_,fun r eD=>?_⟩
  .have h5:=WK.zX (N:=g.objs.length) ((WK.DI g [] []).imp fun h=>kg h) (fun x hx=>((WK.tj (nA gs.now).ok).mp hx).lt (nA gs.now).ok);have:=(nA gs.now).no;unfold nats;rw[bt,eE];show 1+_<=_;omega
  .have sB:=sA.trans (aC.nw (o:=.lst ([V.int 0]++nats (alive g [] []))) eD);refine k _ r sB.but (sA.free eD) (mq.same ⟨dx,ag,ab,gM,hp,hg,hb,mJ⟩ sB) ?_;rw[aJ,wJ];rfl
end WD
open Vasnpb (toNats)
namespace WD
theorem zo{g:bp}(fit:pj g)(out cut:List Nat):(alive g out cut).length<=48:=by
 have h5:=WK.zX (N:=g.objs.length) ((WK.DI g out cut).imp fun h=>kg h) (fun x hx=>((WK.tj fit.ok).mp hx).lt fit.ok);have:=fit.no;omega
theorem A6{g:bp}(fit:pj g)(out cut:List Nat):(gone g out cut).length<=48:=by
 have U:(gone g out cut).length<=(alive g [] []).length:=mL _ _;have:=zo fit [] [];omega
theorem Mb(g:bp)(past:List bp)(xs ys:List Int)(f:List Nat->List Nat->Vasnpb.Answer):Vasnpb.onBoth ⟨g,past⟩ xs ys f=if refusal g xs ys=0 then f (toNats xs) (toNats ys) else [refusal g xs ys]:=by
 unfold Vasnpb.onBoth refusal;have e1:xs.all (Vasnpb.isObject ⟨g,past⟩)=xs.all (nU g):=rfl;have e2:ys.all (Vasnpb.isHold ⟨g,past⟩)=ys.all (x8 g):=rfl;rw[e1,e2];cases xs.all (nU g) with
 |false=>rfl
 |true=>
  cases ys.all (x8 g) with
  |false=>rfl
  |true=>rfl
theorem adI{H:Hp}{aL:Addr}{xs ys:List Int}(h:xZ H aL [xs,ys]):∃a b,H aL=some (.lst [V.ref a,V.ref b])/\H a=some (.lst (xs.map V.int))/\H b=some (.lst (ys.map V.int)):=by
 obtain ⟨bs,e,p⟩:=h;cases p with
 |cons r1 p=>
  cases p with
  |cons r2 p=>
   cases p;exact ⟨_,_,e,r1,r2⟩
theorem Mc{H:Hp}{aL:Addr}{xs:List Int}(h:xZ H aL [xs]):∃a,H aL=some (.lst [V.ref a])/\H a=some (.lst (xs.map V.int)):=by
 obtain ⟨bs,e,p⟩:=h;cases p with
 |cons r1 p=>
  cases p;exact ⟨_,e,r1⟩
theorem aqw{f fl fr:Addr}{fd lO oN:dn}(F:eW K "answer_without" "answer_without" Rn f fd)(T:Txt K mg t)(cl:eY P w K mg base bJ 3 "live_objects" fl lO yL (A5 K t))(cr:eY P w K mg base bJ 2 "refusal_of" fr oN AN (CS K t)):c8 P w K mg base bJ 4 f fd aap (sJ t fun _ cS c=>∃xs ys,cS=[xs,ys]/\c=.without xs ys):=by
 refine F.ok aaq (fun vs H Q E h=>?_) (fun c6 A outer s H vs Q E hr h=>?_)
 .obtain ⟨p,aN,aL,g,past,ns,cS,c,rfl,_⟩:=h;rfl
 .obtain ⟨p,aN,aL,g,past,ns,cS,c,rfl,hD,gs,hN,hL,ll,ln,⟨xs,ys,rfl,rfl⟩,k⟩:=h;have nd:=aaq.nd;have mY:dQ 2 _:=hr.mono (by decide);refine ⟨_,bF (dB (i:=3) nd rfl (Or.inl rfl) (eB cr.G mY rfl cr.m cr.kp cr.b .nil di (ax (cO (pv 0) rfl) (ax (gj ia (pv 2) gg (fun _ _=>rfl)) (ax (gj ia (pv 2) gg (fun _ _=>rfl)) aO)))))
   (bF (mQ (ng uu (pv 3) (gY T.lN) (mS _)) (cy (eN (dG (ax (pv 3) aO)))) mP)
   (cy (eN (o6 ve (dG (ax (gY T.lN) aO)) (eB cl.G hr rfl cl.m cl.kp cl.b .nil di (ax (cO (pv 0) rfl) (ax (gj ia (pv 2) gg (fun _ _=>rfl)) (ax (gj ia (pv 2) gg (fun _ _=>rfl)) aO)))))))),?_⟩
  try dsimp only[fQ,fS,fT,fV]
  obtain ⟨a1,a2,hL,U,h2⟩:=adI hL;have l1:=ll xs (by simp);have l2:=ll ys (by simp);have iE:=hD;obtain ⟨dx,ag,ab,gM,hp,hg,hb,mJ⟩:=hD;have mK:mf [V.ref a1,V.ref a2] 0=some (V.ref a1):=at_of (j:=0) rfl rfl;have CU:mf [V.ref a1,V.ref a2] 1=some (V.ref a2):=at_of (j:=1) rfl rfl;refine ⟨_,rfl,hp,T.iI,T.jE,j9 _ _,_,rfl,aL,_,_,_,rfl,rfl,aD.of hL,mK,_,rfl,aL,_,_,_,rfl,rfl,aD.of hL,CU,ag,a1,a2,g,xs,ys,rfl,hg,aD.of U,aD.of h2,by omega,by omega,?_⟩;intro H1 s1;have st:lp ⟨g,past⟩ (.without xs ys)=(⟨g,past⟩,if refusal g xs ys=0 then 0::toInts (alive g (toNats xs) (toNats ys)) else [refusal g xs ys]):=by
   show (_,Vasnpb.onBoth ⟨g,past⟩ xs ys _)=_;rw[Mb]
  rw[st]at k;refine ⟨_,rfl,rfl,_,rfl,?_⟩;by_cases z:refusal g xs ys=0
  .rw[if_pos z]at k;refine yJ (by rw[z]) ?_;obtain ⟨z1,z2⟩:=E5 z;refine ⟨(by show 1<=cJ;decide),fun q1 rN=>?_⟩;have s2:=s1.trans (aC.nw (o:=.lst [V.int 0]) rN);refine ⟨_,rfl,s2 _ _ hp,T.iI,T.jE,j9 _ _,_,rfl,aL,_,_,_,rfl,rfl,aD.of (s2 _ _ hL),mK,_,rfl,aL,_,_,_,rfl,rfl,aD.of (s2 _ _ hL),CU,?_⟩;refine ⟨ag,a1,a2,g,toNats xs,toNats ys,rfl,⟨hg.same s2,nA gs.now,?_,?_,?_,?_⟩,?_⟩
   .rw[<-CT (HW z1)];exact aD.of (s2 _ _ U)
   .rw[<-CT (Ma z2)];exact aD.of (s2 _ _ h2)
   .unfold toNats;rw[bt];exact l1
   .unfold toNats;rw[bt];exact l2
   intro H2 q2 s3 yy hv;have sA:=s2.trans s3;refine ⟨q1,q2,_,_,rfl,rfl,s3 _ _ aJ,hv,?_,fun r eD=>?_⟩
   .have h5:=zo (nA gs.now) (toNats xs) (toNats ys);unfold nats;rw[bt,eE];show 1+_<=_;omega
   .have sB:=sA.trans (aC.nw (o:=.lst ([V.int 0]++nats (alive g (toNats xs) (toNats ys)))) eD);refine k _ r sB.but (sA.free eD) (iE.same sB) ?_;rw[aJ,wJ];rfl
  .rw[if_neg z]at k;refine jq (fun _=>?_) (fun y=>absurd ?_ y)
   .refine ⟨_,rfl,(by show 1<=cJ;decide),fun r eD=>?_⟩;have sB:=s1.trans (aC.nw (o:=.lst [V.int (refusal g xs ys)]) eD);exact k _ r sB.but (s1.free eD) (iE.same sB) aJ
   .rw[rh,decide_eq_false_iff_not];intro e;exact z (V.int.inj e)
theorem aqx{f fw fr:Addr}{fd S3 oN:dn}(F:eW K "answer_around" "answer_around" Ro f fd)(T:Txt K mg t)(cw:eY P w K mg base bJ 3 "first_way" fw S3 QI (adv K t))(cr:eY P w K mg base bJ 2 "refusal_of" fr oN AN (CS K t)):c8 P w K mg base bJ 4 f fd aar (sJ t fun ns cS c=>∃x xs ys,ns=[x]/\cS=[xs,ys]/\c=.around x xs ys):=by
 refine F.ok aas (fun vs H Q E h=>?_) (fun c6 A outer s H vs Q E hr h=>?_)
 .obtain ⟨p,aN,aL,g,past,ns,cS,c,rfl,_⟩:=h;rfl
 .obtain ⟨p,aN,aL,g,past,ns,cS,c,rfl,hD,gs,hN,hL,ll,ln,⟨x,xs,ys,rfl,rfl,rfl⟩,k⟩:=h;have nd:=aas.nd;have mY:dQ 2 _:=hr.mono (by decide);refine ⟨_,bF (dB (i:=3) nd rfl (Or.inl rfl) (eB cr.G mY rfl cr.m cr.kp cr.b .nil di (ax (cO (pv 0) rfl) (ax (o6 ve (pv 1) (gj ia (pv 2) gg (fun _ _=>rfl))) (ax (gj ia (pv 2) gg (fun _ _=>rfl)) aO)))))
   (bF (mQ (ng uu (pv 3) (gY T.lN) (mS _)) (cy (eN (dG (ax (pv 3) aO)))) mP)
   (bF (dB (i:=4) nd rfl (Or.inl rfl) (eB cw.G hr rfl cw.m cw.kp cw.b .nil di (ax (cO (pv 0) rfl) (ax (gj ia (pv 1) gg (fun _ _=>rfl)) (ax (gj ia (pv 2) gg (fun _ _=>rfl)) (ax (gj ia (pv 2) gg (fun _ _=>rfl)) aO))))))
   (bF (mQ (ng Kl (jR l7 (by rfl) T.len lW (ax (pv 4) aO)) gg (mS _)) (cy (eN (dG (ax (gY T.aoC) aO)))) mP)
   (cy (eN (o6 ve (dG (ax (gY T.lN) aO)) (pv 4))))))),?_⟩
  try dsimp only[fQ,fS,fT,fV]
  obtain ⟨a1,a2,hL,U,h2⟩:=adI hL;have l1:=ll xs (by simp);have l2:=ll ys (by simp);have iE:=hD;obtain ⟨dx,ag,ab,gM,hp,hg,hb,mJ⟩:=hD;have fit:=nA gs.now;have mK:mf [V.ref a1,V.ref a2] 0=some (V.ref a1):=at_of (j:=0) rfl rfl;have CU:mf [V.ref a1,V.ref a2] 1=some (V.ref a2):=at_of (j:=1) rfl rfl;refine ⟨_,rfl,hp,T.iI,T.jE,j9 _ _,_,rfl,_,rfl,aL,_,_,_,rfl,rfl,aD.of hL,mK,aN,a1,_,_,rfl,rfl,hN,U,?_,fun q0 hq0=>?_⟩
  .simp only[bt,iz,zS];rw[eE];omega
  have s0:=aC.nw (o:=.lst ([x].map V.int++xs.map V.int)) hq0;refine ⟨_,rfl,aL,_,_,_,rfl,rfl,aD.of (s0 _ _ hL),CU,ag,q0,a2,g,x::xs,ys,rfl,hg.same s0,aD.of aJ,aD.of (s0 _ _ h2),by simp;omega,by omega,?_⟩;intro H1 CV;have s1:=s0.trans CV;have st:lp ⟨g,past⟩ (.around x xs ys)=(⟨g,past⟩,if refusal g (x::xs) ys=0 then (match Vasnpb.wayAround g (toNats xs) (toNats ys) x.toNat with|none=>[1]|some w=>0::toInts w) else [refusal g (x::xs) ys]):=by
   show (_,Vasnpb.onObject ⟨g,past⟩ x fun n=>Vasnpb.onBoth ⟨g,past⟩ xs ys _)=_;unfold Vasnpb.onObject;dsimp only;rw[Mb];have e1:Vasnpb.isObject ⟨g,past⟩ x=nU g x:=rfl;rw[e1];unfold refusal;rw[zN];cases nU g x with
   |false=>rfl
   |true=>rfl
  rw[st]at k;refine ⟨_,rfl,rfl,_,rfl,?_⟩;by_cases z:refusal g (x::xs) ys=0
  .rw[if_pos z]at k;refine yJ (by rw[z]) ?_;obtain ⟨z1,z2⟩:=E5 z;have zx:0<=x:=HW z1 x (by simp);have z1':∀y∈xs,0<=y:=fun y hy=>HW z1 y (by simp[hy]);have ex:((x.toNat:Nat):Int)=x:=by omega
   refine ⟨_,rfl,s1 _ _ hp,T.iI,T.jE,j9 _ _,_,rfl,aN,_,_,_,rfl,rfl,aD.of (s1 _ _ hN),at_of (j:=0) (v:=V.int x) rfl rfl,_,rfl,aL,_,_,_,rfl,rfl,aD.of (s1 _ _ hL),mK,_,rfl,aL,_,_,_,rfl,rfl,aD.of (s1 _ _ hL),CU,?_⟩;refine ⟨ag,a1,a2,g,toNats xs,toNats ys,x.toNat,by rw[ex];rfl,⟨hg.same s1,fit,?_,?_,?_,?_⟩,?_⟩
   .rw[<-CT z1'];exact aD.of (s1 _ _ U)
   .rw[<-CT (Ma z2)];exact aD.of (s1 _ _ h2)
   .unfold toNats;rw[bt];exact l1
   .unfold toNats;rw[bt];exact l2
   intro H2 q2 sL yy hv;have s2:=s1.trans sL;refine ⟨_,rfl,q2,_,rfl,.inl (aD.of hv),rfl,_,rfl,?_⟩;cases ew:Vasnpb.wayAround g (toNats xs) (toNats ys) x.toNat with
   |none=>
    rw[ew]at k hv;refine jq (fun _=>?_) (fun y=>absurd ?_ y)
    .refine ⟨(by show 1<=cJ;decide),fun r eD=>?_⟩;have sB:=s2.trans (aC.nw (o:=.lst [V.int 1]) eD);exact k _ r sB.but (s2.free eD) (iE.same sB) aJ
    .exact decide_eq_true rfl
   |some wy=>
    rw[ew]at k hv;rw[WK.JP]at ew;obtain ⟨y,hy,ey⟩:=VY.mp ew;have hym:=FN hy;have wl:=WK.OJ fit.ok hym;rw[ey]at wl;have:=fit.no;obtain ⟨w',n,_,e1,_⟩:=(WK.DN fit.ok (toNats xs) (toNats ys)).tr y hym;rw[ey]at e1;refine jq (fun y=>?_) (fun _=>?_)
    .have y':=V.int.inj (of_decide_eq_true y);rw[Wb]at y';unfold nats at y';rw[bt,e1]at y';simp at y';omega
    .refine ⟨(by show 1<=cJ;decide),fun q3 ra=>?_⟩;have s3:=aC.nw (o:=.lst [V.int 0]) ra;refine ⟨_,rfl,q3,q2,_,_,rfl,rfl,aJ,s3 _ _ hv,?_,fun r eD=>?_⟩
     .rw[Wb];unfold nats;rw[bt,eE];show 1+_<=_;omega
     .have sB:=(s2.trans s3).trans (aC.nw (o:=.lst ([V.int 0]++nats ((some wy).getD []))) eD);refine k _ r sB.but ((s2.trans s3).free eD) (iE.same sB) ?_;rw[aJ,Wb,wJ];rfl
  .rw[if_neg z]at k;refine jq (fun _=>?_) (fun y=>absurd ?_ y)
   .refine ⟨_,rfl,(by show 1<=cJ;decide),fun r eD=>?_⟩;have sB:=s1.trans (aC.nw (o:=.lst [V.int (refusal g (x::xs) ys)]) eD);exact k _ r sB.but (s1.free eD) (iE.same sB) aJ
   .rw[rh,decide_eq_false_iff_not];intro e;exact z (V.int.inj e)
theorem aqB{f fs:Addr}{fd zq:dn}(F:eW K "answer_undo" "answer_undo" RB f fd)(T:Txt K mg t)(cs:pP P w K mg base bJ 1 t.cD "step_back" fs zq QC (ade t)):
  c8 P w K mg base bJ 2 f fd aaQ (sJ t fun _ _ c=>c=.undo):=by
 refine F.ok anO (fun vs H Q E h=>?_) (fun c6 A outer s H vs Q E hr h=>?_)
 .obtain ⟨p,aN,aL,g,past,ns,cS,c,rfl,_⟩:=h;rfl
 .obtain ⟨p,aN,aL,g,past,ns,cS,c,rfl,hD,gs,hN,hL,ll,ln,rfl,k⟩:=h;refine ⟨_,bF (mQ (ng Kl (jR l7 (by rfl) T.len lW (ax (cO (pv 0) rfl) aO)) gg (mS _)) (cy (eN (dG (ax (gY T.aoF) aO)))) mP)
   (bF (jv (B8 (pv 0) T.iI cs.mt cs.G hr cs.b .nil di)) (cy (eN (dG (ax (gY T.lN) aO))))),?_⟩
  try dsimp only[fQ,fS,fT,fV]
  have iE:=hD;obtain ⟨dx,ag,ab,gM,hp,hg,hb,mJ⟩:=hD;have lg:=mJ.length;refine ⟨_,rfl,hp,T.iI,T.Cv,Lm _ _,ab,_,rfl,.inl (aD.of hb),rfl,_,rfl,?_⟩;cases past with
  |nil=>
   have e0:gM=[]:=Jm.mp (by simpa using lg);subst e0;refine jq (fun _=>?_) (fun y=>absurd (decide_eq_true rfl) y);refine ⟨(by show 1<=cJ;decide),fun r eD=>?_⟩;have sB:=aC.nw (o:=.lst [V.int (-11)]) eD;exact k _ r sB.but eD (iE.same sB) aJ
  |cons g1 past=>
   refine jq (fun y=>?_) (fun _=>?_)
   .have y':=V.int.inj (of_decide_eq_true y);rw[bt,lg]at y';simp at y';omega
   .refine ⟨_,rfl,p,dx,_,rfl,hp,RL _ _ (by decide +kernel) (by decide +kernel),p,g1,g,past,rfl,iE,?_⟩;intro H1 b1 x9;refine ⟨(by show 1<=cJ;decide),fun r eD=>?_⟩;have sB:=aC.nw (o:=.lst [V.int 0]) eD;have HY:H r=none:=xX b1 (by obtain ⟨_,_,_,_,e,_⟩:=x9;exact ⟨_,e⟩) eD;exact k _ r (b1.trans sB.but) HY (x9.same sB) aJ
theorem aqC{f fg fc:Addr}{fd Sa CW:dn}(F:eW K "answer_load" "answer_load" Rj f fd)(T:Txt K mg t)(cg:eY P w K mg base (qT (.ref t.cX) P w) 6 "read_graph" fg Sa Qq (acZ K t))(cc:pP P w K mg base bJ 1 t.cD "change" fc CW K7 (SI t)):c8 P w K mg base bJ 7 f fd aah (sJ t fun _ cS c=>∃xs,cS=[xs]/\c=.load xs):=by
 refine F.ok aai (fun vs H Q E h=>?_) (fun c6 A outer s H vs Q E hr h=>?_)
 .obtain ⟨p,aN,aL,g,past,ns,cS,c,rfl,_⟩:=h;rfl
 .obtain ⟨p,aN,aL,g,past,ns,cS,c,rfl,hD,gs,hN,hL,ll,ln,⟨xs,rfl,rfl⟩,k⟩:=h;have nd:=aai.nd;have ig:dQ 1 _:=hr.mono (by decide);refine ⟨_,bF (amF (i:=3) nd rfl (Or.inl rfl) cg.G hr rfl cg.m cg.kp cg.b (ax (gj ia (pv 2) gg (fun _ _=>rfl)) aO) T.LA rfl T.Lz (fun a=>cy (eN (dG (ax (gY T.aoG) aO)))) rfl rfl)
   (bF (jv (uw (pv 0) T.iI cc.mt cc.G ig cc.b .nil di (ax (pv 3) aO)))
   (cy (eN (dG (ax (gY T.lN) (ax (jR l7 (by rfl) T.len lW (ax (cO (pv 3) rfl) aO)) (ax (jR l7 (by rfl) T.len lW (ax (cO (pv 3) rfl) aO)) aO))))))),?_⟩
  try dsimp only[fQ,fS,fT,fV]
  obtain ⟨a1,hL,U⟩:=Mc hL;have iE:=hD;obtain ⟨dx,ag,ab,gM,hp,hg,hb,mJ⟩:=hD;have st:lp ⟨g,past⟩ (.load xs)=match sE xs with|none=>(⟨g,past⟩,[-12])|some g1=>(⟨g1,(g::past).take 16⟩,0::toInts [g1.objs.length,(bh g1).length]):=by
   show Vasnpb.loading ⟨g,past⟩ xs=_;unfold Vasnpb.loading;rw[aqp];by_cases z:xs.any (fun n=>decide (n<0))=true
   .rw[if_pos z,if_pos z]
   .rw[if_neg z,if_neg z];rfl
  rw[st]at k;refine ⟨_,rfl,aL,_,_,_,rfl,rfl,aD.of hL,at_of (j:=0) (v:=V.ref a1) rfl rfl,a1,xs,rfl,aD.of U,?_⟩;cases eg:sE xs with
  |none=>
   rw[eg]at k;intro H1 s1;refine ⟨(by show 1<=cJ;decide),fun r eD=>?_⟩;have sB:=s1.trans (aC.nw (o:=.lst [V.int (-12)]) eD);exact k _ r sB.but (s1.free eD) (iE.same sB) aJ
  |some g1=>
   rw[eg]at k;intro H1 an s1 han EX;refine ⟨_,rfl,p,dx,_,rfl,s1 _ _ hp,RL _ _ (by decide +kernel) (by decide +kernel),_,rfl,p,an,g1,g,past,rfl,iE.same s1,EX,by have:=gs.len;omega,?_⟩;intro H2 b2 nv;have aqE:=EX.but b2 (s1 _ _ hp) (by simp[kK]) (by simp[kK]);obtain ⟨dg,aK,aS,aF,aR,aH,aE,pR,gP,hK,_,_,_,hH,_⟩:=aqE.ex;obtain ⟨jL,jU,kx⟩:=hH;refine ⟨_,rfl,gP,T.iT,T.AS,Cr _ _ _ _ _ _ _,aK,_,rfl,.inl (aD.of hK),_,rfl,gP,T.iT,T.pO,rH _ _ _ _ _ _ _,aH,_,rfl,.inl (aD.of jU),(by show 3<=cJ;decide),fun r eD=>?_⟩;have e1:(nats (g1.objs.map (·.kind))).length=g1.objs.length:=by unfold nats;rw[bt,bt]
   have e2:(jL.map V.ref).length=(bh g1).length:=by rw[bt,kx.length]
   rw[e1,e2];have sB:=aC.nw (o:=.lst [V.int 0,V.int (g1.objs.length:Int),V.int ((bh g1).length:Int)]) eD;have bA:bY p H H2:=s1.but.trans b2;have HY:H r=none:=xX bA (by obtain ⟨_,_,_,_,e,_⟩:=nv;exact ⟨_,e⟩) eD;exact k _ r (bA.trans sB.but) HY (nv.same sB) aJ
theorem mq.aqF{H H':Hp}{p q C dx:Addr}{fs:List (Str×V)}{g:bp}{past:List bp}(h:mq t H p g past)(b:bY q H H')(hq:H q=some (.ins C dx fs))(h3:fs.length≠3)(h6:fs.length≠7)(ne:p≠q):mq t H' p g past:=by
 obtain ⟨d,ag,ab,gM,U,h2,h4,h5⟩:=h;exact ⟨d,ag,ab,gM,b _ _ U ne,h2.but b hq h3 h6,b _ _ h4 (oM h4 hq),gX h5 fun _ _ z=>z.but b hq h3 h6⟩
abbrev CY:List Str:=["desk","numbers","lists"]
theorem aqG{r x s:List Int}(h:PyFlat.row r=some (x,s)):∃n t,r=n::t/\0<=n/\n.toNat<=t.length/\x=t.take n.toNat/\s=t.drop n.toNat:=by
 cases r with
 |nil=>cases h
 |cons n t=>
  have h:(if 0<=n/\n.toNat<=t.length then some (t.take n.toNat,t.drop n.toNat) else none)=some (x,s):=h;by_cases z:0<=n/\n.toNat<=t.length
  .rw[if_pos z]at h;cases h;exact ⟨n,t,rfl,z.1,z.2,rfl,rfl⟩
  .rw[if_neg z]at h;cases h
theorem qt{c:Prop}[Decidable c]{x:Nat×Nat}{y:Option (Nat×Nat)}{m k:Nat}(hx:x.1<=2/\x.2<=2)(hy:y=some (m,k)->m<=2/\k<=2)(h:(if c then some x else y)=some (m,k)):m<=2/\k<=2:=by
 by_cases z:c
 .rw[if_pos z]at h;cases h;exact hx
 .rw[if_neg z]at h;exact hy h
theorem aqH{n:Int}{a b:Nat}(h:uV n=some (a,b)):a<=2/\b<=2:=
 (fun h=>qt (by decide) (fun h=>qt (by decide) (fun h=>qt (by decide) (fun h=>qt (by decide) (fun h=>qt (by decide) (fun h=>qt (by decide) (fun h=>qt (by decide) (fun h=>qt (by decide) (fun h=>qt (by decide) (fun h=>qt (by decide) (fun h=>qt (by decide) (fun h=>qt (by decide) (fun h=>qt (by decide) (fun h=>qt (by decide) (fun h=>qt (by decide) (fun h=>qt (by decide) (fun h=>qt (by decide) (fun h=>qt (by decide) (fun h=>by cases h) h) h) h) h) h) h) h) h) h) h) h) h) h) h) h) h) h) h) h
structure yb(H:Hp)(z:Addr):Prop where
 l:∀xs,H z≠some (.lst xs)
 i:∀C dx fs,H z≠some (.ins C dx fs)
theorem yb.nl{H:Hp}{z c:Addr}{xs:List V}(d:yb H z)(h:H c=some (.lst xs)):c≠z:=fun e=>d.l xs (e▸h)
theorem yb.ni{H:Hp}{z c C dx:Addr}{fs:List (Str×V)}(d:yb H z)(h:H c=some (.ins C dx fs)):c≠z:=fun e=>d.i C dx fs (e▸h)
theorem ma.tU{H H':Hp}{z a:Addr}{hs:List Hold}(h:ma t H a hs)(b:bY z H H')(d:yb H z):ma t H' a hs:=by
 obtain ⟨cs,e,pr⟩:=h;refine ⟨cs,b _ _ e (d.nl e),gX pr ?_⟩;rintro c h ⟨dx,q⟩;exact ⟨dx,b _ _ q (d.ni q)⟩
theorem k6.tU{H H':Hp}{z a:Addr}{hs:List ja}(h:k6 t H a hs)(b:bY z H H')(d:yb H z):k6 t H' a hs:=by
 obtain ⟨cs,e,pr⟩:=h;refine ⟨cs,b _ _ e (d.nl e),gX pr ?_⟩;rintro c h ⟨dx,q⟩;exact ⟨dx,b _ _ q (d.ni q)⟩
theorem FieldsAt.tU{H H':Hp}{z a:Addr}{hs:List (List ja)}(h:FieldsAt t H a hs)(b:bY z H H')(d:yb H z):FieldsAt t H' a hs:=by
 obtain ⟨cs,e,pr⟩:=h;exact ⟨cs,b _ _ e (d.nl e),gX pr fun _ _ q=>q.tU b d⟩
theorem HeldAt.tU{H H':Hp}{z a:Addr}{hs:List (List Nat)}(h:HeldAt H a hs)(b:bY z H H')(d:yb H z):HeldAt H' a hs:=by
 obtain ⟨cs,e,pr⟩:=h;exact ⟨cs,b _ _ e (d.nl e),gX pr fun _ _ q=>b _ _ q (d.nl q)⟩
theorem i7.tU{H H':Hp}{z q:Addr}{g:bp}(h:i7 t H q g)(b:bY z H H')(d:yb H z):i7 t H' q g:=by
 obtain ⟨dx,aK,aS,aF,aR,aH,aE,aL,U,h2,h4,h5,h7,h8,h9,CL⟩:=h.ex;exact ⟨dx,aK,aS,aF,aR,aH,aE,aL,b _ _ U (d.ni U),b _ _ h2 (d.nl h2),b _ _ h4 (d.nl h4),h5.tU b d,b _ _ h7 (d.nl h7),h8.tU b d,h9.tU b d,CL.tU b d⟩
theorem mq.tU{H H':Hp}{z p:Addr}{g:bp}{past:List bp}(h:mq t H p g past)(b:bY z H H')(d:yb H z):mq t H' p g past:=by
 obtain ⟨dx,ag,ab,gM,U,h2,h4,h5⟩:=h;exact ⟨dx,ag,ab,gM,b _ _ U (d.ni U),h2.tU b d,b _ _ h4 (d.nl h4),gX h5 fun _ _ q=>q.tU b d⟩
def adL:Prop:=∀(g:bp)(past:List bp)(call:List (List Int))(c:DC),uK g past->VasnpbNeutral.asked1 call=true->m6 call=some c->
 uK (lp ⟨g,past⟩ c).1.graph (lp ⟨g,past⟩ c).1.past/\(lp ⟨g,past⟩ c).2.length<=100000
theorem al1{a:Bool}{u:List Int}(h:(a&&decide (u.length<=1000))=true):∀l∈[u],l.length<=1000:=by simp_all
theorem al2{a b:Bool}{u v:List Int}(h:(a&&(decide (u.length<=1000)&&(b&&decide (v.length<=1000))))=true):∀l∈[u,v],l.length<=1000:=by simp_all
theorem al3{w a b:Bool}{u v:List Int}(h:(w&&(a&&(decide (u.length<=1000)&&(b&&decide (v.length<=1000)))))=true):∀l∈[u,v],l.length<=1000:=by simp_all
def S4(c:List (List Int)):Prop:=(∃k,m6 c=some k)/\∀l∈c.tail,l.length<=1000
theorem Ia{c:List (List Int)}(h:false=true):S4 c:=nomatch h
theorem Md{c:List (List Int)}{k:DC}(h:m6 c=some k)(t:∀l∈c.tail,l.length<=1000):S4 c:=⟨⟨k,h⟩,t⟩
theorem aqL:∀l∈([]:List (List Int)),l.length<=1000:=fun _ h=>nomatch h
theorem aqM{c:List (List Int)}(h:VasnpbNeutral.asked1 c=true):S4 c:=by
 rcases c with _|⟨_|⟨n|n,ns⟩,rs⟩
 .exact Ia h
 .exact Ia h
 .iterate 18 (rcases n with _|n;· rcases ns with _|⟨x,_|⟨y,_|⟨z,ns⟩⟩⟩<;>rcases rs with _|⟨u,_|⟨v,_|⟨d,l⟩⟩⟩<;>first|exact Ia h|exact Md rfl aqL|exact Md rfl (al1 h)|exact Md rfl (al2 h)|exact Md rfl (al3 h))
  exact Ia h
 .exact Ia h
theorem aqN(c:List (List Int)):PyVasnpb.whole c=c:=by
 rcases c with _|⟨_|⟨n|n,ns⟩,rs⟩
 .rfl
 .rfl
 .iterate 18 (rcases n with _|n;· rcases ns with _|⟨x,_|⟨y,_|⟨z,ns⟩⟩⟩<;>rcases rs with _|⟨u,_|⟨v,_|⟨d,l⟩⟩⟩<;>rfl)
  rfl
 .rfl
end WD
open Vasnpa (flatGraph)
namespace WD
open Vasnpb
theorem Me(l:List Nat):(toInts l).length=l.length:=by unfold toInts;rw[bt]
theorem uL{α β:Type}(f:α->List β)(b:Nat):∀l:List α,(∀x∈l,(f x).length<=b)->(l.flatMap f).length<=l.length*b
 | [],_=>by simp
 |x::l,h=>by
  rw[JD,gR,iz];have U:=h x (by simp);have h2:=uL f b l (fun y hy=>h y (by simp[hy]));rw[Nat.add_mul];omega
theorem Ib{g:bp}(h:kP g=true):(bh g).length<=176:=by
 obtain ⟨U,h2,h3,h4,h5⟩:=vv.mp h;rw[AX];have:=Sk g.roots (g.objs.map (·.fields));rw[n9]at this;have e:(g.objs.map (List.length ∘ fun x=>x.fields)).sum=(g.objs.map fun x=>x.fields.length).sum:=rfl;rw[e]at this;omega
theorem S5{g:bp}(h:kP g=true):g.objs.length<=48:=(vv.mp h).1
theorem Mf(s:State)(o:Int)(f:Nat->Answer){b:Nat}(hb:1<=b)(h:∀n,(f n).length<=b):(onObject s o f).length<=b:=by
 unfold onObject
 split
 .exact h _
 .exact hb
theorem S6(s:State)(o:Int)(f:Nat->Answer){b:Nat}(hb:1<=b)(h:∀n,(f n).length<=b):(onLive s o f).length<=b:=by
 unfold onLive;refine Mf s o _ hb fun n=>?_
 split
 .exact h _
 .exact hb
theorem Mg(s:State)(x y:List Int)(f:List Nat->List Nat->Answer){b:Nat}(hb:1<=b)(h:∀n m,(f n m).length<=b):(onBoth s x y f).length<=b:=by
 unfold onBoth
 split
 .exact hb
 .split
  .exact hb
  .exact h _ _
theorem adM(x:Nat):∀(n p:Nat)(hs:List (Hold×Nat)),(walk x n p hs).1.length<=n/\(walk x n p hs).2.length<=hs.length
 |0,p,hs=>⟨dR _,dR _⟩
 |n+1,p,hs=>by
  unfold walk
  split
  .exact ⟨dU _,dR _⟩
  .split
   .exact ⟨dU _,dR _⟩
   .rename_i h _;have ih:=adM x n (dD h.1) (hs.filter fun k=>k.2 !=h.2);have:=mL (fun k:Hold×Nat=>k.2 !=h.2) hs;refine ⟨?_,?_⟩
    .simp only[iz];omega
    .simp only;omega
theorem adN(x b:Nat):∀(n:Nat)(hs:List (Hold×Nat)),hs.length<=b->(waysIn x n hs).length<=n/\∀w∈waysIn x n hs,w.length<=b+1
 |0,hs,_=>⟨dR _,fun w hw=>by cases hw⟩
 |n+1,hs,hb=>by
  unfold waysIn
  split
  .have U:=adM x (hs.length+1) 0 hs;have ih:=adN x b n (walk x (hs.length+1) 0 hs).2 (by omega);refine ⟨by simp only[iz];omega,fun w hw=>?_⟩;rcases f6.mp hw with rfl|hw
   .omega
   .exact ih.2 w hw
  .exact ⟨dU _,fun w hw=>by cases hw⟩
theorem adO(g:bp):∀(l:List (Hold×Nat))(a:Left),(l.foldl (letGo g) a).1.length<=a.1.length
 | [],a=>dR _
 |h::l,a=>by
  rw[kz];have ih:=adO g l (letGo g a h);have e:(letGo g a h).1.length<=a.1.length:=by
   have:=mL (fun k:Hold×Nat=>k.2 !=h.2) a.1;unfold Vasnpb.letGo;dsimp only
   split
   .exact this
   .split
    .exact this
    .exact dR _
  omega
theorem adP(g:bp)(x:Nat):(needed g x).length<=(bh g).length:=by
 have:=adO g (bh g).zipIdx ((bh g).zipIdx,greatest g x);have e:((bh g).zipIdx).length=(bh g).length:=yt;have h2:(((bh g).zipIdx,greatest g x):Left).1.length=(bh g).length:=e;rw[h2]at this;exact this
theorem aqO(l:List (List Nat))(h:l.length<=177)(h2:∀w∈l,w.length<=177):(l.flatMap fun w=>w.length::w).length<=40000:=by
 have h4:=uL (fun w:List Nat=>w.length::w) 178 l (fun w hw=>by
  have:=h2 w hw;rw[iz];omega)
 have:l.length*178<=177*178:=DD _ h;omega
theorem adQ{g:bp}(h:kP g=true)(x:Nat):(ow g x).length<=177/\((ow g x).flatMap fun w=>w.length::w).length<=40000:=by
 have U:=adP g x;have h2:=Ib h;have h3:=adN x 176 ((needed g x).length+1) (needed g x) (by omega);have h5:(ow g x).length<=177:=gN h3.1 (by omega);exact ⟨h5,aqO _ h5 h3.2⟩
theorem aqP{β:Type}(f:Nat->List β)(l:List β)(n:Nat)(hl:l.length<=48)(hn:n<=48)(h:∀d,(f d).length<=l.length):((jO (n+1)).flatMap f).length<=3000:=by
 have h2:=uL f 48 (jO (n+1)) (fun d _=>gN (h d) hl);rw[xc]at h2;have:(n+1)*48<=49*48:=DD _ (by omega);omega
theorem aqQ{g:bp}(h:kP g=true)(t:List Mask)(y:Nat):(mz g t y).length<=48:=by
 have U:(mz g t y).length<=(objects g).length:=mL _ _;have e:(objects g).length=g.objs.length:=xc;have h2:=S5 h;rw[e]at U;exact gN U h2
theorem adR{g:bp}(h:kP g=true)(t:List Mask)(y:Nat):(chainIn g t y).length<=3000:=
 aqP (fun d=>(mz g t y).filter fun x=>qE g t x==d) (mz g t y) g.objs.length (aqQ h t y) (S5 h) (fun d=>mL _ _)
theorem S7{g:bp}(h:kP g=true):(flatGraph g).length<=5000:=by
 obtain ⟨U,h2,h3,h4,h5⟩:=vv.mp h;unfold flatGraph;have a:=uL (fun x:lj=>x.kind::x.size::x.fields.length::x.fields.flatMap fun f=>[f.label,Vasnpa.bit f.weak,f.to]) 39 g.objs (fun x hx=>by
  have:=uL (fun f:ja=>[f.label,Vasnpa.bit f.weak,f.to]) 3 x.fields (fun f _=>dR _);have h6:=(h5 x hx).2.2.1;simp only[iz];omega)
 have b:g.objs.length*39<=48*39:=DD _ U;simp only[iz,gR];omega
theorem S8{α:Type}(l:List α)(q:α×Nat->Bool):((l.zipIdx.filter q).map fun x=>x.1).Sublist l:=by
 have U:(l.zipIdx.filter q).Sublist l.zipIdx:=Jq;have h2:=U.map (fun x:α×Nat=>x.1);have e:(l.zipIdx.map fun x:α×Nat=>x.1)=l:=by
  have:=Wc 0 l;exact this
 rw[e]at h2;exact h2
theorem adS{g:bp}(h:kP g=true)(cut:List Nat):kP (released g cut)=true:=by
 obtain ⟨U,h2,h3,h4,h5⟩:=vv.mp h;have sR:(released g cut).roots.Sublist g.roots:=S8 g.roots _;have eL:(released g cut).objs.length=g.objs.length:=by
  unfold released;dsimp only;rw[bt,yt]
 have key:∀(l:List lj)(n:Nat)(q:Nat->ja×Nat->Bool),((l.zipIdx n).map fun x=>({x.1 with fields:=(x.1.fields.zipIdx.filter (q x.2)).map fun f=>f.1}:lj).fields.length).sum<=(l.map fun x=>x.fields.length).sum:=by
  intro l
  induction l with
  |nil=>intro n q;exact dR _
  |cons a r ih=>
   intro n q;rw[Jr,jx,jx,yp,yp];have U:=ih (n+1) q;have h2:=(S8 a.fields (q n)).length_le;exact Nat.add_le_add h2 U
 refine vv.mpr ⟨by rw[eL];exact U,gN sR.length_le h2,?_,fun x hx=>by rw[eL];exact h4 x (sR.subset hx),?_⟩
 .refine gN ?_ h3;have e:((released g cut).objs.map fun x=>x.fields.length)=(g.objs.zipIdx.map fun x=>({x.1 with fields:=(x.1.fields.zipIdx.filter fun f=>!((((bh g).zipIdx.filter fun h=>cut.contains h.2).map fun h=>h.1).any fun h=>h.src==some x.2&&h.place==f.2)).map fun f=>f.1}:lj).fields.length):=by
   unfold released;dsimp only;rw[n9];rfl
  rw[e];exact key g.objs 0 (fun n f=>!((((bh g).zipIdx.filter fun h=>cut.contains h.2).map fun h=>h.1).any fun h=>h.src==some n&&h.place==f.2))
 .intro x hx;have hx:x∈(g.objs.zipIdx.map fun x=>({x.1 with fields:=(x.1.fields.zipIdx.filter fun f=>!((((bh g).zipIdx.filter fun h=>cut.contains h.2).map fun h=>h.1).any fun h=>h.src==some x.2&&h.place==f.2)).map fun f=>f.1}:lj)):=hx;obtain ⟨y,hy,rfl⟩:=js.mp hx;have hm:y.1∈g.objs:=iy (pz.mp hy);have ho:=h5 y.1 hm;have sf:=S8 y.1.fields (fun f=>!((((bh g).zipIdx.filter fun h=>cut.contains h.2).map fun h=>h.1).any fun h=>h.src==some y.2&&h.place==f.2));rw[eL];exact ⟨ho.1,ho.2.1,gN sf.length_le ho.2.2.1,fun f hf=>ho.2.2.2 f (sf.subset hf)⟩
theorem Ic{g:bp}(h:kP g=true)(a b:List Nat):(alive g a b).length<=48:=zo (nA h) a b
theorem adV{g:bp}(h:kP g=true)(a b:List Nat):(gone g a b).length<=48:=A6 (nA h) a b
theorem uK.change{g n:bp}{past:List bp}(s:uK g past)(h:kP n=true):uK n ((g::past).take 16):=by
 refine ⟨h,fun x hx=>?_,?_⟩
 .rcases f6.mp (List.mem_of_mem_take hx) with rfl|hx
  .exact s.now
  .exact s.old x hx
 .rw[mB];omega
theorem tL{n:Nat}{l:List Nat}(h:l.length<=n):((0:Int)::toInts l).length<=n+1:=by
 rw[iz,Me];omega
theorem aqR{g:bp}(h:kP g=true):(sizes g).length<=48:=by
 have:=(WK.Ot (nA h).ok).2.length_eq;rw[bt]at this;have:=Ic h [] [];omega
theorem aqS:adL:=by
 intro g past call c gs ask hc;have hg:=gs.now;have big:∀{n:Nat},n<=50000->n<=100000:=fun h=>gN h (by decide);cases c with
 |load row=>
  show uK (loading ⟨g,past⟩ row).1.graph (loading ⟨g,past⟩ row).1.past/\(loading ⟨g,past⟩ row).2.length<=100000;unfold loading
  split
  .exact ⟨gs,(by show 1<=100000;decide)⟩
  .split
   .exact ⟨gs,(by show 1<=100000;decide)⟩
   .rename_i n hn;exact ⟨gs.change (aqq hn),(by show 3<=100000;decide)⟩
 |row=>exact ⟨gs,gN (tL (S7 hg)) (by decide)⟩
 |holds=>
  refine ⟨gs,gN (tL (n:=1000) ?_) (by decide)⟩;have U:=uL holdRow 3 (bh g) (fun _ _=>dR _);have h2:=Ib hg;show ((bh g).flatMap holdRow).length<=1000;omega
 |live=>exact ⟨gs,gN (tL (Ic hg [] [])) (by decide)⟩
 |without out cut=>exact ⟨gs,show (onBoth ⟨g,past⟩ out cut fun o c=>0::toInts (alive g o c)).length<=100000 from Mg _ _ _ _ (by decide) fun a b=>gN (tL (Ic hg a b)) (by decide)⟩
 |around x out cut=>
  refine ⟨gs,show (onObject ⟨g,past⟩ x fun n=>onBoth ⟨g,past⟩ out cut fun o c=>match wayAround g o c n with|none=>[1]|some w=>0::toInts w).length<=100000 from Mf _ _ _ (by decide) fun n=>Mg _ _ _ _ (by decide) fun a b=>?_⟩;show (match wayAround g a b n with|none=>[1]|some w=>0::toInts w).length<=100000;rw[WK.JP];cases e:(WK.jQ g a b).find? fun y=>y.1==n with
  |none=>show 1<=100000;decide
  |some y=>
   have U:=WK.OJ (nA hg).ok (FN e);exact gN (tL (gN U (S5 hg))) (by decide)
 |keeps x y=>exact ⟨gs,show (onObject ⟨g,past⟩ x fun a=>onObject ⟨g,past⟩ y fun b=>0::toInts [bit (keeps g a b)]).length<=100000 from Mf _ _ _ (by decide) fun n=>Mf _ _ _ (by decide) fun m=>(by show 2<=100000;decide)⟩
 |keepers y=>exact ⟨gs,show (onLive ⟨g,past⟩ y fun n=>0::toInts (chainIn g (fE g) n)).length<=100000 from S6 _ _ _ (by decide) fun n=>gN (tL (adR hg _ n)) (by decide)⟩
 |tree=>
  refine ⟨gs,gN (tL (n:=1000) ?_) (by decide)⟩;have U:=uL (fun y=>[y,(match keeperIn g (fE g) y with|none=>0|some x=>x+1),qE g (fE g) y]) 3 (alive g [] []) (fun _ _=>dR _);have h2:=Ic hg [] [];refine gN U ?_;omega
 |kept xs=>exact ⟨gs,show (onBoth ⟨g,past⟩ xs [] fun o _=>0::toInts (lX g (gone g o [])::gone g o [])).length<=100000 from Mg _ _ _ _ (by decide) fun a b=>gN (tL (n:=49) (FV (adV hg a []))) (by decide)⟩
 |sizes=>
  refine ⟨gs,gN (tL (n:=1000) ?_) (by decide)⟩;have U:=uL (fun x:Nat×Nat=>[x.1,x.2]) 2 (sizes g) (fun _ _=>dR _);have h2:=aqR hg;refine gN U ?_;omega
 |kinds=>
  refine ⟨gs,gN (tL (n:=1000) ?_) (by decide)⟩;have U:=uL (fun x:Share=>[x.kind,x.count,x.own,x.size]) 4 (kinds g) (fun _ _=>dR _);have h2:(kinds g).length<=100:=by
   have:(kinds g).length<=(jO Vasnpa.KINDS).length:=ahs _ _;rw[xc]at this;exact this
  refine gN U ?_;omega
 |frees cut=>exact ⟨gs,show (onBoth ⟨g,past⟩ [] cut fun _ c=>0::toInts (lX g (gone g [] c)::gone g [] c)).length<=100000 from Mg _ _ _ _ (by decide) fun a b=>gN (tL (n:=49) (FV (adV hg [] b))) (by decide)⟩
 |best=>
  refine ⟨gs,?_⟩;show (match best g with|none=>[1]|some b=>0::toInts [b.hold,b.size,b.count]).length<=100000;cases best g with
  |none=>show 1<=100000;decide
  |some b=>show 4<=100000;decide
 |cut x=>
  refine ⟨gs,show (onLive ⟨g,past⟩ x fun n=>0::toInts (toldCut g n)).length<=100000 from S6 _ _ _ (by decide) fun n=>gN (tL (n:=176) ?_) (by decide)⟩;have U:(toldCut g n).length<=((bh g).zipIdx).length:=by
   unfold toldCut;dsimp only;rw[bt];exact mL _ _
  rw[yt]at U;exact gN U (Ib hg)
 |ways x=>
  refine ⟨gs,show (onLive ⟨g,past⟩ x fun n=>0::toInts ((ow g n).length::(ow g n).flatMap fun w=>w.length::w)).length<=100000 from S6 _ _ _ (by decide) fun n=>gN (tL (n:=40001) ?_) (by decide)⟩;exact FV (adQ hg n).2
 |release cut=>
  show uK (releasing ⟨g,past⟩ cut).1.graph (releasing ⟨g,past⟩ cut).1.past/\(releasing ⟨g,past⟩ cut).2.length<=100000;unfold releasing
  split
  .exact ⟨gs,(by show 1<=100000;decide)⟩
  .exact ⟨gs.change (adS hg _),(by show 3<=100000;decide)⟩
 |undo=>
  cases past with
  |nil=>exact ⟨gs,(by show 1<=100000;decide)⟩
  |cons a l=>
   refine ⟨show uK a l from ⟨gs.old a (by simp),fun x hx=>gs.old x (by simp[hx]),?_⟩,(by show 1<=100000;decide)⟩;have h:=gs.len;rw[iz]at h;omega
end WD
namespace WD
end WD
open Vasnpb (holdRow)
namespace WD
theorem aqT{f:Addr}{fd:dn}(F:eW K "answer_holds" "answer_holds" Rl f fd)(T:Txt K mg t):
  c8 P w K mg base bJ 1 f fd aal (sJ t fun _ _ c=>c=.holds):=by
 refine F.ok aam (fun vs H Q E h=>?_) (fun c6 A outer s H vs Q E hr h=>?_)
 .obtain ⟨p,aN,aL,g,past,ns,cS,c,rfl,_⟩:=h;rfl
 .obtain ⟨p,aN,aL,g,past,ns,cS,c,rfl,hD,gs,hN,hL,ll,ln,rfl,k⟩:=h;have nd:=aam.nd;refine ⟨_,bF (dB (i:=3) nd rfl (Or.inl rfl) (dG (ax (gY T.lN) aO)))
   (bF (kW jW rfl (l0 (cO (cO (pv 0) rfl) rfl)) (gG (i:=4) nd rfl (Or.inl rfl))
    (cy (jv (j8 jX xb zU Az (pv 3) (ax (dG (ax (cO (pv 4) rfl) (ax (cO (pv 4) rfl) (ax (cO (pv 4) rfl) aO)))) aO)))))
   (cy (eN (pv 3)))),?_⟩
  try dsimp only[fQ,fS,fT,fV]
  have iE:=hD;obtain ⟨dx,ag,ab,gM,hp,hg,hb,mJ⟩:=hD;obtain ⟨dg,aK,aS,aF,aR,aH,aE,pR,gP,hK,Ta,Mh,CZ,pS,hHe,_⟩:=hg.ex;obtain ⟨jL,jU,kx⟩:=pS;have hle:=Ib gs.now;refine ⟨(by show 1<=cJ;decide),fun o ho=>?_⟩;have s0:=aC.nw (o:=.lst [V.int 0]) ho;refine ⟨_,rfl,s0 _ _ hp,T.iI,T.jE,j9 _ _,s0 _ _ gP,T.iT,T.pO,rH _ _ _ _ _ _ _,aH,rfl,⟨_,aD.of (s0 _ _ jU)⟩,?_⟩;refine qK (K:=K) (a:=aH) (xs:=jL.map V.ref) (fun i σ H'=>∃v4:Option V,σ=[some (.ref p),some (.ref aN),some (.ref aL),some (.ref o),v4]/\aC H H'/\H' o=some (.lst ((0::toInts (((bh g).take i).flatMap holdRow)).map V.int)))
   ⟨none,rfl,s0,aJ⟩ (fun i σ H' _ ⟨_,_,s1,_⟩=>aD.of (s1 _ _ jU)) ?_ ?_
  .rintro i x σ H' hx ⟨v4,rfl,s1,pq⟩;obtain ⟨c,hc,rfl⟩:=pd hx;have oJ:i<(bh g).length:=by
    rw[<-kx.length];exact (gq.mp hc).1
   obtain ⟨c',Ah,dh,hH⟩:=uB kx (i:=i) (iN oJ);rw[hc]at Ah;cases Ah;have Tb:=s1 _ _ hH;refine ⟨_,rfl,.inl ⟨rfl,_,aD.of pq⟩,?_⟩;refine ⟨_,rfl,Tb,T.nP,T.xQ,yM _ _ _,_,rfl,Tb,T.nP,T.RU,aaY _ _ _,_,rfl,Tb,T.nP,T.xR,yN _ _ _,(by show 3<=cJ;decide),fun l1 U=>?_⟩;have n1:o≠l1:=dw pq U;have bound:(((bh g).take i).flatMap holdRow).length<=1000:=by
    have q:=uL holdRow 3 ((bh g).take i) (fun _ _=>dR _);rw[mB]at q;have:min i (bh g).length*3<=176*3:=DD _ (by omega);omega
   refine ⟨o,l1,_,_,rfl,rfl,aC.nw U _ _ pq,aJ,?_,?_⟩
   .rw[bt,iz,Me,eE];show _+1+3<=_;omega
   .refine ⟨_,rfl,(s1.new U).own ho,?_⟩;rw[aJ,take_snoc (iN oJ),sZ];simp[toInts,holdRow]
  .rintro σ H1 ⟨v4,rfl,s1,pq⟩;refine ⟨_,rfl,?_⟩;have e:(bh g).take (jL.map V.ref).length=bh g:=by
    rw[bt,kx.length,jY]
   rw[e]at pq;exact k H1 o s1.but ho (iE.same s1) pq
theorem adW(n:Nat)(l:List Nat):Ca (V.int (n:Int)) (nats l)=l.contains n:=by
 induction l with
 |nil=>rfl
 |cons a l ih=>
  have e:Ca (V.int (n:Int)) (nats (a::l))=(xF (V.int (a:Int)) (V.int (n:Int))||Ca (V.int (n:Int)) (nats l)):=rfl;rw[e,ih,List.contains_cons];congr 1;rw[n4];simp[xF];omega
theorem adX(l:List Nat):(nats l).all yH=true:=by
 unfold nats;rw[VZ];exact tZ.mpr fun _ _=>rfl
def adY(K:cB)(t:fZ):Sp:=fun vs H Q _=>∃(ag:Addr)(g:bp)(x y:Nat),vs=[.ref ag,.int (x:Int),.int (y:Int)]/\i7 t H ag g/\pj g/\∀H',aC H H'->Q (.bl (Vasnpb.keeps g x y)) H'
theorem aqU{f fl:Addr}{fd lO:dn}(F:eW K "keeps" "keeps" QP f fd)(T:Txt K mg t)(cl:eY P w K mg base bJ 4 "lost_objects" fl lO xN (zg K t)):
  c8 P w K mg base bJ 5 f fd QQ (adY K t):=by
 refine F.ok ang (fun vs H Q E h=>?_) (fun c6 A outer s H vs Q E hr h=>?_)
 .obtain ⟨ag,g,x,y,rfl,_⟩:=h;rfl
 .obtain ⟨ag,g,x,y,rfl,hg,fit,k⟩:=h;refine ⟨_,cy (eN (Pc akV (pv 2) (eB cl.G hr rfl cl.m cl.kp cl.b .nil di (ax (pv 0) (ax (dG (ax (pv 1) aO)) (ax (dG aO) aO)))) (by with_unfolding_all rfl))),?_⟩
  try dsimp only[fQ,fS,fT,fV]
  refine ⟨_,rfl,_,rfl,_,rfl,(by show 1<=cJ;decide),fun l1 U=>⟨dU _,fun l2 h2=>?_⟩⟩;have s1:=aC.nw (o:=.lst [V.int (x:Int)]) U;have s2:=aC.nw (o:=.lst []) h2;have qZ:=s1.trans s2;refine ⟨ag,l1,l2,g,[x],[],rfl,⟨hg.same qZ,fit,aD.of (s2 _ _ aJ),aD.of aJ,by simp,by simp⟩,?_⟩;intro H1 p s3 hp hv;refine ⟨p,_,rfl,.inl (aD.of hv),rfl,adX _,?_⟩;have fin:=k H1 (qZ.trans s3);have e:(if false=true then !Ca (V.int (y:Int)) (nats (gone g [x] [])) else Ca (V.int (y:Int)) (nats (gone g [x] [])))=Vasnpb.keeps g x y:=by
   rw[if_neg (by decide),adW];rfl
  rw[e];exact fin
theorem aqV{f fl fr:Addr}{fd lO oN:dn}(F:eW K "answer_keeps" "answer_keeps" Rp f fd)(T:Txt K mg t)(cl:eY P w K mg base bJ 5 "keeps" fl lO QQ (adY K t))(cr:eY P w K mg base bJ 2 "refusal_of" fr oN AN (CS K t)):c8 P w K mg base bJ 6 f fd aat (sJ t fun ns _ c=>∃x y,ns=[x,y]/\c=.keeps x y):=by
 refine F.ok aau (fun vs H Q E h=>?_) (fun c6 A outer s H vs Q E hr h=>?_)
 .obtain ⟨p,aN,aL,g,past,ns,cS,c,rfl,_⟩:=h;rfl
 .obtain ⟨p,aN,aL,g,past,ns,cS,c,rfl,hD,gs,hN,hL,ll,ln,⟨x,y,rfl,rfl⟩,k⟩:=h;have nd:=aau.nd;have mY:dQ 2 _:=hr.mono (by decide);refine ⟨_,bF (dB (i:=3) nd rfl (Or.inl rfl) (eB cr.G mY rfl cr.m cr.kp cr.b .nil di (ax (cO (pv 0) rfl) (ax (pv 1) (ax (dG aO) aO)))))
   (bF (mQ (ng uu (pv 3) (gY T.lN) (mS _)) (cy (eN (dG (ax (pv 3) aO)))) mP)
   (cy (eN (dG (ax (gY T.lN) (ax (Ka (tF (eB cl.G hr rfl cl.m cl.kp cl.b .nil di (ax (cO (pv 0) rfl) (ax (gj ia (pv 1) gg (fun _ _=>rfl)) (ax (gj ia (pv 1) gg (fun _ _=>rfl)) aO))))) gg gg) aO)))))),?_⟩
  try dsimp only[fQ,fS,fT,fV]
  have iE:=hD;obtain ⟨dx,ag,ab,gM,hp,hg,hb,mJ⟩:=hD;have mK:mf [V.int x,V.int y] 0=some (V.int x):=at_of (j:=0) rfl rfl;have CU:mf [V.int x,V.int y] 1=some (V.int y):=at_of (j:=1) rfl rfl;refine ⟨_,rfl,hp,T.iI,T.jE,j9 _ _,_,rfl,dU _,fun l1 U=>?_⟩;have s1:=aC.nw (o:=.lst []) U;refine ⟨ag,aN,l1,g,[x,y],[],rfl,hg.same s1,aD.of (s1 _ _ hN),aD.of aJ,by simp,by simp,?_⟩;intro H1 sL;have s2:=s1.trans sL;have st:lp ⟨g,past⟩ (.keeps x y)=(⟨g,past⟩,if refusal g [x,y] []=0 then [0,if Vasnpb.keeps g x.toNat y.toNat then 1 else 0] else [refusal g [x,y] []]):=by
   show (_,Vasnpb.onObject ⟨g,past⟩ x fun a=>Vasnpb.onObject ⟨g,past⟩ y fun b=>0::toInts [Vasnpb.bit (Vasnpb.keeps g a b)])=_;unfold Vasnpb.onObject;have e1:Vasnpb.isObject ⟨g,past⟩ x=nU g x:=rfl;have e2:Vasnpb.isObject ⟨g,past⟩ y=nU g y:=rfl;rw[e1,e2];unfold refusal;rw[zN,zN];cases nU g x with
   |false=>rfl
   |true=>
    cases nU g y with
    |false=>rfl
    |true=>
     cases hk:Vasnpb.keeps g x.toNat y.toNat with
     |false=>simp[hk,toInts,Vasnpb.bit]
     |true=>simp[hk,toInts,Vasnpb.bit]
  rw[st]at k;refine ⟨_,rfl,rfl,_,rfl,?_⟩;by_cases z:refusal g [x,y] []=0
  .rw[if_pos z]at k;refine yJ (by rw[z]) ?_;obtain ⟨z1,z2⟩:=E5 z;have nn:=HW z1;have nx:=nn x (by simp);have ny:=nn y (by simp);refine ⟨_,rfl,s2 _ _ hp,T.iI,T.jE,j9 _ _,_,rfl,aN,_,_,_,rfl,rfl,aD.of (s2 _ _ hN),mK,_,rfl,aN,_,_,_,rfl,rfl,aD.of (s2 _ _ hN),CU,?_⟩;refine ⟨ag,g,x.toNat,y.toNat,by rw[FY nx,FY ny];rfl,hg.same s2,nA gs.now,?_⟩;intro H2 s3;refine ⟨_,rfl,?_⟩;have sA:=s2.trans s3;cases hk:Vasnpb.keeps g x.toNat y.toNat with
   |false=>
    rw[hk]at k;refine ⟨(by show 2<=cJ;decide),fun r eD=>?_⟩;have sB:=sA.trans (aC.nw (o:=.lst [V.int 0,V.int 0]) eD);exact k _ r sB.but (sA.free eD) (iE.same sB) aJ
   |true=>
    rw[hk]at k;refine ⟨(by show 2<=cJ;decide),fun r eD=>?_⟩;have sB:=sA.trans (aC.nw (o:=.lst [V.int 0,V.int 1]) eD);exact k _ r sB.but (sA.free eD) (iE.same sB) aJ
  .rw[if_neg z]at k;refine jq (fun _=>?_) (fun y'=>absurd ?_ y')
   .refine ⟨_,rfl,(by show 1<=cJ;decide),fun r eD=>?_⟩;have sB:=s2.trans (aC.nw (o:=.lst [V.int (refusal g [x,y] [])]) eD);exact k _ r sB.but (s2.free eD) (iE.same sB) aJ
   .rw[rh,decide_eq_false_iff_not];intro e;exact z (V.int.inj e)
end WD
namespace L2
theorem gQ{a b:Nat}(h:a<b∨b<a):a≠b:=by omega
abbrev oq(h:Heap)(T:Addr)(a b c:aq):Prop:=h.get? T=some {cls:=.type "tuple",data:=.seq #[a,b,c]}
abbrev sM(h:Heap)(I:Nat)(f:aq):Prop:=IsZip h (I+5) (I+3) (I+4) f
section
variable{prog:eS}{w:eJ}{A:gc}{E:aq->a9->Prop}{s:a9}
theorem Td{T:Addr}{a b c x:aq}{k:Nat}{Q:Unit->a9->Prop}(tT:oq s.heap T a b c)(kk:∀h',h'.get? T=some {cls:=.type "tuple",data:=.seq ((#[a,b,c]:Array aq).setIfInBounds k x)}->Heap.SameBut T s.heap h'->Q () {s with heap:=h'}):
  bV (model prog w) A (updateSeq T (·.setIfInBounds k x)) Q E s:=by
 refine JE tT rfl (kk _ ?_ (BD ..));rw[ag7 _ tT rfl];simp[m5]
theorem aqW{I l1 l2 l3:Nat}{k:Nat}{xs ys zs:Array aq}{x y v a b c:aq}{Q:aq->a9->Prop}(L1:l1<I)(L2:l2<I)(L3:l3<I)(zz:sM s.heap I .none)(tI:oq s.heap (I+3) (.ref I) (.ref (I+1)) (.ref (I+2)))(tO:oq s.heap (I+4) a b c)(C1:s.heap.IsListIter I l1 k)(Te:s.heap.IsListIter (I+1) l2 k)(Tf:s.heap.IsListIter (I+2) l3 k)(zt:s.heap.IsList l1 xs)(Ig:s.heap.IsList l2 ys)(Ih:s.heap.IsList l3 zs)(gx:xs[k]? =some x)(gy:ys[k]? =some y)(gv:zs[k]? =some v)(kQ:∀h',sM h' I (rawInt s.heap.objs.size)->oq h' (I+4) x y v->h'.IsListIter I l1 (k+1)->h'.IsListIter (I+1) l2 (k+1)->h'.IsListIter (I+2) l3 (k+1)->oq h' s.heap.objs.size x y v->h'.objs.size=s.heap.objs.size+1->
   (∀e o,e≠I+5->e≠I+4->e≠I->e≠I+1->e≠I+2->s.heap.get? e=some o->h'.get? e=some o)->Q (.ref s.heap.objs.size) {s with heap:=h'}):
  bV (model prog w) A (Builtin.«zip.__next__» ⟨[.ref (I+5)],[]⟩) (fun fin s'=>∃u,fin=.done (.ret u)/\Q u s') E s:=by
 show bV _ _ (field (.ref (I+5)) 2 >>= _) _ _ _;refine cE (BE zz rfl (x:=.bool false) rfl ?_);show bV _ _ (field (.ref (I+5)) 3 >>= _) _ _ _;refine cE (BE zz rfl (x:=.ref (I+3)) rfl (cE (zV tI rfl ?_)));show bV _ _ (Builtin.SmallTypes.ownedTupleIsFree (.ref (I+5)) >>= _) _ _ _;refine cE ?_;unfold Builtin.SmallTypes.ownedTupleIsFree;refine cE (BE zz rfl (x:=.none) rfl (ij ?_));simp only[if_true];refine cE (Wd (cE (BE zz rfl (x:=.ref (I+4)) rfl (cE (JF zz (by simp) fun g1 z1 b1=>?_)))))
 replace z1:sM g1 I .ellipsis:=z1
 refine cE ?_;simp only[Jr,ahy,V0,N0];refine cE (cE (N7 (?_:bV _ _ (Builtin.SmallTypes.nextOf (.ref I) >>= _) _ _ _)));refine cE (We (C1.extBut b1.extBut (gQ (by omega))) (zt.extBut b1.extBut (gQ (by omega))) gx fun g2 j1 b2=>ij ?_);have t2:oq g2 (I+4) a b c:=b2.extBut _ _ (gQ (by omega)) (b1.extBut _ _ (gQ (by omega)) tO);refine cE (zV t2 rfl (cE (Td t2 fun g3 t3 b3=>?_)))
 replace t3:oq g3 (I+4) x b c:=t3
 refine cE (BF (ij ?_));refine cE (cE (N7 (?_:bV _ _ (Builtin.SmallTypes.nextOf (.ref (I+1)) >>= _) _ _ _)));refine cE (We (((Te.extBut b1.extBut (gQ (by omega))).extBut b2.extBut (gQ (by omega))).extBut b3.extBut (gQ (by omega)))
  (((Ig.extBut b1.extBut (gQ (by omega))).extBut b2.extBut (gQ (by omega))).extBut b3.extBut (gQ (by omega))) gy fun g4 j2 b4=>ij ?_)
 have t4:oq g4 (I+4) x b c:=b4.extBut _ _ (gQ (by omega)) t3;refine cE (zV t4 rfl (cE (Td t4 fun g5 t5 b5=>?_)))
 replace t5:oq g5 (I+4) x y c:=t5
 refine cE (BF (ij ?_));refine cE (cE (N7 (?_:bV _ _ (Builtin.SmallTypes.nextOf (.ref (I+2)) >>= _) _ _ _)));refine cE (We (((((Tf.extBut b1.extBut (gQ (by omega))).extBut b2.extBut (gQ (by omega))).extBut b3.extBut (gQ (by omega))).extBut b4.extBut (gQ (by omega))).extBut b5.extBut (gQ (by omega)))
  (((((Ih.extBut b1.extBut (gQ (by omega))).extBut b2.extBut (gQ (by omega))).extBut b3.extBut (gQ (by omega))).extBut b4.extBut (gQ (by omega))).extBut b5.extBut (gQ (by omega))) gv fun g6 j3 b6=>ij ?_)
 have t6:oq g6 (I+4) x y c:=b6.extBut _ _ (gQ (by omega)) t5;refine cE (zV t6 rfl (cE (Td t6 fun g7 t7 b7=>?_)))
 replace t7:oq g7 (I+4) x y v:=t7
 refine cE (BF (ij (ij ?_)));refine cE (zV t7 rfl (cE (wpAny_newTuple ?_)));have sz:g7.objs.size=s.heap.objs.size:=by rw[b7.1,b6.1,b5.1,b4.1,b3.1,b2.1,b1.1]
 have z7:sM g7 I .ellipsis:=b7.extBut _ _ (gQ (by omega)) (b6.extBut _ _ (gQ (by omega)) (b5.extBut _ _ (gQ (by omega)) (b4.extBut _ _ (gQ (by omega)) (b3.extBut _ _ (gQ (by omega)) (b2.extBut _ _ (gQ (by omega)) z1)))));have k7:∀e o,e≠I+5->e≠I+4->e≠I->e≠I+1->e≠I+2->s.heap.get? e=some o->g7.get? e=some o:=fun e o c1 c2 c3 c4 c5 q=>
  b7.extBut _ _ c2 (b6.extBut _ _ c5 (b5.extBut _ _ c2 (b4.extBut _ _ c4 (b3.extBut _ _ c2 (b2.extBut _ _ c3 (b1.extBut _ _ c1 q))))))
 have m1:g7.IsListIter I l1 (k+1):=((((j1.extBut b3.extBut (gQ (by omega))).extBut b4.extBut (gQ (by omega))).extBut b5.extBut (gQ (by omega))).extBut b6.extBut (gQ (by omega))).extBut b7.extBut (gQ (by omega));have m2:g7.IsListIter (I+1) l2 (k+1):=((j2.extBut b5.extBut (gQ (by omega))).extBut b6.extBut (gQ (by omega))).extBut b7.extBut (gQ (by omega));have m3:g7.IsListIter (I+2) l3 (k+1):=j3.extBut b7.extBut (gQ (by omega));have zl:I+5<g7.objs.size:=iK z7;show bV _ _ (Builtin.SmallTypes.ownedTupleHandOut (.ref (I+5)) (.ref g7.objs.size) >>= _) _ _ _;refine cE ?_;unfold Builtin.SmallTypes.ownedTupleHandOut;have z8:sM (g7.push {cls:=.type "tuple",data:=.seq #[x,y,v]}) I .ellipsis:=gF _ z7;refine cE (JF z8 (by simp) fun g9 z9 b9=>?_)
 replace z9:sM g9 I (rawInt g7.objs.size):=z9
 refine JF z9 (by simp) fun Ik Mj Tq=>?_
 replace Mj:sM Ik I (rawInt g7.objs.size):=Mj
 have up:∀e o,e≠I+5->g7.get? e=some o->Ik.get? e=some o:=fun e o c1 q=>Tq.extBut _ _ c1 (b9.extBut _ _ c1 (gF _ q));have nw:oq Ik g7.objs.size x y v:=Tq.extBut _ _ (yr zl) (b9.extBut _ _ (yr zl) (lV _ rfl));have G2:Ik.objs.size=g7.objs.size+1:=by rw[Tq.1,b9.1,p7]
 rw[sz]at Mj nw G2;refine ij ⟨_,rfl,(?_:Q (.ref g7.objs.size) _)⟩;rw[sz];exact kQ Ik Mj (up _ _ (gQ (by omega)) t7) (m1.at fun o q=>up _ o (gQ (by omega)) q) (m2.at fun o q=>up _ o (gQ (by omega)) q) (m3.at fun o q=>up _ o (gQ (by omega)) q) nw G2 fun e o c1 c2 c3 c4 c5 q=>up e o c1 (k7 e o c1 c2 c3 c4 c5 q)
theorem aq2{I l1:Nat}{k:Nat}{xs:Array aq}{Q:Fin->a9->Prop}{i2 i3:aq}(hh:A.handled=none)(L1:l1<I)(zz:sM s.heap I .none)(tI:oq s.heap (I+3) (.ref I) i2 i3)(C1:s.heap.IsListIter I l1 k)(zt:s.heap.IsList l1 xs)(gx:xs[k]? =none)(kE:∀h' e,(∀c o,c≠I+5->c≠I->s.heap.get? c=some o->h'.get? c=some o)->(∃o,h'.get? e=some o/\o.cls=.type "StopIteration")->E (.ref e) {s with heap:=h'}):
  bV (model prog w) A (Builtin.«zip.__next__» ⟨[.ref (I+5)],[]⟩) Q E s:=by
 show bV _ _ (field (.ref (I+5)) 2 >>= _) _ _ _;refine cE (BE zz rfl (x:=.bool false) rfl ?_);show bV _ _ (field (.ref (I+5)) 3 >>= _) _ _ _;refine cE (BE zz rfl (x:=.ref (I+3)) rfl (cE (zV tI rfl ?_)));show bV _ _ (Builtin.SmallTypes.ownedTupleIsFree (.ref (I+5)) >>= _) _ _ _;refine cE ?_;unfold Builtin.SmallTypes.ownedTupleIsFree;refine cE (BE zz rfl (x:=.none) rfl (ij ?_));simp only[if_true];refine cE (Wd (cE (BE zz rfl (x:=.ref (I+4)) rfl (cE (JF zz (by simp) fun g1 z1 b1=>?_)))))
 replace z1:sM g1 I .ellipsis:=z1
 refine cE ?_;simp only[Jr,ahy,V0,N0];refine cE (cE (N7 (?_:bV _ _ (Builtin.SmallTypes.nextOf (.ref I) >>= _) _ _ _)));refine cE (wpAny_nextOf_list_end hh (C1.extBut b1.extBut (gQ (by omega))) (zt.extBut b1.extBut (gQ (by omega))) gx fun g2 e b2 he=>?_);obtain ⟨oe,ho,hc⟩:=he;have z2:sM g2 I .ellipsis:=b2 _ _ (gQ (by omega)) z1;have ne:e≠I+5:=fun q=>by
  subst q;rw[z2]at ho;cases ho;simp at hc
 exact JF z2 (by simp) fun g3 _ b3=>kE g3 e (fun c o c1 c3 q=>b3.extBut _ _ c1 (b2 _ _ c3 (b1.extBut _ _ c1 q))) ⟨oe,b3.extBut _ _ ne ho,hc⟩
theorem aq4{I l1 l2 l3:Nat}{k:Nat}{xs ys zs:Array aq}{x y v a b c:aq}{Q:Option aq->a9->Prop}(L1:l1<I)(L2:l2<I)(L3:l3<I)(zz:sM s.heap I .none)(tI:oq s.heap (I+3) (.ref I) (.ref (I+1)) (.ref (I+2)))(tO:oq s.heap (I+4) a b c)(C1:s.heap.IsListIter I l1 k)(Te:s.heap.IsListIter (I+1) l2 k)(Tf:s.heap.IsListIter (I+2) l3 k)(zt:s.heap.IsList l1 xs)(Ig:s.heap.IsList l2 ys)(Ih:s.heap.IsList l3 zs)(gx:xs[k]? =some x)(gy:ys[k]? =some y)(gv:zs[k]? =some v)(kQ:∀h',sM h' I (rawInt s.heap.objs.size)->oq h' (I+4) x y v->h'.IsListIter I l1 (k+1)->h'.IsListIter (I+1) l2 (k+1)->h'.IsListIter (I+2) l3 (k+1)->oq h' s.heap.objs.size x y v->h'.objs.size=s.heap.objs.size+1->
   (∀e o,e≠I+5->e≠I+4->e≠I->e≠I+1->e≠I+2->s.heap.get? e=some o->h'.get? e=some o)->Q (some (.ref s.heap.objs.size)) {s with heap:=h'}):
  bV (model prog w) A (pyNext (.ref (I+5))) Q E s:=by
 have ty:s.TypeIs (.ref (I+5)) "zip":=⟨_,zz,rfl⟩;unfold pyNext;refine cE (Wf (ahz (name:=Str.ofString "__next__") ty N8 (V4 N8 ty ahA ?_ (ahB _))));exact aqW L1 L2 L3 zz tI tO C1 Te Tf zt Ig Ih gx gy gv fun h' a1 a2 a3 a4 a5 a6 a7 a8=>ij (kQ h' a1 a2 a3 a4 a5 a6 a7 a8)
theorem aq8{I l1:Nat}{k:Nat}{xs:Array aq}{Q:Option aq->a9->Prop}{i2 i3:aq}(hh:A.handled=none)(L1:l1<I)(zz:sM s.heap I .none)(tI:oq s.heap (I+3) (.ref I) i2 i3)(C1:s.heap.IsListIter I l1 k)(zt:s.heap.IsList l1 xs)(gx:xs[k]? =none)(kQ:∀h',(∀c o,c≠I+5->c≠I->s.heap.get? c=some o->h'.get? c=some o)->Q none {s with heap:=h'}):bV (model prog w) A (pyNext (.ref (I+5))) Q E s:=by
 have ty:s.TypeIs (.ref (I+5)) "zip":=⟨_,zz,rfl⟩;unfold pyNext;refine cE (Wf (ahz (name:=Str.ofString "__next__") ty N8 (V4 N8 ty ahA (aq2 hh L1 zz tI C1 zt gx fun h' e hk he=>?_) (ahB _))));obtain ⟨o,ho,hc⟩:=he;exact cE (wpAny_isInstance (T:="StopIteration") (b:=true) ⟨o,ho,hc⟩ isSubtype_stop (ij (kQ _ hk)))
end
abbrev zA(h:Heap)(l1:Addr):Heap:=h.push {cls:=.type "list_iterator",data:=.fields #[.ref l1,.int 0 0]}
abbrev zB(h:Heap)(l1 l2:Addr):Heap:=zA (zA h l1) l2
abbrev zC(h:Heap)(l1 l2 l3:Addr):Heap:=zA (zB h l1 l2) l3
abbrev zD(h:Heap)(l1 l2 l3:Addr):Heap:=(zC h l1 l2 l3).push {cls:=.type "tuple",data:=.seq #[.ref h.objs.size,.ref (zA h l1).objs.size,.ref (zB h l1 l2).objs.size]}
abbrev zE(h:Heap)(l1 l2 l3:Addr):Heap:=(zD h l1 l2 l3).push {cls:=.type "tuple",data:=.seq #[.none,.none,.none]}
abbrev zF(h:Heap)(l1 l2 l3:Addr):Heap:=(zE h l1 l2 l3).push {cls:=.type "zip",data:=.fields #[.none,.bool false,.bool false,.ref (zC h l1 l2 l3).objs.size,.ref (zD h l1 l2 l3).objs.size]}
set_option maxHeartbeats 2000000 in
theorem A8(l1 l2 l3:Addr)(xs ys zs:Array aq):
  Meets (Builtin.«zip.__new__» ⟨[.type "zip",.ref l1,.ref l2,.ref l3],[]⟩) (fun _ R s=>s.heap.IsList l1 xs/\s.heap.IsList l2 ys/\s.heap.IsList l3 zs/\
   R (.ok (.ret (.ref (zE s.heap l1 l2 l3).objs.size))) {s with heap:=zF s.heap l1 l2 l3}):=
 .of_wp fun prog w A R s h=>by
  obtain ⟨hp,g,d,tk,os⟩:=s;obtain ⟨n1,n2,n3,h⟩:=h;have axL:=sub_zip;have hL1:Heap.IsList (Shared.heap ⟨hp,g,d,tk,os⟩) l1 xs:=n1;have hL2:Heap.IsList (Shared.heap ⟨hp.push {cls:=.type "list_iterator",data:=.fields #[.ref l1,.int 0 0]},g,d,tk,os⟩) l2 ys:=n2.push _;have Il:Heap.IsList (Shared.heap ⟨(hp.push {cls:=.type "list_iterator",data:=.fields #[.ref l1,.int 0 0]}).push {cls:=.type "list_iterator",data:=.fields #[.ref l2,.int 0 0]},g,d,tk,os⟩) l3 zs:=(n3.push _).push _
  wp_walk using FR hL1,FR hL2,FR Il
  exact ⟨_,rfl,h⟩
theorem arb(a b c:aq):checkTypeCall "zip" ⟨[a,b,c],[]⟩=pure ():=by kernel_rfl
theorem arc(a b c:aq):checkBuiltinCall "zip.__new__" ⟨[.type "zip",a,b,c],[]⟩=pure ():=by kernel_rfl
theorem ard(a b c d:aq):argsOk "object.__init__" ⟨[a,b,c,d],[]⟩:=by
 unfold argsOk;rw[signature?_of (id:="object.__init__") (n:=['_','_','t','i','n','i','_','_']) (o:=['t','c','e','j','b','o']) (by kernel_rfl) F.owner_object]
 kernel_rfl
theorem arh{prog:eS}{w:eJ}{A:gc}{E:aq->a9->Prop}{s:a9}{l1 l2 l3:Addr}{xs ys zs:Array aq}{Q:aq->a9->Prop}(zt:s.heap.IsList l1 xs)(Ig:s.heap.IsList l2 ys)(Ih:s.heap.IsList l3 zs)(kk:∀h',sM h' s.heap.objs.size .none->oq h' (s.heap.objs.size+3) (.ref s.heap.objs.size) (.ref (s.heap.objs.size+1)) (.ref (s.heap.objs.size+2))->
   oq h' (s.heap.objs.size+4) .none .none .none->h'.IsListIter s.heap.objs.size l1 0->h'.IsListIter (s.heap.objs.size+1) l2 0->h'.IsListIter (s.heap.objs.size+2) l3 0->
   (∀c o,s.heap.get? c=some o->h'.get? c=some o)->Q (.ref (s.heap.objs.size+5)) {s with heap:=h'}):
  bV (model prog w) A (call (.type "zip") [.ref l1,.ref l2,.ref l3]) Q E s:=by
 refine callType_new F.called_zip (by decide) (arb _ _ _) (arc _ _ _) (fun obj=>ard obj _ _ _) F.entry_zip_new (A8 l1 l2 l3 xs ys zs) ⟨zt,Ig,Ih,?_⟩;have a1:(zA s.heap l1).objs.size=s.heap.objs.size+1:=p7 ..;have a2:(zB s.heap l1 l2).objs.size=s.heap.objs.size+2:=by rw[p7,a1]
 have a3:(zC s.heap l1 l2 l3).objs.size=s.heap.objs.size+3:=by rw[p7,a2]
 have a4:(zD s.heap l1 l2 l3).objs.size=s.heap.objs.size+4:=by rw[p7,a3]
 have a5:(zE s.heap l1 l2 l3).objs.size=s.heap.objs.size+5:=by rw[p7,a4]
 have q6:(zF s.heap l1 l2 l3).get? (zE s.heap l1 l2 l3).objs.size=some _:=lV _ rfl;have q5:(zF s.heap l1 l2 l3).get? (zD s.heap l1 l2 l3).objs.size=some _:=gF _ (lV _ rfl);have q4:(zF s.heap l1 l2 l3).get? (zC s.heap l1 l2 l3).objs.size=some _:=gF _ (gF _ (lV _ rfl));have q3:(zF s.heap l1 l2 l3).get? (zB s.heap l1 l2).objs.size=some _:=gF _ (gF _ (gF _ (lV _ rfl)));have q2:(zF s.heap l1 l2 l3).get? (zA s.heap l1).objs.size=some _:=gF _ (gF _ (gF _ (gF _ (lV _ rfl))));have q1:(zF s.heap l1 l2 l3).get? s.heap.objs.size=some _:=gF _ (gF _ (gF _ (gF _ (gF _ (lV _ rfl)))));show _/\_;rw[a3,a4,a5]at q6;rw[a1,a2,a3]at q4;rw[a4]at q5;rw[a2]at q3;rw[a1]at q2;rw[a5];exact ⟨⟨_,q6,rfl⟩,kk _ q6 q4 q5 ⟨_,q1,rfl,rfl⟩ ⟨_,q2,rfl,rfl⟩ ⟨_,q3,rfl,rfl⟩ fun c o x=>
  gF _ (gF _ (gF _ (gF _ (gF _ (gF _ x)))))⟩
def Im(K:cB)(a b c:Addr):It:=
 ⟨fun i H=>∃(xs ys zs:List V)(x y z:V),aD K H a xs/\aD K H b ys/\aD K H c zs/\xs[i]? =some x/\ys[i]? =some y/\zs[i]? =some z,
  fun i H v H'=>∃T x y z,v=.ref T/\H T=none/\H'=upd H T (.tup [x,y,z])/\(∀xs,aD K H a xs->xs[i]? =some x)/\(∀ys,aD K H b ys->ys[i]? =some y)/\∀zs,aD K H c zs->zs[i]? =some z,
  fun i H=>∃xs:List V,aD K H a xs/\xs.length<=i⟩
theorem ari{P:eS}{w:eJ}{K:cB}{elts:List Expr}{kk:Nat}{r9:Pos}{a b c I:Nat}(La:a<I)(Lb:b<I)(Lc:c<I):
  Turn P w K (.Tuple elts kk r9) (Im K a b c) [I+5,I+3,I+4,I,I+1,I+2] (I+5)
   (fun i h=>sM h I .none/\oq h (I+3) (.ref I) (.ref (I+1)) (.ref (I+2))/\(∃x y z,oq h (I+4) x y z)/\h.IsListIter I a i/\h.IsListIter (I+1) b i/\h.IsListIter (I+2) c i) where
 mem:=by simp
 obj:=fun i h st d hd=>by
  obtain ⟨zz,tI,⟨x,y,z,tO⟩,⟨o1,e1,_,d1⟩,⟨o2,e2,_,d2⟩,⟨o3,e3,_,d3⟩⟩:=st;have e':d=I+5∨d=I+3∨d=I+4∨d=I∨d=I+1∨d=I+2:=by simpa using hd
  rcases e' with q|q|q|q|q|q<;>rw[q]
  .exact ⟨_,zz,fun v q=>nomatch q⟩
  .exact ⟨_,tI,fun v q=>nomatch q⟩
  .exact ⟨_,tO,fun v q=>nomatch q⟩
  .exact ⟨o1,e1,fun v q=>by rw[d1]at q;cases q⟩
  .exact ⟨o2,e2,fun v q=>by rw[d2]at q;cases q⟩
  .exact ⟨o3,e3,fun v q=>by rw[d3]at q;cases q⟩
 keep:=fun i h h' st k=>by
  obtain ⟨zz,tI,⟨x,y,z,tO⟩,U,h2,h3⟩:=st;exact ⟨k (I+5) (by simp) _ zz,k (I+3) (by simp) _ tI,⟨x,y,z,k (I+4) (by simp) _ tO⟩,U.at fun o q=>k I (by simp) o q,h2.at fun o q=>k (I+1) (by simp) o q,h3.at fun o q=>k (I+2) (by simp) o q⟩
 item:=by
  intro X hP hw hK hc i pins s σ H E J hf st hg;subst hP hw hK;obtain ⟨zz,tI,⟨x0,y0,z0,tO⟩,U,h2,h3⟩:=st;obtain ⟨xs,ys,zs,x,y,z,yc,Mp,Mq,hx,hy,hz⟩:=hg;obtain ⟨bD,rv,p,_⟩:=J.list yc;obtain ⟨oF,rv2,p2,_⟩:=J.list Mp;obtain ⟨Ts,rv3,p3,_⟩:=J.list Mq;obtain ⟨u,hu,ru⟩:=rv.get hx;obtain ⟨u2,hu2,ru2⟩:=rv2.get hy;obtain ⟨u3,hu3,ru3⟩:=rv3.get hz;have zl:I+5<s.heap.objs.size:=iK zz;refine aq4 La Lb Lc zz tI tO U h2 h3 p.isList p2.isList p3.isList (x:=u) (y:=u2) (v:=u3) (by simpa using hu) (by simpa using hu2) (by simpa using hu3) fun h' z' TO' h1' h2' h3' hT hsz hk=>?_;refine ⟨_,rfl,wpAny_letOwnedTupleGo_zip (s:={s with heap:=h'}) z' fun si z'' sb=>?_⟩;have rF:si.get? s.heap.objs.size=some {cls:=.type "tuple",data:=.seq #[u,u2,u3]}:=(sb.2 _ (yr zl)).trans hT;have new:j5 X.prog X.w (upd H s.heap.objs.size (.tup [x,y,z])) si s.heap.objs.size (.tup [x,y,z]):=
   ⟨by show 3<=cJ;decide,[u,u2,u3],.cons ru (.cons ru2 (.cons ru3 .nil)),⟨_,rF,rfl,_,rfl⟩⟩
  have I1:Inv X pins σ (upd H s.heap.objs.size (.tup [x,y,z])) {s with heap:=si}:=
   J.PU (t':=s.toks) (ch:=[I+5,I+3,I+4,I,I+1,I+2]) (fun d o hb q=>(sb.2 d (fun q'=>hb (by simp[q']))).trans (hk d o (fun q'=>hb (by simp[q'])) (fun q'=>hb (by simp[q'])) (fun q'=>hb (by simp[q'])) (fun q'=>hb (by simp[q'])) (fun q'=>hb (by simp[q'])) q)) hf (dR _) new
  refine ⟨.ref s.heap.objs.size,_,I1,rfl,⟨_,x,y,z,rfl,J.bS.fresh (dR _),rfl,fun l hl=>by rw[J.Gq hl yc];exact hx,fun l hl=>by rw[J.Gq hl Mp];exact hy,fun l hl=>by rw[J.Gq hl Mq];exact hz⟩,⟨z'',?_,⟨u,u2,u3,?_⟩,?_,?_,?_⟩,fun d Ew=>?_⟩
  .exact (sb.2 _ (gQ (by omega))).trans (hk _ _ (gQ (by omega)) (gQ (by omega)) (gQ (by omega)) (gQ (by omega)) (gQ (by omega)) tI)
  .exact (sb.2 _ (gQ (by omega))).trans TO'
  .exact h1'.at fun o q=>(sb.2 _ (gQ (by omega))).trans q
  .exact h2'.at fun o q=>(sb.2 _ (gQ (by omega))).trans q
  .exact h3'.at fun o q=>(sb.2 _ (gQ (by omega))).trans q
  .have eU:d<s.heap.objs.size:=by
    have e':d=I+5∨d=I+3∨d=I+4∨d=I∨d=I+1∨d=I+2:=by simpa using Ew
    have h5:(d:Nat)<=(I:Nat)+5:=by
     rcases e' with q|q|q|q|q|q<;>rw[q]<;>simp
    exact ahq h5 zl
   rw[bC (kg eU)];exact (hf d Ew).1
 done:=by
  intro X hP hw hK hc i pins s σ H E J hf st hg;subst hP hw hK;obtain ⟨zz,tI,⟨x0,y0,z0,tO⟩,U,h2,h3⟩:=st;obtain ⟨xs,yc,axM⟩:=hg;obtain ⟨bD,rv,p,_⟩:=J.list yc;have l1:=rv.length;have he:bD.toArray[i]? =none:=by simp;omega
  exact aq8 (J.ok.hd hc) La zz tI U p.isList he fun h' hk=>⟨rfl,J.ami (t':=s.toks) (ch:=[I+5,I+3,I+4,I,I+1,I+2]) (fun d o hb q=>hk d o (fun q'=>hb (by simp[q'])) (fun q'=>hb (by simp[q'])) q) hf⟩
 self:=fun A i s Q E st h=>ahC st.1 h
def aru(K:cB)(ta:TA):TI:=fun σ H R=>ta σ H fun vs H1=>∃a b c xs ys zs,vs=[.ref a,.ref b,.ref c]/\aD K H1 a xs/\aD K H1 b ys/\aD K H1 c zs/\R (Im K a b c) H1
theorem arv{X:Cx}{e e2 e3:Expr}{ta:TA}{p pos r9:Pos}{elts:List Expr}{kk:Nat}(hg:Gl X "zip")(hm:X.mg "zip"=none)(ha:PA X [e,e2,e3] ta)(hs:iP [e,e2,e3] X.env=(false,eval e X.env)::iP [e2,e3] X.env:=by rfl)(l6:(backTo pos (iP [e2,e3] X.env)).any (·.1)=false:=by rfl):
  PI X (.Tuple elts kk r9) (.Call (.Name "zip" p) [e,e2,e3] [] pos) (aru X.K ta):=by
 intro pins s σ H R J h;refine Call_ (BX J hg hm amu (NU (dt (ha pos pins s σ H _ J h) fun us s1 ⟨vs,H1,I1,r1,q1⟩=>?_) hs l6));obtain ⟨a,b,c,xs,ys,zs,ex,yc,Mp,Mq,q⟩:=q1;subst ex;cases r1 with
 |cons r rr=>
  cases rr with
  |cons r' rr=>
   cases rr with
   |cons r'' rr=>
    cases rr;cases r;cases r';cases r'';obtain ⟨bD,rv,p1,_⟩:=I1.list yc;obtain ⟨oF,rv2,p2,_⟩:=I1.list Mp;obtain ⟨Ts,rv3,p3,_⟩:=I1.list Mq;refine arh p1.isList p2.isList p3.isList fun h' zz tI tO U h2 h3 hk=>ahC zz ?_;have I2:Inv X pins σ H1 {s1 with heap:=h'}:=I1.kept (t':=s1.toks) hk;refine ⟨s1.heap.objs.size+5,_,_,_,H1,rfl,I2,ari (I:=s1.heap.objs.size) p1.lt p2.lt p3.lt,⟨zz,tI,⟨_,_,_,tO⟩,U,h2,h3⟩,fun d Ew=>?_,q⟩;have e':d=s1.heap.objs.size+5∨d=s1.heap.objs.size+3∨d=s1.heap.objs.size+4∨d=s1.heap.objs.size∨d=s1.heap.objs.size+1∨d=s1.heap.objs.size+2:=by simpa using Ew
    have hle:s1.heap.objs.size<=d:=by
     rcases e' with z|z|z|z|z|z<;>rw[z]<;>omega
    exact I1.DY hle (I1.bS.fresh hle)
theorem arx{K:cB}{a b c:Addr}{xs ys zs:List V}{g:TG}{tb:TS}{D:Ends}{σ:St}{H:Hp}(Pv:Nat->St->Hp->Prop)(h0:Pv 0 σ H)(ey:ys.length=xs.length)(ez:zs.length=xs.length)(hl:∀i σ H,i<=xs.length->Pv i σ H->aD K H a xs/\aD K H b ys/\aD K H c zs)(hs:∀i x y z σ H T,xs[i]? =some x->ys[i]? =some y->zs[i]? =some z->Pv i σ H->H T=none->g (.ref T) σ (upd H T (.tup [x,y,z])) fun ib H2=>tb {D with nx:=Pv (i+1),ct:=Pv (i+1),bk:=D.nx} ib H2)(hd:∀σ H,Pv xs.length σ H->D.nx σ H):
  ∃W:Nat->Nat->St->Hp->Prop,(∃m,W 0 m σ H)/\∀i m σ H,W i m σ H->
   ((Im K a b c).stop i H/\D.nx σ H)∨((Im K a b c).go i H/\∃N:St->Hp->Prop,(∀cV H',N cV H'->∃m',m'<m/\W (i+1) m' cV H')/\∀x H',(Im K a b c).wb i H x H'->g x σ H' fun ib H2=>tb {D with nx:=N,ct:=N,bk:=D.nx} ib H2):=by
 refine ⟨fun i m σ H=>m=xs.length-i/\i<=xs.length/\Pv i σ H,⟨xs.length,by simp,dU _,h0⟩,?_⟩;rintro i m σ H ⟨rfl,hi,p⟩;obtain ⟨q1,q2,q3⟩:=hl i σ H hi p;rcases zO i xs.length with lt|ge
 .refine .inr ⟨⟨xs,ys,zs,xs[i],ys[i]'(by omega),zs[i]'(by omega),q1,q2,q3,by simp[lt],by simp,by simp⟩,Pv (i+1),fun cV H' p'=>⟨xs.length-(i+1),by omega,rfl,lt,p'⟩,?_⟩;rintro x H' ⟨T,u,v,z,rfl,hT,rfl,U,h2,h3⟩;exact hs i u v z σ H T (U xs q1) (h2 ys q2) (h3 zs q3) p hT
 .have e:i=xs.length:=by omega
  subst e;exact .inl ⟨⟨xs,q1,dR _⟩,hd σ H p⟩
end L2
namespace WD
def fieldRow(f:ja):List Nat:=[f.label,Vasnpa.bit f.weak,f.to]
def uM(x:lj):List Nat:=x.kind::x.size::x.fields.length::x.fields.flatMap fieldRow
theorem ad7(g:bp):flatGraph g=g.objs.length::(g.objs.flatMap uM++g.roots.length::g.roots):=rfl
theorem ary(b:Bool):EE b=((Vasnpa.bit b:Nat):Int):=by cases b<;>rfl
theorem ad8(l:List ja):(l.flatMap fieldRow).length=l.length*3:=by
 induction l with
 |nil=>rfl
 |cons a l ih=>rw[JD,gR,ih,iz];show 3+_=_;omega
def ad9(t:fZ):Sp:=fun vs H Q _=>∃ag g,vs=[.ref ag]/\i7 t H ag g/\kP g=true/\∀H' r,aC H H'->H r=none->H' r=some (.lst (nats (flatGraph g)))->Q (.ref r) H'
theorem arz{f:Addr}{fd:dn}(F:eW K "tell_row" "tell_row" Qw f fd)(T:Txt K mg t):c8 P w K mg base bJ 1 f fd Qx (ad9 t):=by
 refine F.ok ZL (fun vs H Q E h=>?_) (fun c6 A outer s H vs Q E hr h=>?_)
 .obtain ⟨ag,g,rfl,_⟩:=h;rfl
 .obtain ⟨ag,g,rfl,hg,good,k⟩:=h;have nd:=ZL.nd;refine ⟨_,bF (dB (i:=1) nd rfl (Or.inl rfl) (dG (ax (jR l7 (by rfl) T.len lW (ax (cO (pv 0) rfl) aO)) aO)))
   (bF (kW jW rfl (arv rfl T.zip (ax (cO (pv 0) rfl) (ax (cO (pv 0) rfl) (ax (cO (pv 0) rfl) aO))))
     (Ak rfl (oB (gG (i:=2) nd rfl (Or.inl rfl)) (oB (gG (i:=3) nd rfl (Or.inl rfl)) (oB (gG (i:=4) nd rfl (Or.inl rfl)) xx))))
    (bF (jv (j8 jX xb zU Az (pv 1) (ax (dG (ax (pv 2) (ax (pv 3) (ax (jR l7 (by rfl) T.len lW (ax (pv 4) aO)) aO)))) aO)))
    (cy (kW jW rfl (l0 (pv 4)) (gG (i:=5) nd rfl (Or.inl rfl))
     (cy (jv (j8 jX xb zU Az (pv 1) (ax (dG (ax (cO (pv 5) rfl) (ax (cO (pv 5) rfl) (ax (cO (pv 5) rfl) aO)))) aO))))))))
   (bF (jv (j8 jX n6 n8 nM (pv 1) (ax (jR l7 (by rfl) T.len lW (ax (cO (pv 0) rfl) aO)) aO)))
   (bF (jv (j8 jX xb zU Az (pv 1) (ax (cO (pv 0) rfl) aO)))
   (cy (eN (pv 1)))))),?_⟩
  try dsimp only[fQ,fS,fT,fV]
  obtain ⟨U,h2,h3,h4,h5⟩:=vv.mp good;obtain ⟨dg,aK,aS,aF,aR,aH,aE,pR,gP,hK,Ta,Mh,CZ,_,_,_⟩:=hg.ex;obtain ⟨bs,hFl,hFp⟩:=Mh;have lK:(nats (g.objs.map (·.kind))).length=g.objs.length:=by unfold nats;rw[bt,bt]
  have lS:(nats (g.objs.map (·.size))).length=g.objs.length:=by unfold nats;rw[bt,bt]
  have lF:(bs.map V.ref).length=g.objs.length:=by rw[bt,hFp.length,bt]
  have lR:(nats g.roots).length=g.roots.length:=by unfold nats;rw[bt]
  have all:=S7 good;rw[ad7]at all;simp only[iz,gR]at all;refine ⟨_,rfl,gP,T.iT,T.AS,Cr _ _ _ _ _ _ _,aK,_,rfl,.inl (aD.of hK),(by show 1<=cJ;decide),fun o ho=>?_⟩;rw[lK];have s0:=aC.nw (o:=.lst [V.int (g.objs.length:Int)]) ho;refine ⟨_,rfl,s0 _ _ gP,T.iT,T.AS,Cr _ _ _ _ _ _ _,_,rfl,s0 _ _ gP,T.iT,T.Lv,RG _ _ _ _ _ _ _,_,rfl,s0 _ _ gP,T.iT,T.RV,aa1 _ _ _ _ _ _ _,?_⟩;refine ⟨aK,aS,aF,_,_,_,rfl,aD.of (s0 _ _ hK),aD.of (s0 _ _ Ta),aD.of (s0 _ _ hFl),?_⟩;have pre:∀i,(((g.objs.take i).flatMap uM)).length<=(g.objs.flatMap uM).length:=fun i=>by
   have e:g.objs=g.objs.take i++g.objs.drop i:=(FP i g.objs).symm;have:(g.objs.flatMap uM).length=((g.objs.take i).flatMap uM).length+((g.objs.drop i).flatMap uM).length:=by
    rw[<-gR,<-sZ,<-e]
   omega
  refine arx (K:=K) (a:=aK) (b:=aS) (c:=aF) (xs:=nats (g.objs.map (·.kind))) (ys:=nats (g.objs.map (·.size))) (zs:=bs.map V.ref)
   (fun i σ H'=>∃v2 v3 v4 v5:Option V,σ=[some (.ref ag),some (.ref o),v2,v3,v4,v5]/\aC H H'/\H' o=some (.lst (nats (g.objs.length::(g.objs.take i).flatMap uM))))
   ⟨none,none,none,none,rfl,s0,aJ⟩ (by rw[lK,lS]) (by rw[lK,lF]) (fun i σ H' _ ⟨_,_,_,_,_,s1,_⟩=>⟨aD.of (s1 _ _ hK),aD.of (s1 _ _ Ta),aD.of (s1 _ _ hFl)⟩) ?_ ?_
  .rintro i x y z σ H' Tu hx hy hz ⟨v2,v3,v4,v5,rfl,s1,pq⟩ hT;obtain ⟨kn,Tt,rfl⟩:=nQ hx;obtain ⟨sn,LH,rfl⟩:=nQ hy;obtain ⟨b,hb,rfl⟩:=pd hz;have oJ:i<g.objs.length:=by
    have:=(gq.mp Tt).1
    rwa [bt]at this
   have AL:=iN oJ;rw[gp,AL]at Tt LH;have ek:g.objs[i].kind=kn:=gE Tt;have es:g.objs[i].size=sn:=gE LH;obtain ⟨b',iU,cs,Tw,hbp⟩:=uB hFp (i:=i) (b:=g.objs[i].fields) (by rw[gp,AL];rfl);rw[hb]at iU;cases iU;have s2:aC H (upd H' Tu (.tup [.int (kn:Int),.int (sn:Int),.ref b])):=s1.new hT;have se:(upd H' Tu (.tup [.int (kn:Int),.int (sn:Int),.ref b])) o=some (.lst (nats (g.objs.length::(g.objs.take i).flatMap uM))):=aC.nw hT _ _ pq;refine ⟨Tu,_,rfl,kj.of aJ,rfl,_,_,rfl,_,_,rfl,_,_,rfl,rfl,?_⟩;have lc:(cs.map V.ref).length=g.objs[i].fields.length:=by rw[bt,hbp.length]
   refine ⟨_,rfl,.inl ⟨rfl,_,aD.of se⟩,_,rfl,_,rfl,_,rfl,b,_,rfl,.inl (aD.of (s2 _ _ Tw)),(by show 3<=cJ;decide),fun l1 om=>?_⟩;rw[lc];have p1:=pre i;have p2:=pre (i+1);rw[take_snoc AL,sZ,gR]at p2;have eo:([g.objs[i]].flatMap uM)=uM g.objs[i]:=by simp
   have lo:(uM g.objs[i]).length=3+g.objs[i].fields.length*3:=by
    show (_::_::_::_:List Nat).length=_;rw[iz,iz,iz,ad8];omega
   rw[eo,lo]at p2;have nl1:o≠l1:=dw se om;refine ⟨o,l1,_,_,rfl,rfl,aC.nw om _ _ se,aJ,?_,?_⟩
   .unfold nats;rw[bt,iz,eE];show _+1+3<=_;omega
   have s3:=(s2.new (o:=.lst [V.int (kn:Int),V.int (sn:Int),V.int (g.objs[i].fields.length:Int)]) om).own (o:=.lst (nats (g.objs.length::(g.objs.take i).flatMap uM)++[V.int (kn:Int),V.int (sn:Int),V.int (g.objs[i].fields.length:Int)])) ho;refine ⟨_,rfl,b,rfl,⟨_,aD.of (s3 _ _ Tw)⟩,?_⟩;refine qK (K:=K) (a:=b) (xs:=cs.map V.ref) (fun j σ H'=>∃v5:Option V,σ=[some (.ref ag),some (.ref o),some (.int (kn:Int)),some (.int (sn:Int)),some (.ref b),v5]/\aC H H'/\
     H' o=some (.lst (nats (g.objs.length::((g.objs.take i).flatMap uM++(kn::sn::g.objs[i].fields.length::(g.objs[i].fields.take j).flatMap fieldRow))))))
    ⟨_,rfl,s3,?_⟩ (fun j σ H' _ ⟨_,_,s4,_⟩=>aD.of (s4 _ _ Tw)) ?_ ?_
   .rw[aJ];simp[nats]
   .rintro j x σ iJ hx ⟨v5',rfl,s4,Ip⟩;obtain ⟨c,hc,rfl⟩:=pd hx;have E8:j<g.objs[i].fields.length:=by
     rw[<-lc,bt];exact (gq.mp hc).1
    have HM:=iN E8;obtain ⟨c',Ah,df,hF⟩:=uB hbp (i:=j) HM;rw[hc]at Ah;cases Ah;have Tx:=s4 _ _ hF;refine ⟨_,rfl,.inl ⟨rfl,_,aD.of Ip⟩,?_⟩;refine ⟨_,rfl,Tx,T.AR,T.abl,anT _ _ _,_,rfl,Tx,T.AR,T.RS,aaU _ _ _,_,rfl,Tx,T.AR,T.RT,aaV _ _ _,(by show 3<=cJ;decide),fun l2 iH=>?_⟩;have q1:=ad8 (g.objs[i].fields.take j);rw[mB]at q1;refine ⟨o,l2,_,_,rfl,rfl,aC.nw iH _ _ Ip,aJ,?_,?_⟩
    .unfold nats;simp only[bt,iz,gR,zS];rw[eE];omega
    .refine ⟨_,rfl,(s4.new iH).own ho,?_⟩;rw[aJ,take_snoc HM,sZ];simp[nats,fieldRow,ary]
   .rintro σ H2 ⟨v5',rfl,s4,Ip⟩;refine ⟨_,_,_,_,rfl,s4,?_⟩;have e:g.objs[i].fields.take (cs.map V.ref).length=g.objs[i].fields:=by rw[lc,jY]
    rw[e]at Ip;rw[Ip,take_snoc AL,sZ,eo,<-ek,<-es];rfl
  .rintro σ H1 ⟨v2,v3,v4,v5,rfl,s1,pq⟩;have e:g.objs.take (nats (g.objs.map (·.kind))).length=g.objs:=by rw[lK,jY]
   rw[e]at pq;refine ⟨_,rfl,.inl ⟨rfl,_,aD.of pq⟩,_,rfl,s1 _ _ gP,T.iT,T.Lw,RH _ _ _ _ _ _ _,aR,_,rfl,.inl (aD.of (s1 _ _ CZ)),?_⟩;rw[lR];refine ⟨o,_,_,rfl,rfl,pq,?_,?_⟩
   .unfold nats;rw[bt,iz,eE];omega
   have nRo:aR≠o:=dw CZ ho;refine ⟨_,rfl,.inl ⟨rfl,_,aD.of aJ⟩,_,rfl,(s1.own ho) _ _ gP,T.iT,T.Lw,RH _ _ _ _ _ _ _,?_⟩;refine ⟨o,aR,_,_,rfl,rfl,aJ,(s1.own ho) _ _ CZ,?_,?_⟩
   .unfold nats;simp only[gR,bt,iz,zS];rw[eE];omega
   .rw[oz];refine ⟨_,rfl,k _ o (s1.own ho) ho ?_⟩;rw[aJ,ad7];simp[nats]
theorem arF{f ft:Addr}{fd HG:dn}(F:eW K "answer_row" "answer_row" Rk f fd)(T:Txt K mg t)(ct:eY P w K mg base bJ 1 "tell_row" ft HG Qx (ad9 t)):
  c8 P w K mg base bJ 2 f fd aak (sJ t fun _ _ c=>c=.row):=by
 refine F.ok anx (fun vs H Q E h=>?_) (fun c6 A outer s H vs Q E hr h=>?_)
 .obtain ⟨p,aN,aL,g,past,ns,cS,c,rfl,_⟩:=h;rfl
 .obtain ⟨p,aN,aL,g,past,ns,cS,c,rfl,hD,gs,hN,hL,ll,ln,rfl,k⟩:=h;refine ⟨_,cy (eN (o6 ve (dG (ax (gY T.lN) aO)) (eB ct.G hr rfl ct.m ct.kp ct.b .nil di (ax (cO (pv 0) rfl) aO)))),?_⟩
  try dsimp only[fQ,fS,fT,fV]
  have iE:=hD;obtain ⟨dx,ag,ab,gM,hp,hg,hb,mJ⟩:=hD;refine ⟨(by show 1<=cJ;decide),fun l1 U=>?_⟩;have s1:=aC.nw (o:=.lst [V.int 0]) U;refine ⟨_,rfl,s1 _ _ hp,T.iI,T.jE,j9 _ _,?_⟩;refine ⟨ag,g,rfl,hg.same s1,gs.now,?_⟩;intro H1 l4 s4 xY hv;have sA:=s1.trans s4;refine ⟨l1,l4,_,_,rfl,rfl,s4 _ _ aJ,hv,?_,fun r eD=>?_⟩
  .have:=S7 gs.now;unfold nats;rw[bt,eE];show 1+_<=_;omega
  .have sB:=sA.trans (aC.nw (o:=.lst ([V.int 0]++nats (flatGraph g))) eD);refine k _ r sB.but (sA.free eD) (iE.same sB) ?_;rw[aJ,wJ];rfl
end WD
namespace L2
section
variable{prog:eS}{w:eJ}{A:gc}{E:aq->a9->Prop}{s:a9}
theorem arG{κ:KeyKind}{kd:SortKind}{a kS:Addr}{vs:List aq}{keys:Array aq}{e e1:Nat}{P:PySem.Fin->a9->Prop}(hk:s.heap.get? kS=some (jy "list" keys e))(ha:s.heap.get? a=some (jy "list" #[] e1))(hka:kS≠a)(hsz:keys.size=vs.length)(hZ:vs.length<=1000)(h0:KeysOf κ (keys.zip vs.toArray))(hO:G.LtAt prog w s κ kd)(OI:2<=vs.length->∀{Q:SortKind->a9->Prop},Q kd s->bV (model prog w) A (keyKind' keys) Q E s)(h:∀(ps:Array Keyed) (g h':Heap) (c c2:Nat),ps.Perm (keys.zip vs.toArray)->SortedToK κ ps vs.length->Stable κ ps (keys.zip vs.toArray)->(∀b o,b≠kS->s.heap.get? b=some o->g.get? b=some o)->g.get? kS=some (jy "list" #[] c2)->
   (∀b o,b≠a->g.get? b=some o->h'.get? b=some o)->h'.get? a=some (jy "list" (ps.map (·.2)) c)->P (.done (.ret .none)) {s with heap:=h'}):
  bV (model prog w) A (ksk_end a false vs.toArray e1 (.ref kS) keys) P E s:=by
 have sl:(1000:Nat)<=cJ:=by rw[eE];decide
 have zs:(keys.zip vs.toArray).size=vs.length:=by simp[hsz]
 have tail:∀st:SortSt,(arrOf st).Perm (keys.zip vs.toArray)->SortedToK κ (arrOf st) vs.length->Stable κ (arrOf st) (keys.zip vs.toArray)->failedOf st=none->bV (model prog w) A (ksk_tail a false e1 (.ref kS) st) P E s:=by
  intro st p1 p2 p3 p4;have u1:=BD s.heap kS (m5 fun _=>(#[]:Array aq));have a1:=(u1.2 a hka.symm).trans ha;have k1:=DE hk fun _=>(#[]:Array aq);have Mt:((arrOf st).map (·.2)).size=vs.length:=by rw[Array.size_map,p1.size_eq,zs]
  have u2:=BD (s.heap.update kS (m5 fun _=>(#[]:Array aq))) a (m5 fun _=>(arrOf st).map (·.2));have a2:=DE a1 fun _=>(arrOf st).map (·.2);unfold ksk_tail;dsimp only;refine cE (N9 hk rfl (cE (BF (cE (seqEpoch_at a1 rfl ?_)))) (by rw[hsz];omega) (dU _));refine cE (N9 a1 rfl ?_ (dU _) (by rw[if_neg jt];omega));rw[p4];simp only[bne_self_eq_false,V1,if_false];exact ij (h (arrOf st) _ _ _ _ p1 p2 p3 (fun b o n2 q=>(u1.2 b n2).trans q) k1 (fun b o n1 q=>(u2.2 b n1).trans q) a2)
 unfold ksk_end;dsimp only;rw[if_neg jt];by_cases h2:vs.toArray.size<2
 .rw[if_pos h2,if_pos h2];refine cE (ij ?_);rw[StateT.run_pure];refine cE (ij (tail (SortSt.mk' general' (keys.zip vs.toArray) #[] 7 none) (ahD _) (fun i j Mu hj=>?_) (ahE _) rfl));rw[i9]at h2;obtain rfl:i=j:=by omega
  exact KeyOrd.kle_refl _
 .rw[if_neg h2,if_neg h2];rw[i9]at h2;refine cE (OI (by omega) ?_);refine cE (ou (G.wpS_sortRunsSt (κ:=κ) (kd:=kd) (a₀:=keys.zip vs.toArray) (st:=SortSt.mk' kd (keys.zip vs.toArray) #[] 7 none)
   (Q:=fun _ ur=>(arrOf ur).Perm (keys.zip vs.toArray)/\failedOf ur=none/\SortedToK κ (arrOf ur) vs.length/\Stable κ (arrOf ur) (keys.zip vs.toArray))
   hO h0 ⟨ahD _,rfl,rfl⟩ rfl (ahE _) (by rw[zs];omega) fun ur a1 a2 a3 a4=>⟨a1,a2,by rw[<-zs];exact a3,a4⟩) ?_ fun _ _ q=>q)
  rintro ⟨⟨⟩,ur⟩ s' ⟨rfl,q1,q2,q3,q4⟩;exact tail ur q1 q3 q4 q2
def yd:aq->V
 | .int i _=>.int i
 | .ref a=>.ref a
 |_=>.eM
def Tz(x:V):Prop:=(∃n,x=.int n)∨∃a,x=.ref a
theorem aed{x:V}{u:aq}(p:Tz x)(r:RelV x u):yd u=x:=by
 rcases p with ⟨n,rfl⟩|⟨a,rfl⟩
 .obtain ⟨t,rfl⟩:=r;rfl
 .cases r;rfl
end
def sO{α:Type}(kk:Nat->α)(xs:List V):List (α×V):=xs.zipIdx.map fun p=>(kk p.2,p.1)
section
variable{X:Cx}{pins:List (Addr×Obj)}{σ:St}{H:Hp}{s:a9}
structure Mv(P:eS)(w:eJ)(O:KeyOrd)(ko:Heap->aq->Option O.α)(d0:O.α)(kd:SortKind)(kk:Nat->O.α)(KR:Hp->Nat->V->Prop):Prop where
 same:∀{H1 H2:Hp}{i:Nat}{v:V},aC H1 H2->KR H1 i v->KR H2 i v
 put:∀{H1:Hp}{i:Nat}{v:V}{k:Addr}{l:List V}{o:HO},KR H1 i v->H1 k=some (.lst l)->KR (upd H1 k o) i v
 key:∀{H':Hp}{h:Heap}{i:Nat}{v:V}{u:aq},iS P w H' h->KR H' i v->RelV v u->ko h u=some (kk i)
 lt:∀s':a9,G.LtAt P w s' ⟨O,ko s'.heap,d0⟩ kd
 kind:∀{A:gc}{E:aq->a9->Prop}{H':Hp}{s':a9}{kvs:List V}{keys:Array aq}{Q:SortKind->a9->Prop},iS P w H' s'.heap->Vals kvs keys.toList->2<=kvs.length->(∀i v,kvs[i]? =some v->KR H' i v)->Q kd s'->bV (model P w) A (keyKind' keys) Q E s'
theorem arI{O:KeyOrd}{ko:Heap->aq->Option O.α}{d0:O.α}{kd:SortKind}{kk:Nat->O.α}{KR:Hp->Nat->V->Prop}{l f:Addr}{xs:List V}{Q:aq->a9->Prop}{E:aq->a9->Prop}(I:Inv X pins σ H s)(R:Mv X.prog X.w O ko d0 kd kk KR)(hl:aD X.K H l xs)(hz:xs.length<=1000)(hp:∀x∈xs,Tz x)(turn:∀(i:Nat) (x:V) (u:aq) (H':Hp) (s':a9),xs[i]? =some x->RelV x u->Inv X pins σ H' s'->aC H H'->bV (model X.prog X.w) X.A.in1.in1 (call (.ref f) [u]) (EP X pins σ fun k H2=>aC H' H2/\KR H2 i k) (fun _ _=>False) s')(h:∀(ps:List (O.α×V)) (H':Hp) (D:Addr) (s':a9),ps.Perm (sO kk xs)->ps.Pairwise (fun p q=>O.kle p.1 q.1)->(∀c,ps.filter (fun p=>!O.blt p.1 c&&!O.blt c p.1)=(sO kk xs).filter fun p=>!O.blt p.1 c&&!O.blt c p.1)->
   Inv X pins σ H' s'->aC H H'->H D=none->H' D=some (.lst (ps.map (·.2)))->Q (.ref D) s'):
  bV (model X.prog X.w) X.A (call (.builtin "sorted") [.ref l] [(Str.ofString "key",.ref f)]) Q E s:=by
 have sl:(1000:Nat)+2<=cJ:=by rw[eE];decide
 obtain ⟨vs,rv,⟨o,n,ho,mG,_,qS⟩,_⟩:=I.list hl;have len:=rv.length;refine call_function_entry_kw kind_sorted plain_sorted entry_sorted (ksk_s1 _ _) ?_;unfold Builtin.«sorted»;refine cE (m:=checkCount "sorted" 1 1 _) (ij ?_);refine cE (collect_list ⟨o,ho,mG,n,qS⟩ ?_ (by omega));have Mw:∀b u,s.heap.get? b=some u->((s.heap.push (jy "list" #[] 0)).update s.heap.objs.size (m5 (·++vs.toArray))).get? b=some u:=fun b u q=>by
  rw[Heap.get?_update_ne _ _ _ _ (kg (iK q))];exact gF _ q
 have E9:s.heap.objs.size<((s.heap.push (jy "list" #[] 0)).update s.heap.objs.size (m5 (·++vs.toArray))).objs.size:=by
  rw[Heap.size_update,size_push'];exact FT _
 generalize (s.heap.push (jy "list" #[] 0)).update s.heap.objs.size (m5 (·++vs.toArray))=g1 at Mw E9;refine cE (N6 ?_ (by omega));have BU:(g1.push (jy "list" vs.toArray 0)).get? g1.objs.size=some (jy "list" vs.toArray 0):=lV _ rfl;refine cE (yq (wpAny_call_entry_kw (s:={s with heap:=g1.push (jy "list" vs.toArray 0)}) (self:=.ref g1.objs.size) slot_list_sort ⟨_,BU,rfl⟩ ahr ?body (ksk_l1 _ _)));have na:s.heap.get? g1.objs.size=none:=agK (Du E9);have nH:H g1.objs.size=none:=I.bS.none_of na;show bV (model X.prog X.w) X.A.in1.in1 (Builtin.«list.sort» ⟨[.ref g1.objs.size],[(Str.ofString "key",.ref f)]⟩) _ _ _;rw[ksk_t1];unfold ksk_tree;refine cE (listItems_at BU rfl (cE (N9 BU rfl ?_ (by rw[i9];omega) (dU _))));have u2:=BD (g1.push (jy "list" vs.toArray 0)) g1.objs.size (m5 fun _=>(#[]:Array aq));obtain ⟨e1,Iq⟩:∃e1,((g1.push (jy "list" vs.toArray 0)).update g1.objs.size (m5 fun _=>(#[]:Array aq))).get? g1.objs.size=some (jy "list" #[] e1):=⟨_,DE BU fun _=>(#[]:Array aq)⟩;have aee:∀b u,s.heap.get? b=some u->((g1.push (jy "list" vs.toArray 0)).update g1.objs.size (m5 fun _=>(#[]:Array aq))).get? b=some u:=fun b u q=>
  (u2.2 b (kg (iK (Mw b u q)))).trans (gF _ (Mw b u q))
 generalize (g1.push (jy "list" vs.toArray 0)).update g1.objs.size (m5 fun _=>(#[]:Array aq))=g2 at Iq aee;clear u2 BU Mw;generalize g1.objs.size=a at na nH Iq;refine cE (seqEpoch_at Iq rfl ?_);have I1:Inv X pins σ (upd H a (.gU (jy "list" #[] e1) (.lst []))) {s with heap:=g2}:=I.aa8 (tk:=s.toks) aee na ⟨Iq,⟨dU _,[],e1,.nil,Iq⟩⟩;refine cE (wpAny_newTuple ?_ (by show vs.length<=cJ;omega));have I2:Inv X pins σ (upd H a (.gU (jy "list" #[] e1) (.lst []))) {s with heap:=g2.push (jy "tuple" vs.toArray 0)}:=I1.kept (t':=s.toks) (fun b u q=>gF _ q);generalize g2.push (jy "tuple" vs.toArray 0)=g3 at I2;refine cE (N6 ?_ (dU _));have nk:(upd H a (.gU (jy "list" #[] e1) (.lst []))) g3.objs.size=none:=I2.bS.fresh (dR _);have I3:Inv X pins σ (upd (upd H a (.gU (jy "list" #[] e1) (.lst []))) g3.objs.size (.lst [])) {s with heap:=g3.push (jy "list" #[] 0)}:=
  I2.laid (t':=s.toks) (fun b u q=>gF _ q) (dR _) ⟨dU _,[],0,.nil,lV _ rfl⟩
 have Mx:H g3.objs.size=none:=by
  by_cases z:g3.objs.size=a
  .rw[z];exact nH
  .rw[bC z]at nk;exact nk
 have Fb:g3.objs.size≠a:=fun z=>by rw[z,aJ]at nk;cases nk
 refine yq ?_;show bV _ _ (ksk_rest a (.ref f) false vs.toArray e1 (.ref g3.objs.size)) _ _ {s with heap:=g3.push (jy "list" #[] 0)};generalize g3.objs.size=kS at nk I3 Mx Fb;generalize g3.push (jy "list" #[] 0)=g4 at I3;unfold ksk_rest;refine cE (Wd ?_);rw[List.forIn_toArray];refine cE (ksk_fold (fun i s'=>∃H' kvs,Inv X pins σ H' s'/\aC H H'/\H' a=some (.gU (jy "list" #[] e1) (.lst []))/\H' kS=some (.lst kvs)/\kvs.length=i/\∀j v,kvs[j]? =some v->KR H' j v) vs 0 _
  ⟨_,[],I3,(aC.nw nH).own Mx,by rw[bC Fb.symm,aJ],aJ,rfl,fun j v z=>by simp at z⟩ ?step ?done)
 case step=>
  rintro j u s' hj ⟨H',kvs,J,sm,yK,My,hlen,Mz⟩;rw[vK]at hlen ⊢;obtain ⟨x,hx,rx⟩:∃x,xs[j]? =some x/\RelV x u:=by
   have E8:=(gq.mp hj).1;obtain ⟨u',rP,r'⟩:=rv.get (iN (l:=xs) (i:=j) (by omega));rw[hj]at rP;cases rP;exact ⟨_,iN (by omega),r'⟩
  have hjx:=(gq.mp hx).1;refine cE (Wf (ou (turn j x u H' s' hx rx J sm) (fun ku s2 q=>?_) fun _ _ z=>z.elim));obtain ⟨k,H2,J2,rk,A9,zd⟩:=q;have MB:=A9 _ _ My;obtain ⟨_,bD,m,yg,sv⟩:=J2.bS kS _ MB;have lits:=yg.length;dsimp only;refine cE (N9 sv rfl ?_ (by rw[i9];omega) (by rw[Array.size_push,i9];omega));have u3:=BD s2.heap kS (m5 (·.push ku));have Ba:=DE (c:="list") (xs:=bD.toArray) (n:=m) sv (·.push ku);have J3:=J2.write (x:=kS) (e:=kS) (o:=.lst (kvs++[k])) (t':=s2.toks) (h':=s2.heap.update kS (m5 (·.push ku))) (by rw[MB];trivial) (.inl rfl) (fun b v n q=>(u3.2 b n).trans q) ⟨_,Ba⟩
   ⟨by rw[gR,Dz];omega,bD++[ku],_,yg.append (.cons rk .nil),by rw[Ba];simp[jy];rfl⟩
  refine ij ⟨rfl,upd H2 kS (.lst (kvs++[k])),kvs++[k],J3,(sm.trans A9).own Mx,?_,aJ,by rw[gR,Dz,hlen],fun i v hv=>?_⟩
  .rw[bC Fb.symm];exact A9 _ _ yK
  .by_cases z:i<kvs.length
   .rw[By z]at hv;exact R.put (R.same A9 (Mz i v hv)) MB
   .have hi:i=j:=by
     have:=(gq.mp hv).1;rw[gR,Dz]at this;omega
    subst hi;rw[NQ (by omega)]at hv;have:v=k:=by
     rw[show i-kvs.length=0 by omega]at hv;exact (gE hv).symm
    rw[this];exact R.put zd MB
 case done=>
  rintro s' ⟨H',kvs,J,sm,yK,My,hlen,Mz⟩;rw[vK]at hlen;obtain ⟨_,bD,m,yg,sv⟩:=J.bS kS _ My;have lits:=yg.length;have arJ:s'.heap.get? a=some (jy "list" #[] e1):=(J.bS a _ yK).1;refine cE (listItems_at sv rfl ?_);have TB:∀(i:Nat)(u:aq),bD[i]? =some u->ko s'.heap u=some (kk i):=by
   intro i u hu;have hi:=(gq.mp hu).1;obtain ⟨u',rP,r'⟩:=yg.get (iN (l:=kvs) (i:=i) (by omega));rw[hu]at rP;cases rP;exact R.key J.bS (Mz i _ (iN (by omega))) r'
  refine arG (κ:=⟨O,ko s'.heap,d0⟩) (kd:=kd) sv arJ Fb (by rw[i9];omega) (by omega) ?_ (R.lt s') (fun h2 {Q} q=>R.kind J.bS (by simpa using yg) (by omega) Mz q) ?_
  .intro p u6;obtain ⟨i,hi⟩:=rj u6;have:(bD.zip vs)[i]? =some p:=by simpa using hi
   rw[Wg]at this;exact ⟨_,TB i p.1 this.1⟩
  intro ps g h' c c2 q1 q2 q3 k1 k2 k3 k4;have zl:(bD.toArray.zip vs.toArray).toList=bD.zip vs:=by simp
  have pl:ps.toList.Perm (bD.zip vs):=by rw[<-zl];exact Array.perm_iff_toList_perm.mp q1
  have aef:∀p∈bD.zip vs,(∃i,ko s'.heap p.1=some (kk i))/\∃x∈xs,RelV x p.2:=by
   intro p u6;obtain ⟨i,hi⟩:=rj u6;rw[Wg]at hi;refine ⟨⟨i,TB i p.1 hi.1⟩,?_⟩;have iH:=(gq.mp hi.2).1;obtain ⟨u',rP,r'⟩:=rv.get (iN (l:=xs) (i:=i) (by omega));rw[hi.2]at rP;cases rP;exact ⟨_,Bw _,r'⟩
  have zk:(bD.zip vs).map (fun p=>((ko s'.heap p.1).getD d0,yd p.2))=sO kk xs:=by
   apply Wh;intro i;unfold sO;rw[gp,gp,Oa,vK];by_cases hi:i<xs.length
   .obtain ⟨u',rP,r'⟩:=rv.get (iN (l:=xs) (i:=i) hi);have pJ:bD[i]? =some bD[i]:=iN (by omega);have:(bD.zip vs)[i]? =some (bD[i],u'):=Wg.mpr ⟨pJ,rP⟩;rw[this,iN hi];show some ((ko s'.heap bD[i]).getD d0,yd u')=some (kk i,xs[i]);rw[TB i _ pJ,aed (hp _ (Bw _)) r'];rfl
   .rw[FO (l:=bD.zip vs) (by rw[ahF];omega),FO (l:=xs) (by omega)];rfl
  have plz:=pl.map (fun p=>((ko s'.heap p.1).getD d0,yd p.2));rw[zk]at plz;have psz:ps.size=vs.length:=by
   have:=pl.length_eq;rw[BB,ahF]at this;omega
  have aei:∀p∈ps.toList,p∈bD.zip vs:=fun p u6=>pl.mem_iff.mp u6;have arL:Vals ((ps.toList.map (fun p=>((ko s'.heap p.1).getD d0,yd p.2))).map (·.2)) (ps.map (·.2)).toList:=by
   rw[Array.toList_map,n9];have gen:∀l:List Keyed,(∀p∈l,p∈bD.zip vs)->Vals (l.map ((·.2) ∘ fun p=>((ko s'.heap p.1).getD d0,yd p.2))) (l.map (·.2)):=by
    intro l
    induction l with
    |nil=>intro _;exact .nil
    |cons p r ih=>
     intro hm;refine .cons ?_ (ih fun q hq=>hm q (lU _ hq));obtain ⟨x,hx,rx⟩:=(aef p (hm p (m4 ..))).2;show RelV (yd p.2) p.2;rw[aed (hp x hx) rx];exact rx
   exact gen _ aei
  have Ju:=J.unlock yK (fun o' u' z=>by have:=I.base.qd _ _ _ z;rw[nH]at this;cases this);have Ef:(upd H' a (.lst [])) kS=some (.lst kvs):=by rw[bC Fb];exact My
  have J1:=Ju.write (x:=kS) (e:=kS) (o:=.lst []) (t':=s'.toks) (h':=g) (by rw[Ef];trivial) (.inl rfl) (fun b v nb q=>k1 b v nb q) ⟨_,k2⟩ ⟨dU _,[],c2,.nil,k2⟩;have J2:=J1.write (x:=a) (e:=a) (o:=.lst ((ps.toList.map (fun p=>((ko s'.heap p.1).getD d0,yd p.2))).map (·.2))) (t':=s'.toks) (h':=h') (by rw[bC Fb.symm,aJ];trivial) (.inl rfl) (fun b v nb q=>k3 b v nb q) ⟨_,k4⟩
   ⟨by rw[bt,bt,BB,psz];omega,_,c,arL,by rw[k4]⟩
  refine ⟨_,rfl,ij ⟨_,rfl,h _ _ a _ plz ?_ ?_ J2 (((sm.own nH).own Mx).own nH) nH aJ⟩⟩
  .rw[JG,List.pairwise_iff_getElem];intro i j hi hj Mu;rw[BB]at hi hj;have:=q2 i j (Du Mu) (by omega);unfold KK at this;rw[ahG hi,ahG hj]at this
   simpa using this
  .intro cc;have st:=q3 cc;unfold rowOf at st;rw[zl]at st;have gen:∀l:List Keyed,(∀p∈l,p∈bD.zip vs)->(l.map (fun p=>((ko s'.heap p.1).getD d0,yd p.2))).filter (fun p=>!O.blt p.1 cc&&!O.blt cc p.1)=(l.filter (sameKey ⟨O,ko s'.heap,d0⟩ cc)).map (fun p=>((ko s'.heap p.1).getD d0,yd p.2)):=by
    intro l hm;rw[JC];congr 1;refine qC fun p u6=>?_;obtain ⟨i,hi⟩:=(aef p (hm p u6)).1;have hs:sameKey ⟨O,ko s'.heap,d0⟩ cc p=(!O.blt (kk i) cc&&!O.blt cc (kk i)):=by
     have hi':(KeyKind.mk O (ko s'.heap) d0).keyOf p.1=some (kk i):=hi;unfold sameKey
     split
     .rename_i a' e';rw[hi']at e';cases e';rfl
     .rename_i e';rw[hi']at e';cases e'
    rw[hs];show (!O.blt ((ko s'.heap p.1).getD d0) cc&&!O.blt cc ((ko s'.heap p.1).getD d0))=_;rw[hi];rfl
   rw[gen _ aei,st,<-gen _ (fun p u6=>u6),zk]
end
def KRi(kf:Nat->Int):Hp->Nat->V->Prop:=fun _ i v=>v=.int (kf i)
theorem arN{P:eS}{w:eJ}(kf:Nat->Int):Mv P w intKind.toKeyOrd (fun _ v=>intKind.keyOf v) intKind.dflt oneType' kf (KRi kf) where
 same:=fun _ h=>h
 put:=fun h _=>h
 key:=fun {H' h i v u} _ e r=>by
  have e:v=.int (kf i):=e;subst e;obtain ⟨t,rfl⟩:=r;rfl
 lt:=fun s' A E x y a b Q hx hy q=>by
  rw[keyLt'_oneType];exact intKind_oneLt P w A E s' x y a b hx hy q
 kind:=fun {A E H' s' kvs keys Q} _ r h2 hk q=>by
  have hi:IntsAre keys.toList ((jO kvs.length).map kf):=by
   refine RN (by rw[<-r.length,bt,xc]) fun j v n e1 e2=>?_;rw[gp]at e2;cases e3:(jO kvs.length)[j]? with
   |none=>rw[e3]at e2;cases e2
   |some j'=>
    rw[e3]at e2;have hj:j<kvs.length:=by have:=(gq.mp e3).1;simpa using this
    have:j'=j:=by
     rw[BC hj]at e3;exact (gE e3).symm
    subst this;obtain ⟨u,hu,ru⟩:=r.get (iN (l:=kvs) (i:=j') hj);rw[e1]at hu;cases hu;have e5:kvs[j']=.int (kf j'):=hk j' _ (iN hj);rw[e5]at ru;obtain ⟨t,rfl⟩:=ru;have e6:kf j'=n:=gE e2;exact ⟨t,by rw[e6]⟩
  have e9:kvs.length=keys.size:=(zQ r).trans BB;have e8:2<=keys.size:=by rw[<-e9];exact h2
  rw[ksk_kind hi e8];exact ij q
def Bc(tf:Nat->List Int):Hp->Nat->V->Prop:=fun H i v=>∃a,v=.ref a/\H a=some (.tup ((tf i).map V.int))/\tf i≠[]
theorem ael:∀(ns:List Int)(bD:List aq)(k:Nat),Vals (ns.map V.int) bD->tupItems (fun _=>false) k bD=some (ns.map Sum.inl)
 | [],bD,k,r=>by cases r;rfl
 |n::ns,bD,k,r=>by
  cases r with
  |cons r1 r2=>
   obtain ⟨t,rfl⟩:=r1;have ih:=ael ns _ (k+1) r2;show (if false=true then none else (tupItems (fun _=>false) (k+1) _).map (Sum.inl n::·))=_;rw[if_neg jt,ih];rfl
theorem MC{P:eS}{w:eJ}(tf:Nat->List Int):Mv P w (listOrd itemOrd) (fun h v=>G.tupKeyC h (fun _=>false) v) [] (tuples' true) (fun i=>(tf i).map Sum.inl) (Bc tf) where
 same:=fun s ⟨a,e,h,n⟩=>⟨a,e,s _ _ h,n⟩
 put:=fun ⟨a,e,h,n⟩ hk=>⟨a,e,by rw[bC (iG h hk (by intro z;cases z))];exact h,n⟩
 key:=fun {H' h i v u} ok ⟨a,e,ha,_⟩ r=>by
  subst e;cases r;obtain ⟨_,bD,rv,o,ho,mG,n,hd⟩:=ok a _ ha;show (if G.isTupObj h (.ref a)=true then tupKey h (fun _=>false) (.ref a) else none)=_;have U:G.isTupObj h (.ref a)=true:=by
   show (match h.get? a with|some o=>(match o.cls with| .type n=>n=="tuple"|_=>false)|none=>false)=true;rw[ho];show (match o.cls with| .type n=>n=="tuple"|_=>false)=true;rw[mG];rfl
  rw[if_pos U];show (match h.get? a with|some o=>(match o.data with| .seq xs _=>tupItems (fun _=>false) 0 xs.toList|_=>none)|none=>none)=_;rw[ho];show (match o.data with| .seq xs _=>tupItems (fun _=>false) 0 xs.toList|_=>none)=_;rw[hd];show tupItems (fun _=>false) 0 bD.toArray.toList=_;rw[List.toList_toArray];exact ael _ _ 0 rv
 lt:=fun s'=>G.tupC_ltAt true (G.KeepsTups.refl _)
 kind:=fun {A E H' s' kvs keys Q} ok r h2 hk q=>by
  have gen:∀(l:List V)(us:List aq),Vals l us->(∀v∈l,∃a ns,v=.ref a/\H' a=some (.tup (ns.map V.int))/\ns≠[])->∃fs,fs.length=l.length/\TupsOf s'.heap (fun _=>false) us fs:=by
   intro l
   induction l with
   |nil=>intro us r _;cases r;exact ⟨[],rfl,.nil⟩
   |cons v l ih=>
    intro us r hm;cases r with
    |cons r1 r2=>
     obtain ⟨fs,hl,ht⟩:=ih _ r2 fun v hv=>hm v (lU _ hv);obtain ⟨a,ns,rfl,ha,md⟩:=hm v (m4 ..);cases r1;obtain ⟨_,bD,rv,o,ho,mG,n,hd⟩:=ok a _ ha;cases ns with
     |nil=>exact absurd rfl md
     |cons n0 nr=>
      cases rv with
      |cons q1 q2=>
       obtain ⟨t,rfl⟩:=q1;exact ⟨_::fs,by simp[hl],.cons ⟨a,o,_,n,rfl,ho,mG,hd,rfl,fun _=>⟨n0,t,rfl⟩,fun z=>by cases z⟩ ht⟩
  obtain ⟨fs,hl,ht⟩:=gen kvs keys.toList r fun v hv=>by
   obtain ⟨i,hi⟩:=rj hv;obtain ⟨a,e,ha,hn⟩:=hk i v hi;exact ⟨a,tf i,e,ha,hn⟩
  have:=tup_kind (M:=model P w) (A:=A) (E:=E) (Q:=Q) (by omega) ht q
  simpa using this
structure TC(X:Cx)(args:Arguments)(body:Expr)(scope:jP)(c P:Addr)(pL:List (Str×Addr))(x:Str)(ys:List Str)(cs:List Nat):Prop where
 dflt:defaultsOf args X.env=([],[])
 clo:closureFor scope X.env=pure pL
 code:X.env.code=.ref c
 hd:PySem.W.CodeHd X.base c P
 blt:wB X.base X.mg
 sc:abj x scope pL
 bind:∀(name qual:Str)(pm c6 qW u:aq),bindArgs (PySem.W.kla_fn name qual args body scope pL pm c6 qW) ⟨[u],[]⟩=pure [(x,u)]
 caps:Paired (fun y i=>X.N[i]? =some y/\X.env.scope.names.lookup y=some .cell/\scope.names.lookup y=some .free) ys cs
 cells:∀y a,pL.lookup y=some a->X.env.cells.lookup y=some a
 calm:X.calm=true
section
variable{X:Cx}{pins:List (Addr×Obj)}{σ:St}{H:Hp}{s:a9}
theorem aen{α β:Type}{F:α->β->Prop}{l1:List α}{l2:List β}(h:Paired F l1 l2){i:Nat}{a:α}(e:l1[i]? =some a):∃b,l2[i]? =some b/\F a b:=by
 obtain ⟨b,U,h2⟩:=lM h e;exact ⟨b,U,h2⟩
theorem aeo{args:Arguments}{body:Expr}{scope:jP}{c P:Addr}{pL:List (Str×Addr)}{x:Str}{ys:List Str}{cs:List Nat}{f c':Addr}{pm qW u:aq}{v:V}{A:gc}{wN:List V}{tk:TE}{Q:VK}{qual:Str}(L:TC X args body scope c P pL x ys cs)(I:Inv X pins σ H s)(hf:(f,PySem.W.kla_obj "<lambda>" qual args body scope pL pm c' qW)∈pins)(hc:H c'=some (yR c' qual))(hA:A.frames=X.A.frames)(hr:dQ 1 A)(ru:RelV v u)(Bd:Paired (fun i z=>σ[i]? =some (some z)) cs wN)(sd:∀s H,PE (EA X A (x::ys) qual scope pL f (.ref c') s H) body tk)(hq:tk (some v::wN.map some) H Q)(E:aq->a9->Prop):
  bV (model X.prog X.w) A (call (.ref f) [u]) (EP X pins σ Q) E s:=by
 have yY:=(I.pin _ (uT _ hf)).1;have l1:=L.caps.length;have l2:=Bd.length;refine NW (Dx (aop (N:=x::ys) (caps:=wN) I yY hc hA hr.hd hr.depth L.sc (L.bind _ _ _ _ _ _) ru ?_ (by simp;omega) ?_ (sd s H) hq) fun r s' tH=>?_)
 .intro i y z U h2 h3;cases i with
  |zero=>
   simp only[FW,JB]at U h2;exact .inl ⟨U.symm,h2.symm⟩
  |succ j=>
   simp only[FX]at U h2;obtain ⟨i,hi,n1,n2,n3⟩:=aen L.caps U;obtain ⟨z',YR,hs⟩:=aen Bd hi;have ez:z'=z:=by
    rw[gp,YR]at h2;exact gE (gE h2)
   subst ez;obtain ⟨m,hn,hl⟩:=I.loc;obtain ⟨u',r',lk⟩:=hl i y z' n1 hs (.inr (.inl n2));refine .inr ⟨n3,?_⟩;obtain ⟨a,ha⟩:=L.sc.has y n3;rcases lk with ⟨k1,_⟩|⟨_,a',PV,yB⟩
   .have k1:X.env.scope.names.lookup y=some .local:=k1;rw[n2]at k1;cases k1
   .have:=L.cells y a ha;rw[PV]at this;cases this;exact ⟨a,u',ha,r',yB⟩
 .intro y a ha;have:=L.cells y a ha;exact ⟨I.cell y a this,I.qe y a this⟩
 .cases r with
  |error e=>exact tH.elim
  |ok fl=>
   cases fl with
   |ret u=>exact I.after tH
   |next=>exact False.elim tH
   |brk=>exact False.elim tH
   |cont=>exact False.elim tH
def arO{O:KeyOrd}{ι:Type}(K:cB)(P:Addr)(wO:Pos)(qual:Str)(cs:List Nat)(kkf:ι->Nat->O.α)(KRf:ι->Hp->Nat->V->Prop)(te tk:TE):TE:=fun σ H Q=>GB te As σ H fun v H1=>
 ∃(l:Addr)(xs wN:List V)(ix:ι),v=[.ref l]/\aD K H1 l xs/\xs.length<=1000/\(∀x∈xs,Tz x)/\l≠P/\ml H1 P wO qual/\Paired (fun i z=>σ[i]? =some (some z)) cs wN/\
 (∀(i:Nat)(x:V)(H2:Hp),xs[i]? =some x->bY P H1 H2->tk (some x::wN.map some) H2 fun k H3=>aC H2 H3/\KRf ix H3 i k)/\
 ∀(ps:List (O.α×V))(H':Hp)(D:Addr),ps.Perm (sO (kkf ix) xs)->ps.Pairwise (fun p q=>O.kle p.1 q.1)->(∀c,ps.filter (fun p=>!O.blt p.1 c&&!O.blt c p.1)=(sO (kkf ix) xs).filter fun p=>!O.blt p.1 c&&!O.blt c p.1)->
  bY P H1 H'->ml H' P wO qual->H1 D=none->H' D=some (.lst (ps.map (·.2)))->Q (.ref D) H'
theorem aep{O:KeyOrd}{ι:Type}{ko:Heap->aq->Option O.α}{d0:O.α}{kd:SortKind}{kkf:ι->Nat->O.α}{KRf:ι->Hp->Nat->V->Prop}{p pos wO Ks:Pos}{e body:Expr}{args:Arguments}{scope:jP}{te tk:TE}{c P:Addr}{pL:List (Str×Addr)}{x:Str}{ys:List Str}{cs:List Nat}{qual:Str}(R:∀ix,Mv X.prog X.w O ko d0 kd (kkf ix) (KRf ix))(L:TC X args body scope c P pL x ys cs)(hr:dQ 4 X.A)(eq:X.env.qual++"<lambda>"=qual)(hg:Gl X "sorted")(hm:X.mg "sorted"=none)(he:PE X e te)(sd:∀A f c' s H,dQ 1 A->PE (EA X A (x::ys) qual scope pL f (.ref c') s H) body tk)(oC:iP [e] X.env=[(false,eval e X.env)]:=by rfl):
  PE X (.Call (.Name "sorted" p) [e] [⟨some "key",.Lambda args body scope wO,Ks⟩] pos) (arO X.K P wO qual cs kkf KRf te tk):=by
 subst eq;intro pins s σ H Q I h;refine zR (BX I hg hm V9 ?_);refine ahH (by rw[oC];rfl) rfl (evalArgs_kw2 rfl (dt ((ax he aO oC:PA X [e] (GB te As)) pos pins s σ H _ I h) fun us s1 q1=>kwAll_cons ?_) oC);obtain ⟨vs,H1,I1,r1,l,xs,wN,ix,ev,hl,hz,hp,Ir,hT,Bd,hk,hq⟩:=q1;subst ev;obtain ⟨u,rfl,ru⟩:=vals1 r1;cases ru;refine abc I1 L.dflt L.clo L.code L.hd L.blt hT fun f c' qW H2 s2 I2 Av b2 rF=>kwAll_nil ?_;have iH:aD X.K H2 l xs:=by
  rcases hl with (z|⟨o,z⟩)|z
  .exact .inl (.inl (b2 _ _ z Ir))
  .exact .inl (.inr ⟨o,b2 _ _ z Ir⟩)
  .exact .inr z
 refine arI I2 (R ix) iH hz hp (fun i y u H3 s3 hy ry I3 pT=>?_) fun ps H3 D s3 q1 q2 q3 I3 pT hD sP=>?_
 .exact aeo (A:=X.A.in1.in1) L I3 (m4 ..) (pT _ _ Av) rfl (hr.in1.in1.mono (j:=1) (k:=2) (by decide)) ry Bd (fun s H=>sd _ _ _ _ _ (hr.in1.in1.mono (j:=1) (k:=2) (by decide))) (hk i y H3 hy fun b o e n=>pT _ _ (b2 b o e n)) _
 .refine ⟨.ref D,H3,I3.Lp,rfl,hq ps H3 D q1 q2 q3 (fun b o e n=>pT _ _ (b2 b o e n)) (rF.same pT) ?_ sP⟩;cases e:H1 D with
  |none=>rfl
  |some o=>
   by_cases z:D=P
   .obtain ⟨qs,e2,_⟩:=rF;rw[z,e2]at hD;cases hD
   .rw[b2 _ _ e z]at hD;cases hD
end
theorem aeq:∀{a b c:List Int},HT.lexLt a b=true->HT.lexLt b c=true->HT.lexLt a c=true
 | [],[],_,h,_=>by cases h
 | [],_::_,[],_,h=>by cases h
 | [],_::_,_::_,_,_=>rfl
 |_::_,[],_,h,_=>by cases h
 |_::_,_::_,[],_,h=>by cases h
 |x::xs,y::ys,z::zs,U,h2=>by
  rw[HT.Eb]at U h2 ⊢;by_cases e1:x=y
  .rw[if_pos e1]at U;by_cases e2:y=z
   .rw[if_pos e2]at h2;rw[if_pos (e1.trans e2)];exact aeq U h2
   .rw[if_neg e2]at h2;rw[if_neg (by omega)];have:=of_decide_eq_true h2;exact decide_eq_true (by omega)
  .rw[if_neg e1]at U;have l1:=of_decide_eq_true U;by_cases e2:y=z
   .rw[if_neg (by omega)];exact decide_eq_true (by omega)
   .rw[if_neg e2]at h2;have l2:=of_decide_eq_true h2;rw[if_neg (by omega)];exact decide_eq_true (by omega)
theorem TH:∀a:List Int,HT.lexLt a a=false
 | []=>rfl
 |x::xs=>by
  rw[HT.Eb,if_pos rfl];exact TH xs
section
variable{X:Cx}{pins:List (Addr×Obj)}{σ:St}{H:Hp}{s:a9}
theorem arP{H':Hp}{s':a9}{tf:Nat->List Int}{i j:Nat}{k k':V}{u u':aq}{A:gc}{E:aq->a9->Prop}{Q:aq->a9->Prop}(ok:iS X.prog X.w H' s'.heap)(U:Bc tf H' i k)(h2:Bc tf H' j k')(r1:RelV k u)(r2:RelV k' u')(hu:A.units<cLine)(h:Q (.bool (HT.lexLt (tf i) (tf j))) s'):bV (model X.prog X.w) A (richCompare .Lt u u') Q E s':=by
 obtain ⟨a,rfl,ha,_⟩:=U;obtain ⟨b,rfl,hb,_⟩:=h2;cases r1;cases r2;obtain ⟨_,bD,v1,p1⟩:=ok a _ ha;obtain ⟨_,oF,v2,p2⟩:=ok b _ hb;exact (HT.akG p1 p2 (by simpa using intsAre_of v1) (by simpa using intsAre_of v2) hu h:bV (model X.prog X.w) A (compareOp .Lt (.ref a) (.ref b)) Q E s')
def arQ(X:Cx)(pins:List (Addr×Obj))(σ:St)(H:Hp)(xs:List V)(tf:Nat->List Int)(It S l:Addr)(j i:Nat)(s':a9):Prop:=∃(H':Hp)(x k:V)(oI:Obj),Inv X ((It,oI)::pins) σ H' s'/\oI.cls=.type "list_iterator"/\oI.data=.fields #[.ref l,.int ((j+1:Nat):Int) 0]/\aC H H'/\
 H' S=some (.lst [x,k])/\xs[i]? =some x/\Bc tf H' i k/\i<=j/\∀j',j'<=j->HT.lexLt (tf j') (tf i)=false
theorem arR{tf:Nat->List Int}{l f It S:Addr}{xs:List V}{R:Result->a9->Prop}(hh:X.A.handled=none)(hu:X.A.in1.units<cLine)(hl:aD X.K H l xs)(hS:H S=none)(hIt:H It=none)(MD:S≠It)(hz:xs.length<=1000)(hIn:(It∈X.ex∨X.kG.heap.objs.size<=It)/\It≠X.env.locals/\(∀x c,X.env.cells.lookup x=some c->c≠It)/\∀p∈X.pn++pins,p.1≠It)(Fd:l≠It)(turn:∀(i:Nat) (x:V) (u:aq) (H':Hp) (s':a9) (vU:List (Addr×Obj)),xs[i]? =some x->RelV x u->Inv X vU σ H' s'->(∀p∈pins,p∈vU)->aC H H'->bV (model X.prog X.w) X.A.in1 (call (.ref f) [u]) (EP X vU σ fun k H2=>aC H' H2/\Bc tf H2 i k) (fun _ _=>False) s')(h:∀(i:Nat) (x:V) (u:aq) (H':Hp) (s':a9),xs[i]? =some x->(∀j,j<xs.length->HT.lexLt (tf j) (tf i)=false)->Inv X pins σ H' s'->aC H H'->RelV x u->R (.ok (.ret u)) s'):
  ∀(r j i:Nat)(s':a9),xs.length-(j+1)=r->j+1<=xs.length->arQ X pins σ H xs tf It S l j i s'->codeAny (model X.prog X.w) X.A (.builtin "min.loop" ⟨[.ref It,.ref f,.ref S],[]⟩) R s':=by
 have nm:(toString "min"++toString ".loop":String)="min.loop":=by decide
 intro r
 induction r with
 |zero=>
  rintro j i s' hr hj ⟨H',x,k,oI,J,c1,c2,sm,Fe,hx,hk,Mu,hb⟩;have hjn:j+1=xs.length:=by omega
  obtain ⟨vs,rv,⟨o,n,ho,mG,_,qS⟩,_⟩:=J.list (sm.seq hl);have len:=rv.length;have W:=NZ (prog:=X.prog) (w:=X.w) (A:=X.A.in1) hh It l Fd vs.toArray;have hsz:vs.toArray.size=vs.length:=i9 ..;obtain ⟨_,bD,m,yg,sv⟩:=J.bS S _ Fe;obtain ⟨ux,r1,rfl,rx,q1⟩:∃ux r1,bD=ux::r1/\RelV x ux/\Vals [k] r1:=by
   cases yg with
   |cons a b=>exact ⟨_,_,rfl,a,b⟩
  obtain ⟨uk,rfl,rk⟩:=vals1 q1;have C7:=J.pin (It,oI) (uT _ (m4 ..));refine Wi Wj ?_;rw[Wk DF _];show bV _ X.A.in1 (seqItems? (.ref S) >>= _) _ _ _;refine cE (zV sv rfl ?_);show bV _ X.A.in1 (tryCatch (pyNext (.ref It)) _ >>= _) _ _ _;refine cE (FZ (W.done _ _ _ ⟨⟨oI,C7.1,c1,by rw[c2,hsz,<-len,<-hjn]⟩,⟨o,ho,mG,n,qS⟩⟩ fun h' Ff pJ=>?_));have J1:=J.Lp.turned (it:=It) (t':=Ff) (h':=h') (fun b u nb q=>pJ b u (by simpa using nb) q) C7.2.1 hIn.2.1 hIn.1 hIn.2.2.1 hIn.2.2.2;obtain ⟨_,its',m',arT,aes⟩:=J1.bS S _ Fe;have l2:=arT.length;show bV _ X.A.in1 (updateSeq S (fun _=>#[]) >>= _) _ _ _;have u1:=BD h' S (m5 fun _=>(#[]:Array aq));have aet:=DE (c:="list") aes fun _=>(#[]:Array aq);refine cE (JE aes rfl (cE (BF (ij ?_))) (by rw[i9,<-l2,eE];show 2<=_;decide) (dU _));have J2:=J1.write (x:=S) (e:=S) (o:=.lst []) (t':=Ff) (h':=h'.update S (m5 fun _=>(#[]:Array aq))) (by rw[Fe];trivial) (.inl rfl) (fun b v n q=>(u1.2 b n).trans q) ⟨_,aet⟩ ⟨dU _,[],_,.nil,aet⟩;exact h i x ux _ _ hx (fun j' Ge=>hb j' (by omega)) J2 (sm.own hS) rx
 |succ r ih=>
  rintro j i s' hr hj ⟨H',x,k,oI,J,c1,c2,sm,Fe,hx,hk,Mu,hb⟩;have eU:j+1<xs.length:=by omega
  obtain ⟨vs,rv,⟨o,n,ho,mG,_,qS⟩,_⟩:=J.list (sm.seq hl);have len:=rv.length;have W:=NZ (prog:=X.prog) (w:=X.w) (A:=X.A.in1) hh It l Fd vs.toArray;have hsz:vs.toArray.size=vs.length:=i9 ..;obtain ⟨_,bD,m,yg,sv⟩:=J.bS S _ Fe;obtain ⟨ux,r1,rfl,rx,q1⟩:∃ux r1,bD=ux::r1/\RelV x ux/\Vals [k] r1:=by
   cases yg with
   |cons a b=>exact ⟨_,_,rfl,a,b⟩
  obtain ⟨uk,rfl,rk⟩:=vals1 q1;have C7:=J.pin (It,oI) (uT _ (m4 ..));refine Wi Wj ?_;rw[Wk DF _];show bV _ X.A.in1 (seqItems? (.ref S) >>= _) _ _ _;refine cE (zV sv rfl ?_);show bV _ X.A.in1 (tryCatch (pyNext (.ref It)) _ >>= _) _ _ _;refine cE (FZ (W.item (j+1) _ _ _ (by rw[hsz];omega) ⟨⟨oI,C7.1,c1,c2⟩,⟨o,ho,mG,n,qS⟩⟩ fun v h' Ff hP TJ pJ=>?_));have hv:vs[j+1]? =some v:=by simpa using hP
  obtain ⟨y,hy,ry⟩:∃y,xs[j+1]? =some y/\RelV y v:=by
   obtain ⟨u',rP,r'⟩:=rv.get (iN (l:=xs) (i:=j+1) eU);rw[hv]at rP;cases rP;exact ⟨_,iN eU,r'⟩
  obtain ⟨Fg,TK,d1,d2⟩:=id TJ.1;have J1:=J.Lp.turned (it:=It) (t':=Ff) (h':=h') (fun b u nb q=>pJ b u (by simpa using nb) q) C7.2.1 hIn.2.1 hIn.1 hIn.2.2.1 hIn.2.2.2;have J2:=J1.Lo (a:=It) (o:=Fg) TK C7.2.1 hIn.2.1 C7.2.2.2.1 (by intro z e;rw[d2]at e;cases e);show bV _ X.A.in1 (tryCatch (holding [v] (call (.ref f) [v])) _ >>= _) _ _ _;refine cE (FZ (yq (ou (turn (j+1) y v H' _ _ hy ry J2 (fun p hp=>lU _ hp) sm) (fun kv s3 q3=>?_) fun _ _ hF=>hF.elim)));obtain ⟨k3,H3,J3,r3,pT,ze⟩:=q3;have hkb:=(MC (P:=X.prog) (w:=X.w) tf).same pT hk;show bV _ X.A.in1 (tryCatch (holding [v,kv] (richCompare .Lt kv uk >>= _)) _ >>= _) _ _ _;refine cE (FZ (yq (cE (arP J3.bS ze hkb r3 rk hu (cE (yq (BA ?_)))))));refine cE (BF (ij ?_));have Bf:=pT _ _ Fe;obtain ⟨_,Ts,m3,TM,Ba⟩:=J3.bS S _ Bf;have l3:=TM.length;cases elt:HT.lexLt (tf (j+1)) (tf i) with
  |true=>
   simp only[if_true];have u1:=BD s3.heap S (m5 fun _=>#[v,kv]);have Iu:=DE (c:="list") Ba fun _=>#[v,kv];refine cE (JE Ba rfl (cE (BF ?_)) (by rw[i9,<-l3,eE];show 2<=_;decide) (by rw[eE];show 2<=_;decide));rw[nm];have J4:=J3.write (x:=S) (e:=S) (o:=.lst [y,k3]) (t':=s3.toks) (h':=s3.heap.update S (m5 fun _=>#[v,kv])) (by rw[Bf];trivial) (.inl rfl) (fun b v n q=>(u1.2 b n).trans q) ⟨_,Iu⟩ ⟨by rw[eE];show 2<=_;decide,[v,kv],_,.cons ry (.cons r3 .nil),Iu⟩;refine ij ⟨Ob DF _,ih (j+1) (j+1) _ (by omega) eU ⟨_,y,k3,Fg,J4,d1,d2,(sm.trans pT).own hS,aJ,hy,(MC (P:=X.prog) (w:=X.w) tf).put ze Bf,dR _,fun j' Ge=>?_⟩⟩;by_cases e:j'=j+1
   .rw[e];exact TH _
   .cases e2:HT.lexLt (tf j') (tf (j+1)) with
    |false=>rfl
    |true=>
     have:=aeq e2 elt;rw[hb j' (by omega)]at this;cases this
  |false=>
   simp only[V1,if_false];refine cE (BF ?_);rw[nm];refine ij ⟨Ob DF _,ih (j+1) i _ (by omega) eU ⟨_,x,k,Fg,J3,d1,d2,sm.trans pT,Bf,hx,hkb,by omega,fun j' Ge=>?_⟩⟩;by_cases e:j'=j+1
   .rw[e];exact elt
   .exact hb j' (by omega)
theorem arU{tf:Nat->List Int}{l f:Addr}{xs:List V}{Q E:aq->a9->Prop}(I:Inv X pins σ H s)(hh:X.A.handled=none)(hu:X.A.in1.units<cLine)(hl:aD X.K H l xs)(md:0<xs.length)(hz:xs.length<=1000)(turn:∀(i:Nat) (x:V) (u:aq) (H':Hp) (s':a9) (vU:List (Addr×Obj)),xs[i]? =some x->RelV x u->Inv X vU σ H' s'->(∀p∈pins,p∈vU)->aC H H'->bV (model X.prog X.w) X.A.in1 (call (.ref f) [u]) (EP X vU σ fun k H2=>aC H' H2/\Bc tf H2 i k) (fun _ _=>False) s')(h:∀(i:Nat) (x:V) (u:aq) (H':Hp) (s':a9),xs[i]? =some x->(∀j,j<xs.length->HT.lexLt (tf j) (tf i)=false)->Inv X pins σ H' s'->aC H H'->RelV x u->Q u s'):
  bV (model X.prog X.w) X.A (call (.builtin "min") [.ref l] [(Str.ofString "key",.ref f)]) Q E s:=by
 have nm:(toString "min"++toString ".loop":String)="min.loop":=by decide
 obtain ⟨vs,rv,⟨o,n,ho,mG,_,qS⟩,_⟩:=I.list hl;have len:=rv.length;have hls:s.heap.IsList l vs.toArray:=⟨o,ho,mG,n,qS⟩;refine kmk_tree PySem.F.kind_min PySem.F.plain_min PySem.F.entry_min (kmk_min_key _ _) ?_;show bV _ X.A.in1 (Builtin.Builtins.bindParams "min" ["key","default"] 0 ⟨[],[(Str.ofString "key",.ref f)]⟩ >>= _) _ _ s;refine cE (wpAny_of_eq (show Builtin.Builtins.bindParams "min" ["key","default"] 0 ⟨[],[(Str.ofString "key",.ref f)]⟩=pure [some (.ref f),none] from rfl) (cE (ij ?_)));refine cE (FR hls (cE (N6 ?_ (dU _))));rw[nm];have I1:Inv X pins σ H {s with heap:=s.heap.push {cls:=.type "list_iterator",data:=.fields #[.ref l,.int 0 0]}}:=I.kept (t':=s.toks) (fun b u q=>gF _ q);have gI:(s.heap.push {cls:=.type "list_iterator",data:=.fields #[.ref l,.int 0 0]}).get? s.heap.objs.size=some {cls:=.type "list_iterator",data:=.fields #[.ref l,.int 0 0]}:=lV _ rfl;have E9:s.heap.objs.size<(s.heap.push {cls:=.type "list_iterator",data:=.fields #[.ref l,.int 0 0]}).objs.size:=by rw[size_push'];exact FT _
 have TU:H s.heap.objs.size=none:=I.bS.fresh (dR _);have hIn:(s.heap.objs.size∈X.ex∨X.kG.heap.objs.size<=s.heap.objs.size)/\s.heap.objs.size≠X.env.locals/\(∀x c,X.env.cells.lookup x=some c->c≠s.heap.objs.size)/\∀p∈X.pn++pins,p.1≠s.heap.objs.size:=by
  refine ⟨.inr I.sz,yr I.lt,fun x c e=>?_,fun p hp=>?_⟩
  .obtain ⟨v,o',p8,_⟩:=I.cell x c e;exact kg (iK p8)
  .exact kg (iK (I.pin p hp).1)
 have LX:s.heap.objs.size∉X.fs:=I.JZ (dR _);have Fd:l≠s.heap.objs.size:=kg (iK ho);have e1:(s.heap.push {cls:=.type "list_iterator",data:=.fields #[.ref l,.int 0 0]}).get? l=some o:=gF _ ho;generalize s.heap.push {cls:=.type "list_iterator",data:=.fields #[.ref l,.int 0 0]}=g1 at I1 gI E9 e1;generalize s.heap.objs.size=It at gI TU hIn LX Fd E9;have ME:H g1.objs.size=none:=I1.bS.fresh (dR _);have MD:g1.objs.size≠It:=yr E9;have I2:Inv X pins σ (upd H g1.objs.size (.lst [])) {s with heap:=g1.push (jy "list" #[] 0)}:=I1.laid (t':=s.toks) (fun b u q=>gF _ q) (dR _) ⟨dU _,[],0,.nil,lV _ rfl⟩;have gI2:(g1.push (jy "list" #[] 0)).get? It=some {cls:=.type "list_iterator",data:=.fields #[.ref l,.int 0 0]}:=gF _ gI;have gS:(g1.push (jy "list" #[] 0)).get? g1.objs.size=some (jy "list" #[] 0):=lV _ rfl;have aew:(g1.push (jy "list" #[] 0)).IsList l vs.toArray:=⟨o,gF _ e1,mG,n,qS⟩;have A9:aC H (upd H g1.objs.size (.lst [])):=aC.nw ME;have TX:(upd H g1.objs.size (.lst [])) g1.objs.size=some (.lst []):=aJ;have TY:(upd H g1.objs.size (.lst [])) It=none:=by rw[bC MD.symm];exact TU
 generalize upd H g1.objs.size (.lst [])=H2 at I2 A9 TX TY;generalize g1.push (jy "list" #[] 0)=g2 at I2 gI2 gS aew;generalize g1.objs.size=S at ME MD gS TX;refine ij ⟨Ob DF _,?_⟩;have hsz:vs.toArray.size=vs.length:=i9 ..;refine Wi Wj ?_;rw[Wk DF _];show bV _ X.A.in1 (seqItems? (.ref S) >>= _) _ _ _;refine cE (zV gS rfl ?_);show bV _ X.A.in1 (tryCatch (pyNext (.ref It)) _ >>= _) _ _ _;refine cE (FZ ((NZ (prog:=X.prog) (w:=X.w) (A:=X.A.in1) hh It l Fd vs.toArray).item 0 _ _ _ (by rw[hsz];omega) ⟨⟨_,gI2,rfl,rfl⟩,aew⟩ fun v h' Ff hP TJ pJ=>?_));have hv:vs[0]? =some v:=by simpa using hP
 obtain ⟨y,hy,ry⟩:∃y,xs[0]? =some y/\RelV y v:=by
  obtain ⟨u',rP,r'⟩:=rv.get (iN (l:=xs) (i:=0) md);rw[hv]at rP;cases rP;exact ⟨_,iN md,r'⟩
 obtain ⟨Fg,TK,d1,d2⟩:=id TJ.1;have J1:=I2.turned (it:=It) (t':=Ff) (h':=h') (fun b u nb q=>pJ b u (by simpa using nb) q) TY hIn.2.1 hIn.1 hIn.2.2.1 hIn.2.2.2;have J2:=J1.Lo (a:=It) (o:=Fg) TK TY hIn.2.1 LX (by intro z e;rw[d2]at e;cases e);show bV _ X.A.in1 (tryCatch (holding [v] (call (.ref f) [v])) _ >>= _) _ _ _;refine cE (FZ (yq (ou (turn 0 y v H2 _ _ hy ry J2 (fun p hp=>lU _ hp) A9) (fun kv s3 q3=>?_) fun _ _ hF=>hF.elim)));obtain ⟨k3,H3,J3,r3,pT,ze⟩:=q3;have Bf:=pT _ _ TX;obtain ⟨_,Ts,m3,TM,Ba⟩:=J3.bS S _ Bf;have l3:=TM.length;have u1:=BD s3.heap S (m5 fun _=>#[v,kv]);have Iu:=DE (c:="list") Ba fun _=>#[v,kv];show bV _ X.A.in1 (updateSeq S (fun _=>#[v,kv]) >>= _) _ _ _;refine cE (JE Ba rfl ?_ (by rw[i9,<-l3,eE];show 0<=_;decide) (by rw[eE];show 2<=_;decide));rw[nm];have J4:=J3.write (x:=S) (e:=S) (o:=.lst [y,k3]) (t':=s3.toks) (h':=s3.heap.update S (m5 fun _=>#[v,kv])) (by rw[Bf];trivial) (.inl rfl) (fun b v n q=>(u1.2 b n).trans q) ⟨_,Iu⟩ ⟨by rw[eE];show 2<=_;decide,[v,kv],_,.cons ry (.cons r3 .nil),Iu⟩;refine ij ⟨Ob DF _,arR hh hu hl ME TU MD hz hIn Fd turn (fun i x u H' s' a1 a2 a3 a4 a5=>h i x u H' s' a1 a2 a3 a4 a5) _ 0 0 _ rfl (by omega)
  ⟨_,y,k3,Fg,J4,d1,d2,(A9.trans pT).own ME,aJ,hy,(MC (P:=X.prog) (w:=X.w) tf).put ze Bf,dR _,fun j' Ge=>?_⟩⟩
 have:j'=0:=by omega
 rw[this];exact TH _
def arW(K:cB)(P:Addr)(wO:Pos)(qual:Str)(cs:List Nat)(te tk:TE):TE:=fun σ H Q=>GB te As σ H fun v H1=>
 ∃(l:Addr)(xs wN:List V)(tf:Nat->List Int),v=[.ref l]/\aD K H1 l xs/\0<xs.length/\xs.length<=1000/\l≠P/\ml H1 P wO qual/\Paired (fun i z=>σ[i]? =some (some z)) cs wN/\
 (∀(i:Nat)(x:V)(H2:Hp),xs[i]? =some x->bY P H1 H2->tk (some x::wN.map some) H2 fun k H3=>aC H2 H3/\Bc tf H3 i k)/\
 ∀(i:Nat)(x:V)(H':Hp),xs[i]? =some x->(∀j,j<xs.length->HT.lexLt (tf j) (tf i)=false)->bY P H1 H'->ml H' P wO qual->Q x H'
theorem arX{p pos wO Ks:Pos}{e body:Expr}{args:Arguments}{scope:jP}{te tk:TE}{c P:Addr}{pL:List (Str×Addr)}{x:Str}{ys:List Str}{cs:List Nat}{qual:Str}(L:TC X args body scope c P pL x ys cs)(hr:dQ 4 X.A)(eq:X.env.qual++"<lambda>"=qual)(hg:Gl X "min")(hm:X.mg "min"=none)(he:PE X e te)(sd:∀A f c' s H,dQ 1 A->PE (EA X A (x::ys) qual scope pL f (.ref c') s H) body tk)(oC:iP [e] X.env=[(false,eval e X.env)]:=by rfl):
  PE X (.Call (.Name "min" p) [e] [⟨some "key",.Lambda args body scope wO,Ks⟩] pos) (arW X.K P wO qual cs te tk):=by
 subst eq;intro pins s σ H Q I h;refine zR (BX I hg hm boot_min ?_);refine ahH (by rw[oC];rfl) rfl (evalArgs_kw2 rfl (dt ((ax he aO oC:PA X [e] (GB te As)) pos pins s σ H _ I h) fun us s1 q1=>kwAll_cons ?_) oC);obtain ⟨vs,H1,I1,r1,l,xs,wN,tf,ev,hl,md,hz,Ir,hT,Bd,hk,hq⟩:=q1;subst ev;obtain ⟨u,rfl,ru⟩:=vals1 r1;cases ru;refine abc I1 L.dflt L.clo L.code L.hd L.blt hT fun f c' qW H2 s2 I2 Av b2 rF=>kwAll_nil ?_;have iH:aD X.K H2 l xs:=by
  rcases hl with (z|⟨o,z⟩)|z
  .exact .inl (.inl (b2 _ _ z Ir))
  .exact .inl (.inr ⟨o,b2 _ _ z Ir⟩)
  .exact .inr z
 refine arU (tf:=tf) I2 hr.hd hr.in1.ako iH md hz (fun i y u H3 s3 vU hy ry I3 hp pT=>?_) fun i y u H3 s3 hy hb I3 pT ry=>?_
 .exact aeo (A:=X.A.in1) L I3 (hp _ (m4 ..)) (pT _ _ Av) rfl (hr.in1.mono (j:=1) (k:=3) (by decide)) ry Bd (fun s H=>sd _ _ _ _ _ (hr.in1.mono (j:=1) (k:=3) (by decide))) (hk i y H3 hy fun b o e n=>pT _ _ (b2 b o e n)) _
 .exact ⟨y,H3,I3.Lp,ry,hq i y H3 hy hb (fun b o e n=>pT _ _ (b2 b o e n)) (rF.same pT)⟩
end
def arY(td ty tx:TE):TE:=fun σ H Q=>td σ H fun x H1=>∃a,x=.ref a/\Zi H1 a/\ty σ H1 fun y H2=>tx σ H2 fun z H3=>∃(kvs:List (Key×V))(k:Key),H3 a=some (.dK kvs)/\y=kV k/\kvs.length<cJ/\
 (∀v,hJ kvs k=some v->Q v H3)/\(hJ kvs k=none->Q z (upd H3 a (.dK (putK kvs k z))))
section
variable{X:Cx}{o e f:Expr}{apos lH:Pos}{td ty tx:TE}
theorem arZ(ho:PE X o td)(he:PE X e ty)(hf:PE X f tx)(m:M2 X o "setdefault" apos e f lH):PE X (.Call (.Attribute o "setdefault" apos) [e,f] [] lH) (arY td ty tx):=by
 intro pins s σ H Q I h;refine ahn m.base m.few m.line PySem.F.plainAttrs_dict ahI PySem.F.type_dict_setdefault (dt (ho pins s σ H _ I h) fun u s1 ⟨x,H1,I1,rx,a,ex,d,q1⟩=>?_);subst ex;obtain rfl:u=Value.ref a:=rx;obtain ⟨t1,t2,_⟩:=amh I1 d;refine ⟨t1,t2,?_⟩;rw[m.trees];refine VU rfl (ahb (VO (dt (he pins s1 σ H1 _ I1 q1) fun iv s2 ⟨y,H2,I2,ry,q2⟩=>
  VO (dt (hf pins s2 σ H2 _ I2 q2) fun fv s3 ⟨z,H3,I3,rz,kvs,k,eH,ey,hl,q3,q4⟩=>agT ?_))))
 subst ey;obtain ⟨zz,hd,vs,rel,dd⟩:=PL I3.bS eH;refine call_meetsIn ahI dd.typeIs PySem.F.entry_dict_setdefault (PySem.F.args_dict_setdefault_3 _ _ _) (kt_meets_setdefault (oy X.prog X.w) a (AG ry) hd fv) ⟨vs,dd,by rw[<-rel.length];exact zz,fun v hv=>?_,fun hn h' xI hs=>?_⟩
 .have rv:=rel.val k;rw[show valueAt vs k=some v from hv]at rv;cases e:hJ kvs k with
  |none=>rw[e]at rv;cases rv
  |some x=>
   rw[e]at rv;exact ⟨x,H3,I3.tok _,rv,q3 x e⟩
 .have rv:=rel.val k;rw[show valueAt vs k=none from hn]at rv;cases e:hJ kvs k with
  |some x=>rw[e]at rv;cases rv
  |none=>
   have iH:(putK kvs k z).length<=cJ:=by have:=G3 kvs k z;omega
   have he:∃q,h'.get? a=some q:=let ⟨q,_,_,hq,_⟩:=xI;⟨q,hq⟩
   exact ⟨z,_,KL I3 (by rw[eH];exact True.intro) hs he (PM iH hd (rel.put k rz) xI),rz,q4 e⟩
end
section
open PySem.AutoSeq1 (wpAny_loadPart' idx_int)
theorem ar0(l b:Addr)(bD oF:Array aq)(n n2:Nat)(dd:Option Addr)(sl:Array (Option aq))(h0:¬(!bD.isEmpty&&Builtin.List.listTooLong (bD.size+oF.size))=true)(U:bD.size<=cJ)(h2:bD.size+oF.size<=cJ+1):
  Meets (Builtin.«list.extend» ⟨[.ref l,.ref b],[]⟩) (fun _ R s=>s.heap.get? l=some {cls:=.type "list",data:=.seq bD n}/\s.heap.get? b=some {cls:=.type "tuple",dict:=dd,data:=.seq oF n2,slots:=sl}/\
   R (.ok (.ret Value.none)) {s with heap:=s.heap.update l (m5 fun x=>x++oF)}):=
 .of_wp fun prog w A R s h=>by
  obtain ⟨hp,g,d,tk,os⟩:=s;obtain ⟨hl,hb,h⟩:=h;have f1:=idx_int;have f2:=ag3;have f3:=AutoSeq1.sub_list_list;have f4:=AutoSeq1.sub_tuple_list;have f5:=AutoSeq1.sub_list_tuple;have h3:(bD++oF).size<=cJ+1:=by rw[Array.size_append];exact h2
  wp_walk using (JE hl rfl (hz:=U) (_hz':=h3)),NY hl,NY hb
  exact ⟨_,rfl,h⟩
end
def ar1:V->List V->Hp->VK->Prop:=fun x vs H Q=>∃l b xs zs,x=.ref l/\vs=[.ref b]/\H l=some (.lst xs)/\H b=some (.tup zs)/\xs.length+zs.length<=cJ/\Q .eM (upd H l (.lst (xs++zs)))
theorem ar2{X:Cx}:GR X "list.extend" ar1:=by
 intro pins s σ H x vs v us Q I rx rv h;obtain ⟨l,b,xs,zs,rfl,rfl,hH,hB,hz,q⟩:=h;cases rx;obtain ⟨u,rfl,ru⟩:=rv.one;cases ru;obtain ⟨z,bD,n,r,hl,e⟩:=I.Ay hH;obtain ⟨z2,oF,r2,o2,e2,c2,n2,d2⟩:=I.bS b _ hB;have iH:=r2.length;obtain ⟨Ys,GF,data2,GG⟩:=o2;have c2:Ys=.type "tuple":=c2;have d2:data2=.seq oF.toArray n2:=d2;subst c2 d2;have hsz:bD.toArray.size+oF.toArray.size<=cJ:=by rw[i9,i9];omega
 refine JA xb ⟨_,e,rfl⟩ ahg (ahh _ _) (ar0 l b bD.toArray oF.toArray n n2 GF GG (by rw[YH hsz,ahf];exact jt) (by rw[i9];omega) (by omega)) ⟨e,e2,?_⟩;refine ⟨.eM,_,I.GS (its':=bD++oF) hH e (by simp) (r.append r2) ?_,rfl,q⟩;rw[gR];omega
end L2
namespace WD
theorem _root_.L2.ml.but{H H':Hp}{P p:Addr}{pos:Pos}{q:Str}{o:HO}(h:ml H P pos q)(b:bY p H H')(hp:H p=some o)(n1:∀φ,o≠.ext φ)(ne:P≠p):ml H' P pos q:=by
 obtain ⟨ps,U,h2⟩:=h;refine ⟨ps,b _ _ U ne,?_⟩;rcases h2 with z|⟨c,z1,z2⟩
 .exact .inl z
 .exact .inr ⟨c,z1,b _ _ z2 (iG z2 hp fun y=>n1 _ y.symm)⟩
theorem l9.same{H H':Hp}(h:l9 t H)(s:aC H H'):l9 t H':=⟨h.k.same s,h.s.same s,h.b.same s⟩
theorem l9.but{H H':Hp}{p C dx:Addr}{fs:List (Str×V)}(h:l9 t H)(b:bY p H H')(hp:H p=some (.ins C dx fs)):l9 t H':=by
 have ne:∀{P:Addr}{pos:Pos}{q:Str},ml H P pos q->P≠p:=fun {P pos q} ⟨ps,z,_⟩=>iG z hp (by intro y;cases y);exact ⟨h.k.but b hp (by intro φ y;cases y) (ne h.k),h.s.but b hp (by intro φ y;cases y) (ne h.s),h.b.but b hp (by intro φ y;cases y) (ne h.b)⟩
theorem _root_.L2.ml.tb{H:Hp}{P:Addr}{pos:Pos}{q:Str}(h:ml H P pos q):∃ps,H P=some (.kU ps):=let ⟨ps,z,_⟩:=h;⟨ps,z⟩
theorem l9.Iv{H H':Hp}{p:Addr}{o:HO}(h:l9 t H)(b:bY p H H')(hp:H p=some o)(n1:∀φ,o≠.ext φ)(n2:∀ps,o≠.kU ps):l9 t H':=by
 have ne:∀{P:Addr}{pos:Pos}{q:Str},ml H P pos q->P≠p:=fun {P pos q} ⟨ps,z,_⟩=>iG z hp (fun y=>n2 ps y.symm);exact ⟨h.k.but b hp n1 (ne h.k),h.s.but b hp n1 (ne h.s),h.b.but b hp n1 (ne h.b)⟩
def TZ(p:Addr)(H H':Hp):Prop:=∀b o,H b=some o->b≠p->(∀ps,o≠.kU ps)->H' b=some o
theorem _root_.L2.bY.tt{p:Addr}{H H':Hp}(b:bY p H H'):TZ p H H':=fun c o e n _=>b c o e n
theorem _root_.L2.aC.tt{H H':Hp}(s:aC H H'):iC H H':=fun c o e _=>s c o e
theorem iC.but{p:Addr}{H H':Hp}(s:iC H H'):TZ p H H':=fun c o e _ n=>s c o e n
theorem iC.trans{H H1 H2:Hp}(a:iC H H1)(b:iC H1 H2):iC H H2:=fun c o e n=>b c o (a c o e n) n
theorem iC.own{H H1:Hp}{p:Addr}{o:HO}(s:iC H H1)(h:H p=none):iC H (upd H1 p o):=fun b u e n=>by
 rw[bC (dw e h)];exact s b u e n
theorem iC.new{H H1:Hp}{p:Addr}{o:HO}(s:iC H H1)(h:H1 p=none):iC H (upd H1 p o):=fun b u e n=>by
 rw[bC (dw (s b u e n) h)];exact s b u e n
theorem iC.tab{H H':Hp}{p:Addr}{ps:Array aq}(b:bY p H H')(h:H p=some (.kU ps)):iC H H':=fun c o e n=>b c o e (iG e h (n ps))
theorem iC.free{H H':Hp}{r:Addr}(s:iC H H')(tb:∀ps,H r=some (.kU ps)->∃qs,H' r=some (.kU qs))(h:H' r=none):H r=none:=by
 cases e:H r with
 |none=>rfl
 |some o=>
  by_cases z:∃ps,o=.kU ps
  .obtain ⟨ps,rfl⟩:=z;obtain ⟨qs,y⟩:=tb ps e;rw[h]at y;cases y
  .have:=s r o e (fun ps y=>z ⟨ps,y⟩);rw[h]at this;cases this
theorem yU.tt{H H':Hp}{c:Addr}{f:ja}(h:yU t H c f)(s:iC H H'):yU t H' c f:=let ⟨dx,e⟩:=h;⟨dx,s _ _ e (by intro _ z;cases z)⟩
theorem k6.tt{H H':Hp}{c:Addr}{f:List ja}(h:k6 t H c f)(s:iC H H'):k6 t H' c f:=let ⟨cs,e,p⟩:=h;⟨cs,s _ _ e (by intro _ z;cases z),gX p fun _ _ q=>q.tt s⟩
theorem FieldsAt.tt{H H':Hp}{c:Addr}{f:List (List ja)}(h:FieldsAt t H c f)(s:iC H H'):FieldsAt t H' c f:=let ⟨cs,e,p⟩:=h;⟨cs,s _ _ e (by intro _ z;cases z),gX p fun _ _ q=>q.tt s⟩
theorem xU.tt{H H':Hp}{c:Addr}{f:Hold}(h:xU t H c f)(s:iC H H'):xU t H' c f:=let ⟨dx,e⟩:=h;⟨dx,s _ _ e (by intro _ z;cases z)⟩
theorem ma.tt{H H':Hp}{c:Addr}{f:List Hold}(h:ma t H c f)(s:iC H H'):ma t H' c f:=let ⟨cs,e,p⟩:=h;⟨cs,s _ _ e (by intro _ z;cases z),gX p fun _ _ q=>q.tt s⟩
theorem HeldAt.tt{H H':Hp}{c:Addr}{f:List (List Nat)}(h:HeldAt H c f)(s:iC H H'):HeldAt H' c f:=let ⟨cs,e,p⟩:=h;⟨cs,s _ _ e (by intro _ z;cases z),gX p fun _ _ q=>s _ _ q (by intro _ z;cases z)⟩
theorem i7.tt{H H':Hp}{p:Addr}{g:bp}(h:i7 t H p g)(s:iC H H'):i7 t H' p g:=by
 obtain ⟨dx,aK,aS,aF,aR,aH,aE,aL,U,h2,h3,h4,h5,h6,h7,h8⟩:=h.ex;exact ⟨dx,aK,aS,aF,aR,aH,aE,aL,s _ _ U (by intro _ z;cases z),s _ _ h2 (by intro _ z;cases z),s _ _ h3 (by intro _ z;cases z),h4.tt s,s _ _ h5 (by intro _ z;cases z),h6.tt s,h7.tt s,h8.tt s⟩
theorem mq.tt{H H':Hp}{p:Addr}{g:bp}{past:List bp}(h:mq t H p g past)(s:iC H H'):mq t H' p g past:=by
 obtain ⟨dx,ag,ab,gM,U,h2,h3,h4⟩:=h;exact ⟨dx,ag,ab,gM,s _ _ U (by intro _ z;cases z),h2.tt s,s _ _ h3 (by intro _ z;cases z),gX h4 fun _ _ q=>q.tt s⟩
theorem xZ.tt{H H':Hp}{a:Addr}{l:List (List Int)}(h:xZ H a l)(s:iC H H'):xZ H' a l:=let ⟨bs,e,p⟩:=h;⟨bs,s _ _ e (by intro _ z;cases z),gX p fun _ _ q=>s _ _ q (by intro _ z;cases z)⟩
def Bg(t:fZ)(C:List Int->List (List Int)->DC->Prop):Sp:=fun vs H Q _=>∃p aN aL g past ns cS c,vs=[.ref p,.ref aN,.ref aL]/\mq t H p g past/\uK g past/\H aN=some (.lst (ns.map V.int))/\xZ H aL cS/\
 (∀l∈cS,l.length<=1000)/\ns.length<=10/\l9 t H/\C ns cS c/\∀H' r,TZ p H H'->l9 t H'->H r=none->mq t H' p (lp ⟨g,past⟩ c).1.graph (lp ⟨g,past⟩ c).1.past->H' r=some (.lst ((lp ⟨g,past⟩ c).2.map V.int))->Q (.ref r) H'
theorem tV{k:Nat}{f:Addr}{fd:dn}{ps:List Str}{C:List Int->List (List Int)->DC->Prop}(F:c8 P w K mg base bJ k f fd ps (sJ t C)):c8 P w K mg base bJ k f fd ps (Bg t C):=by
 refine F.imp ?_;rintro vs H Q E ⟨p,aN,aL,g,past,ns,cS,c,e,hD,gs,hN,hL,ll,ln,tb,hC,k⟩;refine ⟨p,aN,aL,g,past,ns,cS,c,e,hD,gs,hN,hL,ll,ln,hC,fun H' r b hr hD' eD=>?_⟩;obtain ⟨dx,ag,ab,gM,hp,_⟩:=id hD;exact k H' r b.tt (tb.but b hp) hr hD' eD
theorem LD.hd{c Pt:Addr}(h:LD K c Pt)(kb:K.In base):PySem.W.CodeHd base c Pt:=by
 obtain ⟨o,vs,file,tf,flags,tg,AU,text,tt,e,r⟩:=h;exact ⟨o,vs,file,tf,flags,tg,AU,text,tt,kb _ _ e,r⟩
theorem AV.ok{x qual:Str}{st:Stmt}{f:Addr}{fd:dn}{c Pt:Addr}{N ps:List Str}{k:Nat}{sp:Sp}(F:AV K x qual st f fd c Pt)(S:fA N ps (da st))(len:∀vs H Q E,sp vs H Q E->vs.length=ps.length)(sd:∀(A:gc) (outer:List Env) (s:a9) (H:Hp) (vs:List V) (Q:VK) (E:XK),dQ k (A.deeper (envOfC qual (da st) s.heap.objs.size f (.ref c)))->sp vs H Q E->
   ∃t,rC (we bJ P w K mg base N qual (da st) f (.ref c) A outer s H E).va (sk st) t/\t {nx:=fun _ H'=>Q .eM H',rt:=Q} (start N vs) H):c8 P w K mg base bJ (k+1) f fd ps sp:=by
 obtain ⟨oc,od,kV,doc,pm,an,ct,oi,rfl,lk,qJ⟩:=F.ex;refine Pk lk qJ S len fun A outer s H vs Q E hr vd=>?_;obtain ⟨t,h,q⟩:=sd A outer s H vs Q E hr vd;exact ⟨t,h.va,q⟩
end WD
open Vasnpb (kept freed)
namespace WD
theorem sizeOf_eq(g:bp)(l:List Nat):lX g l=(l.map fun o=>(g.objs.map (·.size)).getD o 0).sum:=by
 unfold lX Vasnpa.sum;rw[<-List.sum_eq_foldl];congr 1;apply yo;intro o _;rw[lT,gp];cases g.objs[o]?<;>rfl
theorem ar4(l:List Nat):(l.map fun (n:Nat)=>(n:Int)).sum=((l.sum:Nat):Int):=by
 induction l with
 |nil=>rfl
 |cons a r ih=>
  rw[jx,yp,yp,ih];omega
theorem Fh{g:bp}(fit:pj g)(out cut:List Nat):∀n∈gone g out cut,n<g.objs.length:=fun n hn=>by
 have U:n∈alive g [] []:=(gT.mp hn).1;exact ((WK.tj fit.ok).mp U).lt fit.ok
theorem Iw{g:bp}(fit:pj g)(out cut:List Nat):∀n∈alive g out cut,n<g.objs.length:=fun n hn=>((WK.tj fit.ok).mp hn).lt fit.ok
def C8(K:cB)(t:fZ):Sp:=fun vs H Q _=>∃(ag an:Addr)(g:bp)(ns:List Nat),vs=[.ref ag,.ref an]/\i7 t H ag g/\aD K H an (nats ns)/\ns.length<=1000/\(∀n∈ns,n<g.objs.length)/\
 ∀H',aC H H'->Q (.int (lX g ns:Int)) H'
theorem ar5{f:Addr}{fd:dn}(F:eW K "size_of" "size_of" K5 f fd)(T:Txt K mg t):c8 P w K mg base bJ 1 f fd AM (C8 K t):=by
 refine F.ok ZF (fun vs H Q E h=>?_) (fun c6 A outer s H vs Q E hr h=>?_)
 .obtain ⟨ag,an,g,ns,rfl,_⟩:=h;rfl
 .obtain ⟨ag,an,g,ns,rfl,hg,hn,hl,eU,k⟩:=h;have nd:=ZF.nd;refine ⟨_,cy (eN (jR (YN rfl) rfl T.sum boot_sum (ax (wm (own:=[("number",2)]) rfl nd (l0 (pv 1)) (sj (by show qQ ZE (da K5) _ _=true;decide +kernel))
   (fun s H C cl fp=>gG (i:=2) nd rfl (Or.inl rfl) (Or.inr rfl)) (fun s H C cl fp=>AB) (fun s H C cl fp=>gj (Hq (K:=K)) (wz (K:=K) (pv 0)) (pv 2) (fun _ _=>rfl))) aO))),?_⟩
  try dsimp only[fQ,fS,fT,fV]
  obtain ⟨dx,aK,aS,aF,aR,aH,aE,pR,gP,_,hS,_,_,_,_⟩:=hg.ex;refine ⟨_,rfl,an,rfl,⟨_,hn⟩,fun D hD=>?_⟩;refine wo (K:=K) (a:=an) (xs:=nats ns) (fun j H'=>aC H H'/\H' D=some (.lst (((ns.take j).map fun o=>(((g.objs.map (·.size)).getD o 0:Nat):Int)).map V.int))) ⟨aC.nw hD,aJ⟩ (fun j H' _ ⟨s5,_⟩=>s5.seq hn) ?_ ?_
  .rintro j x H' hx ⟨s5,iw⟩;obtain ⟨n,T1,rfl⟩:=nQ hx;have hj:=(gq.mp T1).1;have rf:=eU n (iy T1);have hsz:(g.objs.map (·.size))[n]? =some ((g.objs.map (·.size)).getD n 0):=by
    rw[lT];rw[iN (by rw[bt];exact rf)];rfl
   refine ⟨rfl,_,rfl,s5 _ _ gP,T.iT,T.Lv,RG _ _ _ _ _ _ _,_,rfl,aS,_,_,_,rfl,rfl,aD.of (s5 _ _ hS),at_of (j:=n) rfl (by unfold nats;rw[gp,hsz];rfl),_,iw,?_,s5.own hD,?_⟩
   .rw[bt,bt,mB,eE];omega
   .rw[aJ,take_snoc T1];simp
  .rintro H1 ⟨s5,iw⟩;have e:ns.take (nats ns).length=ns:=by unfold nats;rw[bt,jY]
   rw[e]at iw;refine ⟨D,_,rfl,aD.of iw,?_⟩;have:=k H1 s5;rw[sizeOf_eq]at this;have e2:=ar4 (ns.map fun o=>(g.objs.map (·.size)).getD o 0);rw[n9]at e2;rw[<-e2]at this;exact this
def px(g:bp)(x:Int):Int:=if nU g x then (if (alive g [] []).contains x.toNat then 0 else -4) else -3
def MF(K:cB)(t:fZ):Sp:=fun vs H Q _=>∃(ag:Addr)(g:bp)(x:Int),vs=[.ref ag,.int x]/\i7 t H ag g/\pj g/\∀H',aC H H'->Q (.int (px g x)) H'
theorem T3(g:bp)(past:List bp)(x:Int)(f:Nat->Vasnpb.Answer):Vasnpb.onLive ⟨g,past⟩ x f=if px g x=0 then f x.toNat else [px g x]:=by
 unfold Vasnpb.onLive Vasnpb.onObject px;have e1:Vasnpb.isObject ⟨g,past⟩ x=nU g x:=rfl;rw[e1];cases nU g x with
 |false=>rfl
 |true=>
  show (if (alive g [] []).contains x.toNat=true then f x.toNat else [-4])=_;cases (alive g [] []).contains x.toNat with
  |false=>rfl
  |true=>rfl
theorem T4{g:bp}{x:Int}(h:px g x=0):nU g x=true/\x.toNat∈alive g [] []:=by
 unfold px at h
 split at h
 .split at h
  .exact ⟨by assumption,by simpa using (by assumption:(alive g [] []).contains x.toNat=true)⟩
  .cases h
 .cases h
theorem ar6{f fa fl:Addr}{fd zm lO:dn}(F:eW K "refusal_unless_live" "refusal_unless_live" Ri f fd)(T:Txt K mg t)(ca:eY P w K mg base bJ 1 "all_below" fa zm Lj (S2 K))(cl:eY P w K mg base bJ 3 "live_objects" fl lO yL (A5 K t)):c8 P w K mg base bJ 4 f fd Hm (MF K t):=by
 refine F.ok anv (fun vs H Q E h=>?_) (fun c6 A outer s H vs Q E hr h=>?_)
 .obtain ⟨ag,g,x,rfl,_⟩:=h;rfl
 .obtain ⟨ag,g,x,rfl,hg,fit,k⟩:=h;have ig:dQ 1 _:=hr.mono (by decide);refine ⟨_,bF (mQ (DW (tF (eB ca.G ig rfl ca.m ca.kp ca.b .nil di (ax (dG (ax (pv 1) aO)) (ax (jR l7 (by rfl) T.len lW (ax (cO (pv 0) rfl) aO)) aO))))) (cy (eN (gY T.abt))) mP)
   (bF (mQ (ng akW (pv 1) (eB cl.G hr rfl cl.m cl.kp cl.b .nil di (ax (pv 0) (ax (dG aO) (ax (dG aO) aO)))) (by with_unfolding_all rfl)) (cy (eN (gY T.aoD))) mP)
   (cy (eN (gY T.lN)))),?_⟩
  try dsimp only[fQ,fS,fT,fV]
  obtain ⟨dx,aK,aS,aF,aR,aH,aE,pR,gP,hK,_,_,_,_,_⟩:=hg.ex;have e1:(nats (g.objs.map (·.kind))).length=g.objs.length:=by unfold nats;rw[bt,bt]
  refine ⟨_,rfl,(by show 1<=cJ;decide),fun l1 U=>?_⟩;have s1:=aC.nw (o:=.lst [V.int x]) U;refine ⟨_,rfl,s1 _ _ gP,T.iT,T.AS,Cr _ _ _ _ _ _ _,aK,_,rfl,.inl (aD.of (s1 _ _ hK)),l1,[x],_,rfl,aD.of aJ,by simp,?_⟩;intro H1 sL;have s2:=s1.trans sL;refine ⟨_,rfl,?_⟩;rw[e1];have ea:([x].all fun n=>decide (0<=n)&&decide (n<(g.objs.length:Int)))=nU g x:=by rw[zN,List.all_nil,agC];rfl
  rw[ea];unfold px at k;cases q1:nU g x with
  |false=>
   rw[q1]at k;exact k H1 s2
  |true=>
   rw[q1]at k;have nx:0<=x:=by
    unfold nU at q1;rw[jN,decide_eq_true_iff]at q1;exact q1.1
   have ex:((x.toNat:Nat):Int)=x:=FY nx;refine ⟨_,rfl,_,rfl,dU _,fun l2 h2=>⟨dU _,fun l3 h3=>?_⟩⟩;have s3:=aC.nw (o:=.lst []) h2;have s4:=aC.nw (o:=.lst []) h3;have s24:=(s2.trans s3).trans s4;refine ⟨ag,l2,l3,g,[],[],rfl,⟨hg.same s24,fit,aD.of (s4 _ _ aJ),aD.of aJ,by simp,by simp⟩,?_⟩;intro H2 l4 s5 xY hv;have iv:=adW x.toNat (alive g [] []);rw[ex]at iv;refine ⟨l4,_,rfl,.inl (aD.of hv),rfl,adX _,_,rfl,?_⟩;rw[if_pos rfl,iv];have fin:=k H2 (s24.trans s5);cases q2:(alive g [] []).contains x.toNat with
   |false=>
    rw[q2]at fin;exact fin
   |true=>
    rw[q2]at fin;exact fin
theorem ar7{f fl fr fz:Addr}{fd lO oN wQ:dn}(F:eW K "answer_kept" "answer_kept" Rt f fd)(T:Txt K mg t)(cl:eY P w K mg base bJ 4 "lost_objects" fl lO xN (zg K t))(cr:eY P w K mg base bJ 2 "refusal_of" fr oN AN (CS K t))(cz:eY P w K mg base bJ 1 "size_of" fz wQ AM (C8 K t)):c8 P w K mg base bJ 5 f fd aaz (sJ t fun _ cS c=>∃xs,cS=[xs]/\c=.kept xs):=by
 refine F.ok aaA (fun vs H Q E h=>?_) (fun c6 A outer s H vs Q E hr h=>?_)
 .obtain ⟨p,aN,aL,g,past,ns,cS,c,rfl,_⟩:=h;rfl
 .obtain ⟨p,aN,aL,g,past,ns,cS,c,rfl,hD,gs,hN,hL,ll,ln,⟨xs,rfl,rfl⟩,k⟩:=h;have nd:=aaA.nd;have ig:dQ 1 _:=hr.mono (by decide);have mY:dQ 2 _:=hr.mono (by decide);refine ⟨_,bF (dB (i:=3) nd rfl (Or.inl rfl) (eB cr.G mY rfl cr.m cr.kp cr.b .nil di (ax (cO (pv 0) rfl) (ax (gj ia (pv 2) gg (fun _ _=>rfl)) (ax (dG aO) aO)))))
   (bF (mQ (ng uu (pv 3) (gY T.lN) (mS _)) (cy (eN (dG (ax (pv 3) aO)))) mP)
   (bF (dB (i:=4) nd rfl (Or.inl rfl) (eB cl.G hr rfl cl.m cl.kp cl.b .nil di (ax (cO (pv 0) rfl) (ax (gj ia (pv 2) gg (fun _ _=>rfl)) (ax (dG aO) aO)))))
   (cy (eN (o6 ve (dG (ax (gY T.lN) (ax (eB cz.G ig rfl cz.m cz.kp cz.b .nil di (ax (cO (pv 0) rfl) (ax (pv 4) aO))) aO))) (pv 4)))))),?_⟩
  try dsimp only[fQ,fS,fT,fV]
  obtain ⟨a1,hL,U⟩:=Mc hL;have l1:=ll xs (by simp);have iE:=hD;obtain ⟨dx,ag,ab,gM,hp,hg,hb,mJ⟩:=hD;have fit:=nA gs.now;have mK:mf [V.ref a1] 0=some (V.ref a1):=at_of (j:=0) rfl rfl;refine ⟨_,rfl,hp,T.iI,T.jE,j9 _ _,_,rfl,aL,_,_,_,rfl,rfl,aD.of hL,mK,dU _,fun l2 iH=>?_⟩;have s0:=aC.nw (o:=.lst []) iH;refine ⟨ag,a1,l2,g,xs,[],rfl,hg.same s0,aD.of (s0 _ _ U),aD.of aJ,by omega,by simp,?_⟩;intro H1 CV;have s1:=s0.trans CV;have st:lp ⟨g,past⟩ (.kept xs)=(⟨g,past⟩,if refusal g xs []=0 then Vasnpb.sized g (kept g (toNats xs)) else [refusal g xs []]):=by
   show (_,Vasnpb.onBoth ⟨g,past⟩ xs [] _)=_;rw[Mb]
  rw[st]at k;refine ⟨_,rfl,rfl,_,rfl,?_⟩;by_cases z:refusal g xs []=0
  .rw[if_pos z]at k;refine yJ (by rw[z]) ?_;obtain ⟨z1,z2⟩:=E5 z;refine ⟨_,rfl,s1 _ _ hp,T.iI,T.jE,j9 _ _,_,rfl,aL,_,_,_,rfl,rfl,aD.of (s1 _ _ hL),mK,dU _,fun l3 mn=>?_⟩;have s2:=s1.trans (aC.nw (o:=.lst []) mn);refine ⟨ag,a1,l3,g,toNats xs,[],rfl,⟨hg.same s2,fit,?_,aD.of aJ,?_,by simp⟩,?_⟩
   .rw[<-CT (HW z1)];exact aD.of (s2 _ _ U)
   .unfold toNats;rw[bt];exact l1
   intro H2 q2 s3 yy hv;have sA:=s2.trans s3;have h5:=A6 fit (toNats xs) [];refine ⟨_,rfl,sA _ _ hp,T.iI,T.jE,j9 _ _,_,rfl,ag,q2,g,gone g (toNats xs) [],rfl,hg.same sA,aD.of hv,by omega,Fh fit _ _,?_⟩;intro H3 s4;refine ⟨(by show 2<=cJ;decide),fun q1 rN=>?_⟩;have sC:=(aC.nw (o:=.lst [V.int 0,V.int (lX g (gone g (toNats xs) []):Int)]) rN);have sB:=(sA.trans s4).trans sC;refine ⟨_,rfl,q1,q2,_,_,rfl,rfl,aJ,sC _ _ (s4 _ _ hv),?_,fun r eD=>?_⟩
   .unfold nats;rw[bt,eE];show 2+_<=_;omega
   .have sD:=sB.trans (aC.nw (o:=.lst ([V.int 0,V.int (lX g (gone g (toNats xs) []):Int)]++nats (gone g (toNats xs) []))) eD);refine k _ r sD.but (sB.free eD) (iE.same sD) ?_;rw[aJ,wJ];rfl
  .rw[if_neg z]at k;refine jq (fun _=>?_) (fun y=>absurd ?_ y)
   .refine ⟨_,rfl,(by show 1<=cJ;decide),fun r eD=>?_⟩;have sB:=s1.trans (aC.nw (o:=.lst [V.int (refusal g xs [])]) eD);exact k _ r sB.but (s1.free eD) (iE.same sB) aJ
   .rw[rh,decide_eq_false_iff_not];intro e;exact z (V.int.inj e)
theorem ar8{f fl fr fz:Addr}{fd lO oN wQ:dn}(F:eW K "answer_frees" "answer_frees" Rw f fd)(T:Txt K mg t)(cl:eY P w K mg base bJ 4 "lost_objects" fl lO xN (zg K t))(cr:eY P w K mg base bJ 2 "refusal_of" fr oN AN (CS K t))(cz:eY P w K mg base bJ 1 "size_of" fz wQ AM (C8 K t)):c8 P w K mg base bJ 5 f fd aaF (sJ t fun _ cS c=>∃xs,cS=[xs]/\c=.frees xs):=by
 refine F.ok aaG (fun vs H Q E h=>?_) (fun c6 A outer s H vs Q E hr h=>?_)
 .obtain ⟨p,aN,aL,g,past,ns,cS,c,rfl,_⟩:=h;rfl
 .obtain ⟨p,aN,aL,g,past,ns,cS,c,rfl,hD,gs,hN,hL,ll,ln,⟨xs,rfl,rfl⟩,k⟩:=h;have nd:=aaG.nd;have ig:dQ 1 _:=hr.mono (by decide);have mY:dQ 2 _:=hr.mono (by decide);refine ⟨_,bF (dB (i:=3) nd rfl (Or.inl rfl) (eB cr.G mY rfl cr.m cr.kp cr.b .nil di (ax (cO (pv 0) rfl) (ax (dG aO) (ax (gj ia (pv 2) gg (fun _ _=>rfl)) aO)))))
   (bF (mQ (ng uu (pv 3) (gY T.lN) (mS _)) (cy (eN (dG (ax (pv 3) aO)))) mP)
   (bF (dB (i:=4) nd rfl (Or.inl rfl) (eB cl.G hr rfl cl.m cl.kp cl.b .nil di (ax (cO (pv 0) rfl) (ax (dG aO) (ax (gj ia (pv 2) gg (fun _ _=>rfl)) aO)))))
   (cy (eN (o6 ve (dG (ax (gY T.lN) (ax (eB cz.G ig rfl cz.m cz.kp cz.b .nil di (ax (cO (pv 0) rfl) (ax (pv 4) aO))) aO))) (pv 4)))))),?_⟩
  try dsimp only[fQ,fS,fT,fV]
  obtain ⟨a1,hL,U⟩:=Mc hL;have l1:=ll xs (by simp);have iE:=hD;obtain ⟨dx,ag,ab,gM,hp,hg,hb,mJ⟩:=hD;have fit:=nA gs.now;have mK:mf [V.ref a1] 0=some (V.ref a1):=at_of (j:=0) rfl rfl;refine ⟨_,rfl,hp,T.iI,T.jE,j9 _ _,dU _,fun l2 iH=>?_⟩;have s0:=aC.nw (o:=.lst []) iH;refine ⟨_,rfl,aL,_,_,_,rfl,rfl,aD.of (s0 _ _ hL),mK,ag,l2,a1,g,[],xs,rfl,hg.same s0,aD.of aJ,aD.of (s0 _ _ U),by simp,by omega,?_⟩;intro H1 CV;have s1:=s0.trans CV;have st:lp ⟨g,past⟩ (.frees xs)=(⟨g,past⟩,if refusal g [] xs=0 then Vasnpb.sized g (freed g (toNats xs)) else [refusal g [] xs]):=by
   show (_,Vasnpb.onBoth ⟨g,past⟩ [] xs _)=_;rw[Mb]
  rw[st]at k;refine ⟨_,rfl,rfl,_,rfl,?_⟩;by_cases z:refusal g [] xs=0
  .rw[if_pos z]at k;refine yJ (by rw[z]) ?_;obtain ⟨z1,z2⟩:=E5 z;refine ⟨_,rfl,s1 _ _ hp,T.iI,T.jE,j9 _ _,dU _,fun l3 mn=>?_⟩;have s2:=s1.trans (aC.nw (o:=.lst []) mn);refine ⟨_,rfl,aL,_,_,_,rfl,rfl,aD.of (s2 _ _ hL),mK,ag,l3,a1,g,[],toNats xs,rfl,⟨hg.same s2,fit,aD.of aJ,?_,by simp,?_⟩,?_⟩
   .rw[<-CT (Ma z2)];exact aD.of (s2 _ _ U)
   .unfold toNats;rw[bt];exact l1
   intro H2 q2 s3 yy hv;have sA:=s2.trans s3;have h5:=A6 fit [] (toNats xs);refine ⟨_,rfl,sA _ _ hp,T.iI,T.jE,j9 _ _,_,rfl,ag,q2,g,gone g [] (toNats xs),rfl,hg.same sA,aD.of hv,by omega,Fh fit _ _,?_⟩;intro H3 s4;refine ⟨(by show 2<=cJ;decide),fun q1 rN=>?_⟩;have sC:=(aC.nw (o:=.lst [V.int 0,V.int (lX g (gone g [] (toNats xs)):Int)]) rN);have sB:=(sA.trans s4).trans sC;refine ⟨_,rfl,q1,q2,_,_,rfl,rfl,aJ,sC _ _ (s4 _ _ hv),?_,fun r eD=>?_⟩
   .unfold nats;rw[bt,eE];show 2+_<=_;omega
   .have sD:=sB.trans (aC.nw (o:=.lst ([V.int 0,V.int (lX g (gone g [] (toNats xs)):Int)]++nats (gone g [] (toNats xs)))) eD);refine k _ r sD.but (sB.free eD) (iE.same sD) ?_;rw[aJ,wJ];rfl
  .rw[if_neg z]at k;refine jq (fun _=>?_) (fun y=>absurd ?_ y)
   .refine ⟨_,rfl,(by show 1<=cJ;decide),fun r eD=>?_⟩;have sB:=s1.trans (aC.nw (o:=.lst [V.int (refusal g [] xs)]) eD);exact k _ r sB.but (s1.free eD) (iE.same sB) aJ
   .rw[rh,decide_eq_false_iff_not];intro e;exact z (V.int.inj e)
def kd:List Nat->List Addr->List (Key×V)
 |y::ys,b::bs=>(Sum.inl (y:Int),V.ref b)::kd ys bs
 |_,_=>[]
theorem MG{F:Addr->Nat->Prop}{ys:List Nat}{bs:List Addr}(p:Paired F bs ys)(n:Nat):(n∉ys/\hJ (kd ys bs) (Sum.inl (n:Int))=none)∨(n∈ys/\∃b,hJ (kd ys bs) (Sum.inl (n:Int))=some (V.ref b)/\F b n):=by
 induction p with
 |nil=>exact .inl ⟨by simp,rfl⟩
 | @cons b y bs ys r q ih=>
  by_cases e:y=n
  .subst e;refine .inr ⟨by simp,b,?_,r⟩;simp[kd,hJ]
  .have e1:hJ (kd (y::ys) (b::bs)) (Sum.inl (n:Int))=hJ (kd ys bs) (Sum.inl (n:Int)):=by
    have ne:¬((Sum.inl (y:Int):Key)=Sum.inl (n:Int)):=fun z=>e (by have:=zP z;omega);simp[kd,hJ,t9,ne]
   rw[e1];rcases ih with ⟨U,h2⟩|⟨U,h2⟩
   .exact .inl ⟨by simp[U];exact fun z=>e z.symm,h2⟩
   .exact .inr ⟨by simp[U],h2⟩
def chainOf(g:bp)(y:Nat):List Nat:=Vasnpb.chainIn g (fE g) y
def T5(t:fZ):Sp:=fun vs H Q _=>∃ag g,vs=[.ref ag]/\i7 t H ag g/\pj g/\ml H t.tK posK EC/\
 ∀H' d bs,bY t.tK H H'->ml H' t.tK posK EC->H d=none->H' d=some (.dK (kd (alive g [] []) bs))->Paired (fun b y=>H b=none/\H' b=some (.lst (nats (chainOf g y)))) bs (alive g [] [])->Q (.ref d) H'
theorem l9.aey{H H':Hp}(T:Txt K mg t)(h:l9 t H)(b:bY t.tK H H')(hk:ml H' t.tK posK EC):l9 t H':=by
 obtain ⟨ps,e⟩:=h.k.tb;exact ⟨hk,h.s.but b e (by intro φ z;cases z) (fun z=>T.tKS z.symm),h.b.but b e (by intro φ z;cases z) (fun z=>T.tKB z.symm)⟩
theorem T6{H H':Hp}{p r:Addr}(b:bY p H H')(hp:∃o,H' p=some o)(h:H' r=none):H r=none:=by
 cases e:H r with
 |none=>rfl
 |some o=>
  by_cases z:r=p
  .obtain ⟨o',hp⟩:=hp;rw[z,hp]at h;cases h
  .rw[b _ _ e z]at h;cases h
theorem ar9{f fl fr:Addr}{fd lO oN:dn}(F:eW K "answer_keepers" "answer_keepers" Rq f fd)(T:Txt K mg t)(cl:eY P w K mg base bJ 6 "keepers_by_object" fl lO K9 (T5 t))(cr:eY P w K mg base bJ 4 "refusal_unless_live" fr oN Hm (MF K t)):c8 P w K mg base bJ 7 f fd aav (Bg t fun ns _ c=>∃x,ns=[x]/\c=.keepers x):=by
 refine F.ok aaw (fun vs H Q E h=>?_) (fun c6 A outer s H vs Q E hr h=>?_)
 .obtain ⟨p,aN,aL,g,past,ns,cS,c,rfl,_⟩:=h;rfl
 .obtain ⟨p,aN,aL,g,past,ns,cS,c,rfl,hD,gs,hN,hL,ll,ln,tb,⟨x,rfl,rfl⟩,k⟩:=h;have nd:=aaw.nd;have hu:=vk hr;have rg:dQ 4 _:=hr.mono (by decide);refine ⟨_,bF (dB (i:=3) nd rfl (Or.inl rfl) (eB cr.G rg rfl cr.m cr.kp cr.b .nil di (ax (cO (pv 0) rfl) (ax (gj ia (pv 1) gg (fun _ _=>rfl)) aO))))
   (bF (mQ (ng uu (pv 3) (gY T.lN) (mS _)) (cy (eN (dG (ax (pv 3) aO)))) mP)
   (cy (eN (o6 ve (dG (ax (gY T.lN) aO)) (Cf hu (eB cl.G hr rfl cl.m cl.kp cl.b .nil di (ax (cO (pv 0) rfl) aO)) (gj ia (pv 1) gg (fun _ _=>rfl)) (fun _ _=>rfl)))))),?_⟩
  try dsimp only[fQ,fS,fT,fV]
  have iE:=hD;obtain ⟨dx,ag,ab,gM,hp,hg,hb,mJ⟩:=hD;have fit:=nA gs.now;have mK:mf [V.int x] 0=some (V.int x):=at_of (j:=0) rfl rfl;refine ⟨_,rfl,hp,T.iI,T.jE,j9 _ _,_,rfl,aN,_,_,_,rfl,rfl,aD.of hN,mK,ag,g,x,rfl,hg,fit,?_⟩;intro H1 s2;have st:lp ⟨g,past⟩ (.keepers x)=(⟨g,past⟩,if px g x=0 then 0::toInts (chainOf g x.toNat) else [px g x]):=by
   show (_,Vasnpb.onLive ⟨g,past⟩ x fun n=>0::toInts (chainOf g n))=_;rw[T3]
  rw[st]at k;refine ⟨_,rfl,rfl,_,rfl,?_⟩;by_cases z:px g x=0
  .rw[if_pos z]at k;refine yJ (by rw[z]) ?_;obtain ⟨z1,z2⟩:=T4 z;have nx:0<=x:=by
    unfold nU at z1;rw[jN,decide_eq_true_iff]at z1;exact z1.1
   have ex:((x.toNat:Nat):Int)=x:=FY nx;refine ⟨(by show 1<=cJ;decide),fun q1 rN=>?_⟩;have s3:=s2.trans (aC.nw (o:=.lst [V.int 0]) rN);have Bi:=tb.same s3;refine ⟨_,rfl,s3 _ _ hp,T.iI,T.jE,j9 _ _,ag,g,rfl,hg.same s3,fit,Bi.k,?_⟩;intro H2 d bs b4 hk4 hd wR uE;obtain ⟨qs,wU⟩:=Bi.k.tb;have s4:iC _ H2:=iC.tab b4 wU;have sA:=s3.tt.trans s4;have kv:=MG uE x.toNat;rw[ex]at kv;rcases kv with ⟨n1,v1⟩|⟨n1,b,v1,nE⟩
   .exact absurd z2 n1
   .refine ⟨_,rfl,aN,_,_,_,rfl,rfl,aD.of (sA _ _ hN (by intro _ z;cases z)),mK,d,V.ref b,rfl,?_,q1,b,_,_,rfl,rfl,s4 _ _ aJ (by intro _ z;cases z),nE.2,?_,fun r eD=>?_⟩
    .rw[<-v1];exact lL.k (k:=Sum.inl x) wR
    .have:=adR gs.now (fE g) x.toNat;unfold nats chainOf;rw[bt,eE];show 1+_<=_;omega
    .have sB:=sA.trans (aC.nw (o:=.lst ([V.int 0]++nats (chainOf g x.toNat))) eD).tt;refine k _ r sB.but ((l9.aey T Bi b4 hk4).same (aC.nw eD)) ?_ (iE.tt sB) ?_
     .obtain ⟨qs2,asa⟩:=hk4.tb;exact s3.free (T6 b4 ⟨_,asa⟩ eD)
     .rw[aJ,wJ];rfl
  .rw[if_neg z]at k;refine jq (fun _=>?_) (fun y'=>absurd ?_ y')
   .refine ⟨_,rfl,(by show 1<=cJ;decide),fun r eD=>?_⟩;have sB:=s2.trans (aC.nw (o:=.lst [V.int (px g x)]) eD);exact k _ r sB.but.tt (tb.same sB) (s2.free eD) (iE.same sB) aJ
   .rw[rh,decide_eq_false_iff_not];intro e;exact z (V.int.inj e)
end WD
namespace L2
def asb(t:TE):TE:=fun σ H Q=>t σ H fun x H1=>∃d u,x=.ref d/\H1 d=some u/\yz (some u)/\∀od,Q x (upd H1 d (.gU od u))
theorem asd{X:Cx}{e:Expr}{t:TE}(h:PE X e t):PE X e (asb t):=by
 intro pins s σ H Q I hw;refine dt (h pins s σ H _ I hw) fun v s1 ⟨x,H1,I1,r,d,u,ex,hd,mu,q⟩=>?_;obtain ⟨od,I2⟩:=I1.lock hd mu;exact ⟨x,_,I2,r,q od⟩
theorem ase{d:Addr}{o:Obj}{kvs:List (Key×V)}{g:TG}{tb:TS}{D:Ends}{σ:St}{H:Hp}(Pv:Nat->St->Hp->Prop)(h0:Pv 0 σ H)(hl:∀i σ H,i<=kvs.length->Pv i σ H->H d=some (.gU o (.dK kvs)))(hs:∀i k v σ H T,kvs[i]? =some (k,v)->Pv i σ H->H T=none->g (.ref T) σ (upd H T (.tup [kV k,v])) fun ib H2=>tb {D with nx:=Pv (i+1),ct:=Pv (i+1),bk:=D.nx} ib H2)(hd:∀σ H,Pv kvs.length σ H->D.nx σ H):
  ∃W:Nat->Nat->St->Hp->Prop,(∃m,W 0 m σ H)/\∀i m σ H,W i m σ H->
   ((G8 d o kvs).stop i H/\D.nx σ H)∨((G8 d o kvs).go i H/\∃N:St->Hp->Prop,(∀cV H',N cV H'->∃m',m'<m/\W (i+1) m' cV H')/\∀x H',(G8 d o kvs).wb i H x H'->g x σ H' fun ib H2=>tb {D with nx:=N,ct:=N,bk:=D.nx} ib H2):=by
 refine ⟨fun i m σ H=>m=kvs.length-i/\i<=kvs.length/\Pv i σ H,⟨kvs.length,by simp,dU _,h0⟩,?_⟩;rintro i m σ H ⟨rfl,hi,p⟩;have q:=hl i σ H hi p;rcases zO i kvs.length with lt|ge
 .refine .inr ⟨⟨q,lt⟩,Pv (i+1),fun cV H' p'=>⟨kvs.length-(i+1),by omega,rfl,lt,p'⟩,?_⟩;rintro x H' ⟨T,k,v,AI,rfl,hT,rfl⟩;exact hs i k v σ H T AI p hT
 .have e:i=kvs.length:=by omega
  subst e;exact .inl ⟨⟨q,dR _⟩,hd σ H p⟩
end L2
namespace WD
theorem aeA{α:Type}(f:α->Nat)(l:List α):∀N,((jO N).flatMap fun d=>l.filter fun x=>f x==d).length=(l.filter fun x=>decide (f x<N)).length
 |0=>by
  have e:(l.filter fun x=>decide (f x<0))=[]:=Js.mpr (fun x _=>by simp);rw[e];rfl
 |N+1=>by
  rw[VH,sZ,gR,aeA f l N];have key:∀m:List α,(m.filter fun x=>decide (f x<N)).length+(m.filter fun x=>f x==N).length=(m.filter fun x=>decide (f x<N+1)).length:=by
   intro m
   induction m with
   |nil=>rfl
   |cons a m ih=>
    rw[kO,kO,kO];by_cases U:f a<N
    .have h2:¬f a=N:=by omega
     have h3:f a<N+1:=by omega
     simp[U,h2,h3];omega
    .by_cases h2:f a=N
     .simp[h2];omega
     .have h3:¬f a<N+1:=by omega
      simp[U,h2,h3];exact ih
  have:=key l;simp at this ⊢;omega
theorem asf(g:bp)(y:Nat):(chainOf g y).length=Vasnpb.depthIn g (fE g) y:=by
 have U:=aeA (Vasnpb.depthIn g (fE g)) (Vasnpb.keepersIn g (fE g) y) (g.objs.length+1);have h2:(Vasnpb.keepersIn g (fE g) y).filter (fun x=>decide (Vasnpb.depthIn g (fE g) x<g.objs.length+1))=Vasnpb.keepersIn g (fE g) y:=by
  apply Dr.mpr;intro x _;have h3:(Vasnpb.keepersIn g (fE g) x).length<=(Vasnpb.objects g).length:=mL _ _;have e:(Vasnpb.objects g).length=g.objs.length:=xc;have h4:Vasnpb.depthIn g (fE g) x<=g.objs.length:=by rw[<-e];exact h3
  exact decide_eq_true (by omega)
 rw[h2]at U;exact U
def zH(g:bp)(y:Nat):List Nat:=[y,(match Vasnpb.keeperIn g (fE g) y with|none=>0|some x=>x+1),Vasnpb.depthIn g (fE g) y]
theorem ash(g:bp):Vasnpb.treeRows g=(alive g [] []).flatMap (zH g):=rfl
theorem asi{l:List Nat}(h:¬1<l.length):(match l.dropLast.getLast? with|none=>0|some x=>x+1)=0:=by
 match l,h with
 | [],_=>rfl
 | [a],_=>rfl
 |a::b::l,h=>exact absurd (by simp) h
theorem asj{l:List Nat}(h:1<l.length):∃x,l[l.length-2]? =some x/\(match l.dropLast.getLast? with|none=>0|some x=>x+1)=x+1:=by
 have h2:l.length-2<l.length:=by omega
 refine ⟨l[l.length-2],iN h2,?_⟩;have e:l.dropLast.getLast?=some l[l.length-2]:=by
  rw[List.getLast?_eq_getElem?,List.length_dropLast,List.getElem?_dropLast];rw[if_pos (by omega)];have e3:l.length-1-1=l.length-2:=by omega
  rw[e3];exact iN h2
 rw[e]
theorem asl{F:Addr->Nat->Prop}{ys:List Nat}{bs:List Addr}(p:Paired F bs ys):∀{i:Nat}{k:Key}{v:V},(kd ys bs)[i]? =some (k,v)->∃y b,ys[i]? =some y/\k=Sum.inl (y:Int)/\v=V.ref b/\F b y:=by
 induction p with
 |nil=>intro i k v h;cases h
 | @cons b y bs ys r q ih=>
  intro i k v h;cases i with
  |zero=>
   cases h;exact ⟨y,b,rfl,rfl,rfl,r⟩
  |succ i=>exact ih h
theorem kd_len{F:Addr->Nat->Prop}{ys:List Nat}{bs:List Addr}(p:Paired F bs ys):(kd ys bs).length=ys.length:=by
 induction p with
 |nil=>rfl
 |cons r q ih=>show (_::_:List _).length=_;rw[iz,iz,ih]
theorem asm{f fl:Addr}{fd lO:dn}(F:eW K "answer_tree" "answer_tree" Rr f fd)(T:Txt K mg t)(cl:eY P w K mg base bJ 6 "keepers_by_object" fl lO K9 (T5 t)):
  c8 P w K mg base bJ 7 f fd aax (Bg t fun _ _ c=>c=.tree):=by
 refine F.ok aay (fun vs H Q E h=>?_) (fun c6 A outer s H vs Q E hr h=>?_)
 .obtain ⟨p,aN,aL,g,past,ns,cS,c,rfl,_⟩:=h;rfl
 .obtain ⟨p,aN,aL,g,past,ns,cS,c,rfl,hD,gs,hN,hL,ll,ln,tb,rfl,k⟩:=h;have nd:=aay.nd;refine ⟨_,bF (dB (i:=3) nd rfl (Or.inl rfl) (dG (ax (gY T.lN) aO)))
   (bF (kW jW rfl (amq (asd (eB cl.G hr rfl cl.m cl.kp cl.b .nil di (ax (cO (pv 0) rfl) aO)))) (Ak rfl (oB (gG (i:=4) nd rfl (Or.inl rfl)) (oB (gG (i:=5) nd rfl (Or.inl rfl)) xx)))
    (bF (dB (i:=6) nd rfl (Or.inl rfl) (Ka (ng Kn (jR l7 (by rfl) T.len lW (ax (pv 5) aO)) gg (mS _)) (o6 Gy (gj ia (pv 5) (Ki Kk gg) (fun _ _=>rfl)) gg) gg))
    (cy (jv (j8 jX xb zU Az (pv 3) (ax (dG (ax (pv 4) (ax (pv 6) (ax (jR l7 (by rfl) T.len lW (ax (pv 5) aO)) aO)))) aO))))))
   (cy (eN (pv 3)))),?_⟩
  try dsimp only[fQ,fS,fT,fV]
  have iE:=hD;obtain ⟨dx,ag,ab,gM,hp,hg,hb,mJ⟩:=hD;have fit:=nA gs.now;have al:=Ic gs.now [] [];refine ⟨(by show 1<=cJ;decide),fun o ho=>?_⟩;have s0:=aC.nw (o:=.lst [V.int 0]) ho;refine ⟨_,rfl,s0 _ _ hp,T.iI,T.jE,j9 _ _,ag,g,rfl,hg.same s0,fit,(tb.same s0).k,?_⟩;intro H1 d bs b1 hk1 hd wR uE;obtain ⟨qs,wU⟩:=(tb.same s0).k.tb;have s1:iC _ H1:=iC.tab b1 wU;have T7:l9 t H1:=l9.aey T (tb.same s0) b1 hk1;refine ⟨d,_,rfl,wR,trivial,fun od=>?_⟩;have fd':H d=none:=s0.free hd;have nod:o≠d:=dw aJ hd;have s2:iC H (upd H1 d (.gU od (.dK (kd (alive g [] []) bs)))):=(s0.tt.trans s1).own fd';have se:(upd H1 d (.gU od (.dK (kd (alive g [] []) bs)))) o=some (.lst [V.int 0]):=by
   rw[bC nod];exact s1 _ _ aJ (by intro _ z;cases z)
  have tb2:l9 t (upd H1 d (.gU od (.dK (kd (alive g [] []) bs)))):=T7.Iv (bY.refl d H1).upd wR (by intro _ z;cases z) (by intro _ z;cases z);have kl:=kd_len uE;refine ⟨d,od,_,rfl,aJ,?_⟩;refine ase (d:=d) (o:=od) (kvs:=kd (alive g [] []) bs) (fun i σ H'=>∃v4 v5 v6:Option V,σ=[some (.ref p),some (.ref aN),some (.ref aL),some (.ref o),v4,v5,v6]/\iC H H'/\bY o (upd H1 d (.gU od (.dK (kd (alive g [] []) bs)))) H'/\
    H' o=some (.lst (nats (0::((alive g [] []).take i).flatMap (zH g)))))
   ⟨none,none,none,rfl,s2,bY.refl _ _,se⟩ (fun i σ H' _ ⟨_,_,_,_,_,b1,_⟩=>b1 _ _ aJ (fun z=>nod z.symm)) ?_ ?_
  .rintro i ky v σ H' Tu AI ⟨v4,v5,v6,rfl,s3,b3,vn⟩ hT;obtain ⟨y,b,hy,rfl,rfl,MH,nE⟩:=asl uE AI;have T8:b≠o:=fun z=>by
    rw[z,aJ]at MH;cases MH
   have Fi:b≠d:=iG nE wR (by intro z;cases z);have Bj:H' b=some (.lst (nats (chainOf g y))):=b3 _ _ (by rw[bC Fi];exact nE) T8;have sT:=aC.nw (o:=.tup [kV (Sum.inl (y:Int)),V.ref b]) hT;have oJ:i<(alive g [] []).length:=(gq.mp hy).1;have lc:(nats (chainOf g y)).length=(chainOf g y).length:=by unfold nats;rw[bt]
   have bound:(((alive g [] []).take i).flatMap (zH g)).length<=1000:=by
    have q:=uL (zH g) 3 ((alive g [] []).take i) (fun _ _=>dR _);rw[mB]at q;have:min i (alive g [] []).length*3<=48*3:=DD _ (by omega);omega
   refine ⟨Tu,_,rfl,kj.of aJ,rfl,_,_,rfl,_,_,rfl,rfl,?_⟩;have grow:∀(kp:Nat),kp=(match Vasnpb.keeperIn g (fE g) y with|none=>0|some x=>x+1)->∀l1,(upd H' Tu (.tup [kV (Sum.inl (y:Int)),V.ref b])) l1=none->∀u,
     iC H (upd (upd (upd H' Tu (.tup [kV (Sum.inl (y:Int)),V.ref b])) l1 u) o (.lst (nats (0::((alive g [] []).take i).flatMap (zH g))++[V.int (y:Int),V.int (kp:Int),V.int ((chainOf g y).length:Int)])))/\
     bY o (upd H1 d (.gU od (.dK (kd (alive g [] []) bs)))) (upd (upd (upd H' Tu (.tup [kV (Sum.inl (y:Int)),V.ref b])) l1 u) o (.lst (nats (0::((alive g [] []).take i).flatMap (zH g))++[V.int (y:Int),V.int (kp:Int),V.int ((chainOf g y).length:Int)])))/\
     (nats (0::((alive g [] []).take i).flatMap (zH g))++[V.int (y:Int),V.int (kp:Int),V.int ((chainOf g y).length:Int)])=nats (0::((alive g [] []).take (i+1)).flatMap (zH g)):=by
    intro kp hk l1 om u;refine ⟨((s3.new hT).new om).own ho,?_,?_⟩
    .exact ((b3.trans (sT.trans (aC.nw om)).but)).upd
    .rw[take_snoc hy,sZ,hk,asf];simp[nats,zH]
   refine ⟨_,rfl,b,_,rfl,.inl (aD.of (sT _ _ Bj)),_,_,rfl,rfl,_,rfl,?_⟩;rw[lc];have MI:=sT _ _ vn;refine jq (fun z=>?_) (fun z=>?_)
   .have hz:1<(chainOf g y).length:=by
     have:=of_decide_eq_true z;omega
    obtain ⟨x,hx,hk⟩:=asj hz;have hx2:mf (nats (chainOf g y)) (-2)=some (V.int (x:Int)):=by
     have:mf (nats (chainOf g y)) (-2)=(nats (chainOf g y))[(chainOf g y).length-2]? :=by
      unfold mf xE;rw[if_neg (by omega),lc,if_pos (by omega)];show (nats (chainOf g y))[((-2:Int)+((chainOf g y).length:Int)).toNat]? =_;congr 1;omega
     rw[this];unfold nats;rw[gp,hx];rfl
    refine ⟨_,rfl,_,rfl,b,_,_,_,rfl,rfl,aD.of (sT _ _ Bj),hx2,_,_,rfl,rfl,?_⟩;refine ⟨_,rfl,.inl ⟨rfl,_,aD.of MI⟩,_,rfl,_,rfl,_,rfl,b,_,rfl,.inl (aD.of (sT _ _ Bj)),(by show 3<=cJ;decide),fun l1 om=>?_⟩;rw[lc];refine ⟨o,l1,_,_,rfl,rfl,aC.nw om _ _ MI,aJ,?_,?_⟩
    .unfold nats;rw[bt,iz,eE];show _+1+3<=_;omega
    .obtain ⟨g1,g2,g3⟩:=grow (x+1) hk.symm l1 om (.lst [V.int (y:Int),V.int ((x+1:Nat):Int),V.int ((chainOf g y).length:Int)]);exact ⟨_,_,_,rfl,g1,g2,by rw[aJ];exact congrArg (fun l=>some (HO.lst l)) g3⟩
   .have hz:¬1<(chainOf g y).length:=fun q=>z (decide_eq_true (by omega));have hk:=asi hz;refine ⟨_,rfl,.inl ⟨rfl,_,aD.of MI⟩,_,rfl,_,rfl,_,rfl,b,_,rfl,.inl (aD.of (sT _ _ Bj)),(by show 3<=cJ;decide),fun l1 om=>?_⟩;rw[lc];refine ⟨o,l1,_,_,rfl,rfl,aC.nw om _ _ MI,aJ,?_,?_⟩
    .unfold nats;rw[bt,iz,eE];show _+1+3<=_;omega
    .obtain ⟨g1,g2,g3⟩:=grow 0 hk.symm l1 om (.lst [V.int (y:Int),V.int 0,V.int ((chainOf g y).length:Int)]);exact ⟨_,_,_,rfl,g1,g2,by rw[aJ];exact congrArg (fun l=>some (HO.lst l)) g3⟩
  .rintro σ H2 ⟨v4,v5,v6,rfl,s3,b3,vn⟩;refine ⟨_,rfl,?_⟩;have e:(alive g [] []).take (kd (alive g [] []) bs).length=alive g [] []:=by rw[kl,jY]
   rw[e]at vn;refine k H2 o s3.but (tb2.Iv b3 se (by intro _ z;cases z) (by intro _ z;cases z)) ho (iE.tt s3) ?_;rw[vn,<-ash,wJ];rfl
end WD
open Vasnpb (keepersIn keepTable depthIn)
namespace WD
theorem C9{F:Addr->Nat->Prop}:∀{ys:List Nat}{bs:List Addr},Paired F bs ys->ys.Nodup->∀{i y:Nat},ys[i]? =some y->∃b,bs[i]? =some b/\hJ (kd ys bs) (Sum.inl (y:Int))=some (V.ref b)/\F b y
 |_,_,.nil,_,i,y,h=>by simp at h
 |y0::ys,b0::bs,.cons r q,nd,i,y,h=>by
  cases i with
  |zero=>
   simp only[FW,JB]at h;subst h;exact ⟨b0,rfl,by simp[kd,hJ],r⟩
  |succ i=>
   simp only[FX]at h;obtain ⟨b,U,h2,h3⟩:=C9 q (t8.mp nd).2 h;refine ⟨b,U,?_,h3⟩;have ny:y0≠y:=fun z=>(t8.mp nd).1 (by rw[z];exact iy h);have ne:¬((Sum.inl (y0:Int):Key)=Sum.inl (y:Int)):=fun z=>ny (by have:=zP z;omega);rw[<-h2];simp[kd,hJ,t9,ne]
theorem aeD:∀{ys:List Nat}{bs:List Addr}{y:Nat}{b:Addr},bs.length=ys.length->kd (ys++[y]) (bs++[b])=kd ys bs++[(Sum.inl (y:Int),V.ref b)]
 | [],[],_,_,_=>rfl
 | [],_::_,_,_,h=>by simp at h
 |_::_,[],_,_,h=>by simp at h
 |y0::ys,b0::bs,y,b,h=>by
  show (_::kd (ys++[y]) (bs++[b]):List (Key×V))=_::(kd ys bs++_);rw[aeD (by simpa using h)]
theorem aeE{α β:Type}{G:α->β->Prop}:∀{bs:List α}{ys:List β},bs.length=ys.length->(∀(i:Nat) b y,bs[i]? =some b->ys[i]? =some y->G b y)->Paired G bs ys
 | [],[],_,_=>.nil
 | [],_::_,h,_=>by simp at h
 |_::_,[],h,_=>by simp at h
 |b::bs,y::ys,h,k=>.cons (k 0 b y rfl rfl) (aeE (by simpa using h) fun i b' y' U h2=>k (i+1) b' y' U h2)
structure nV(H0 H:Hp)(d:Addr)(ys:List Nat)(ls:Nat->List Nat)(bs:List Addr):Prop where
 at_:H d=some (.dK (kd ys bs))
 pr:Paired (fun b y=>H0 b=none/\H b=some (.lst (nats (ls y)))) bs ys
 nd:bs.Nodup
theorem nV.same{H0 H H':Hp}{d:Addr}{ys:List Nat}{ls:Nat->List Nat}{bs:List Addr}(h:nV H0 H d ys ls bs)(s:aC H H'):nV H0 H' d ys ls bs:=⟨s _ _ h.at_,gX h.pr fun _ _ q=>⟨q.1,s _ _ q.2⟩,h.nd⟩
theorem nV.tt{H0 H H':Hp}{d:Addr}{ys:List Nat}{ls:Nat->List Nat}{bs:List Addr}(h:nV H0 H d ys ls bs)(s:iC H H'):nV H0 H' d ys ls bs:=⟨s _ _ h.at_ (by intro _ z;cases z),gX h.pr fun _ _ q=>⟨q.1,s _ _ q.2 (by intro _ z;cases z)⟩,h.nd⟩
theorem nV.congr{H0 H:Hp}{d:Addr}{ys:List Nat}{ls xV:Nat->List Nat}{bs:List Addr}(h:nV H0 H d ys ls bs)(e:∀y∈ys,ls y=xV y):nV H0 H d ys xV bs:=
 ⟨h.at_,RM h.pr fun _ y _ hy q=>⟨q.1,by rw[<-e y hy];exact q.2⟩,h.nd⟩
theorem nV.put{H0 H:Hp}{d:Addr}{ys:List Nat}{ls:Nat->List Nat}{bs:List Addr}{y:Nat}{b:Addr}(h:nV H0 H d ys ls bs)(hy:y∉ys)(hd0:H0 d=none)(hb:H b=some (.lst (nats (ls y))))(rR:H0 b=none)(Iy:b∉bs):
  nV H0 (upd H d (.dK (putK (kd ys bs) (Sum.inl (y:Int)) (V.ref b)))) d (ys++[y]) ls (bs++[b]):=by
 have hv:hJ (kd ys bs) (Sum.inl (y:Int))=none:=by
  rcases MG h.pr y with ⟨_,z⟩|⟨z,_⟩
  .exact z
  .exact absurd z hy
 have Fi:∀{c:Addr}{l:List V},H c=some (.lst l)->c≠d:=fun {c l} e=>iG e h.at_ (by intro z;cases z);refine ⟨by rw[aJ,KJ _ hv,aeD h.pr.length],?_,?_⟩
 .refine vM (gX h.pr fun c z q=>⟨q.1,by rw[bC (Fi q.2)];exact q.2⟩) ⟨rR,by rw[bC (Fi hb)];exact hb⟩
 .rw[wZ];refine ⟨h.nd,by simp,?_⟩;intro a ha c hc e;simp at hc;subst hc;exact Iy (e▸ha)
theorem nV.grow{H0 H:Hp}{d:Addr}{ys:List Nat}{ls:Nat->List Nat}{bs:List Addr}{i y n:Nat}{b:Addr}(h:nV H0 H d ys ls bs)(ndy:ys.Nodup)(hi:ys[i]? =some y)(hb:bs[i]? =some b):
  nV H0 (upd H b (.lst (nats (ls y)++[V.int (n:Int)]))) d ys (fun z=>if z=y then ls z++[n] else ls z) bs:=by
 obtain ⟨z,hz,h0,nE⟩:=lM h.pr hb;rw[hi]at hz;cases hz;have Fi:d≠b:=iG h.at_ nE (by intro z;cases z);refine ⟨by rw[bC Fi];exact h.at_,aeE h.pr.length ?_,h.nd⟩;intro j c x hc hx;obtain ⟨x',yu,c0,Bd⟩:=lM h.pr hc;rw[hx]at yu;cases yu;refine ⟨c0,?_⟩;by_cases e:j=i
 .subst e;rw[hb]at hc;cases hc;rw[hi]at hx;cases hx;rw[aJ,if_pos rfl];unfold nats;rw[iO];rfl
 .have R6:c≠b:=fun q=>e (Hb h.nd hc (by rw[q];exact hb));have nxy:x≠y:=fun q=>e (Hb ndy hx (by rw[q];exact hi));rw[bC R6,if_neg nxy];exact Bd
theorem ass{g:bp}{y:Nat}{ps:List (Int×V)}(hp:ps.Perm (sO (fun i=>(qE g (fE g) ((mz g (fE g) y).getD i 0):Int)) (nats (mz g (fE g) y))))(hs:ps.Pairwise fun p q=>p.1<=q.1)(hf:∀c:Int,ps.filter (fun p=>p.1==c)=(sO (fun i=>(qE g (fE g) ((mz g (fE g) y).getD i 0):Int)) (nats (mz g (fE g) y))).filter fun p=>p.1==c):
  ps.map (·.2)=nats (chainOf g y):=by
 have ez:sO (fun i=>(qE g (fE g) ((mz g (fE g) y).getD i 0):Int)) (nats (mz g (fE g) y))=(mz g (fE g) y).map fun x=>((qE g (fE g) x:Int),V.int (x:Int)):=by
  apply Wh;intro i;unfold sO nats;rw[gp,Oa,gp,gp,vK];cases e:(mz g (fE g) y)[i]? with
  |none=>rfl
  |some x=>
   show some ((qE g (fE g) ((mz g (fE g) y).getD i 0):Int),V.int (x:Int))=_;rw[lT,e];rfl
 rw[ez]at hp hf;have hb:∀p∈ps,0<=p.1/\p.1<((g.objs.length+1:Nat):Int):=by
  intro p Iz;have:=hp.mem_iff.mp Iz;obtain ⟨x,_,rfl⟩:=js.mp this;have h3:(mz g (fE g) x).length<=(Vasnpb.objects g).length:=mL _ _;have e:(Vasnpb.objects g).length=g.objs.length:=xc;have h4:qE g (fE g) x<=g.objs.length:=by rw[<-e];exact h3
  show (0:Int)<=(qE g (fE g) x:Int)/\(qE g (fE g) x:Int)<_;omega
 have:=WK.aiF (·.1) ps hs (g.objs.length+1) hb;rw[this,ahJ];unfold chainOf Vasnpb.chainIn nats;rw[ahJ];congr 1
 funext d
 show (ps.filter fun p=>p.1==(d:Int)).map (·.2)=_;rw[hf,JC,n9];have ef:(mz g (fE g) y).filter ((fun p:Int×V=>p.1==(d:Int)) ∘ fun x=>((qE g (fE g) x:Int),V.int (x:Int)))=(mz g (fE g) y).filter fun x=>qE g (fE g) x==d:=by
  refine qC fun x _=>?_;show ((qE g (fE g) x:Int)==(d:Int))=(qE g (fE g) x==d);rw[n4];simp;omega
 rw[ef];rfl
theorem T9(g:bp)(out cut:List Nat):(alive g out cut).Nodup:=(WK.DI g out cut).imp fun h=>kg h
theorem asu(g:bp)(out cut:List Nat):(gone g out cut).Nodup:=(T9 g [] []).sublist Jq
theorem Ua{g:bp}(fit:pj g){y:Nat}(hy:y∈alive g [] []):mz g (fE g) y=(alive g [] []).filter fun x=>(kept g [x]).contains y:=WK.aic fit.ok ((WK.tj fit.ok).mp hy)
theorem asv{g:bp}(fit:pj g){y:Nat}(hy:y∈alive g [] []):(mz g (fE g) y).length<=48:=by
 rw[Ua fit hy];exact gN (mL _ _) (zo fit [] [])
theorem LL{α β:Type}[BEq α][LawfulBEq α]{k:α}{v:β}{r:List (α×β)}:List.lookup k ((k,v)::r)=some v:=by
 simp only[List.lookup,beq_self_eq_true]
theorem asw{f fl fo:Addr}{fd lO mV:dn}{c:Addr}(F:AV K "keepers_by_object" "keepers_by_object" QR f fd c t.tK)(T:Txt K mg t)(kb:K.In base)(B:wB base mg)(cl:eY P w K mg base bJ 3 "live_objects" fl lO yL (A5 K t))(co:eY P w K mg base bJ 4 "lost_objects" fo mV xN (zg K t)):
  c8 P w K mg base bJ 6 f fd K9 (T5 t):=by
 refine F.ok ZX (fun vs H Q E h=>?_) (fun A outer s H vs Q E hr h=>?_)
 .obtain ⟨ag,g,rfl,_⟩:=h;rfl
 .obtain ⟨ag,g,rfl,hg,fit,hT,k⟩:=h;have nd:=ZX.nd;have hu:=vk hr;have tQ:dQ 3 _:=hr.mono (by decide);have rg:dQ 4 _:=hr.mono (by decide);refine ⟨_,bF (dB (i:=1) nd rfl (Or.inl rfl) (eB cl.G tQ rfl cl.m cl.kp cl.b .nil di (ax (pv 0) (ax (dG aO) (ax (dG aO) aO)))))
   (bF (dB (i:=2) nd rfl (Or.inr rfl) G6)
   (bF (kW jW rfl (l0 (pv 1)) (gG (i:=3) nd rfl (Or.inl rfl)) (cy (El hu (pv 2) (pv 3) (dG aO) rfl)))
   (bF (kW jW rfl (l0 (pv 1)) (gG (i:=3) nd rfl (Or.inl rfl)) (cy (kW jW rfl (l0 (eB co.G rg rfl co.m co.kp co.b .nil di (ax (pv 0) (ax (dG (ax (pv 3) aO)) (ax (dG aO) aO))))) (gG (i:=4) nd rfl (Or.inl rfl))
    (cy (jv (j8 jX n6 n8 nM (Cf hu (pv 2) (pv 4) (fun _ _=>rfl)) (ax (pv 3) aO)))))))
   (bF (dB (i:=5) nd rfl (Or.inl rfl) G6)
   (bF (kW jW rfl (l0 (pv 1)) (gG (i:=3) nd rfl (Or.inl rfl)) (cy (El hu (pv 5) (pv 3)
    (aep (O:=PyProof.Rows.intKind.toKeyOrd) (ko:=fun _ v=>PyProof.Rows.intKind.keyOf v) (d0:=PyProof.Rows.intKind.dflt) (kd:=oneType') (qual:=EC) (ys:=["keepers"]) (cs:=[2]) (x:="keeper") (kkf:=fun (kf:Nat->Int)=>kf) (KRf:=fun kf=>KRi kf) (fun kf=>arN kf)
     ⟨rfl,rfl,rfl,F.hd.hd kb,B,⟨rfl,rfl,rfl,by decide +kernel,rfl,fun y hy=>?has,fun y z a U h2=>?inj⟩,fun _ _ _ _ _ _=>rfl,.cons ⟨rfl,rfl,rfl⟩ .nil,fun y a ha=>?cells,rfl⟩ rg rfl rfl T.sorted (Cf hu (pv 2) (pv 3) (fun _ _=>rfl))
     (fun A f c' s H hA=>jR (aa6 (K:=K)) (by rfl) T.len lW (ax (Cf (vk (dQ.deeper (k:=0) hA _)) (pv 1) (pv 0) (fun _ _=>rfl)) aO))) rfl)))
   (cy (eN (pv 5)))))))),?_⟩
  try dsimp only[fQ,fS,fT,fV]
  case has=>
   by_cases e:y=("keepers":Str)
   .subst e;exact ⟨_,LL⟩
   .have hm:=oW hy;rcases f6.mp hm with z|z
    .cases z
    .rcases f6.mp z with z|z
     .exact absurd (congrArg Prod.fst z) e
     .rcases f6.mp z with z|z
      .cases z
      .cases z
  case inj=>
   have U:=oW U;have h2:=oW h2;rw[ahK]at U h2;exact (congrArg Prod.fst U).trans (congrArg Prod.fst h2).symm
  case cells=>exact ha
  have al:=zo fit [] [];have Fj:=T9 g [] [];have hT0:∃ps,H t.tK=some (.kU ps):=hT.tb;refine ⟨_,rfl,dU _,fun a1 U=>⟨dU _,fun a2 h2=>?_⟩⟩;have s1:=(aC.nw (o:=.lst []) U).trans (aC.nw (o:=.lst []) h2);refine ⟨ag,a1,a2,g,[],[],rfl,⟨hg.same s1,fit,aD.of (aC.nw h2 _ _ aJ),aD.of aJ,by simp,by simp⟩,?_⟩;intro H1 l sL hl qv;have s2:=s1.trans sL;refine fun kp MJ=>?_;have s3:=s2.trans (aC.nw (o:=.dK []) MJ);have fkp:H kp=none:=s2.free MJ;have fl:H l=none:=s1.free hl;have aeH:=aC.nw (o:=.dK []) MJ _ _ qv;have asx:l≠kp:=dw qv MJ;refine ⟨_,rfl,l,rfl,⟨_,aD.of aeH⟩,qK (K:=K) (a:=l) (xs:=nats (alive g [] [])) (fun i σ H'=>∃(v3:Option V)(bs:List Addr),σ=[some (.ref ag),some (.ref l),some (.ref kp),v3,none,none]/\aC H H'/\H' l=some (.lst (nats (alive g [] [])))/\nV H H' kp ((alive g [] []).take i) (fun _=>[]) bs/\∀b∈bs,b≠l)
   ⟨none,[],rfl,s3,aeH,⟨aJ,.nil,Bu⟩,by simp⟩ (fun i σ H' _ ⟨_,_,_,_,z,_⟩=>aD.of z) ?_ ?_⟩
  .rintro i x σ H' hx ⟨v3,bs,rfl,s4,xY,D4,Ub⟩;obtain ⟨n,hn,rfl⟩:=nQ hx;refine ⟨dU _,fun b hb=>?_⟩;have D5:=D4.same (aC.nw (o:=.lst []) hb);have fb:H b=none:=s4.free hb;have oJ:=(gq.mp hn).1;have Ud:n∉(alive g [] []).take i:=by
    intro z;have:=take_snoc hn;have vt:((alive g [] []).take (i+1)).Nodup:=Fj.sublist (NX _ _);rw[this,wZ]at vt;exact vt.2.2 n z n (by simp) rfl
   refine ⟨_,rfl,_,rfl,kp,_,rfl,vi.k (k:=Sum.inl (n:Int)) D5.at_ (by rw[kd_len D5.pr,mB,eE];omega),?_⟩;have Iy:b∉bs:=fun z=>by
    obtain ⟨j,hj⟩:=rj z;obtain ⟨y,_,_,q⟩:=lM D4.pr hj;rw[hb]at q;cases q
   refine ⟨_,bs++[b],rfl,(s4.new hb).own fkp,?_,?_,?_⟩
   .rw[bC asx];exact aC.nw hb _ _ xY
   .rw[take_snoc hn];exact D5.put Ud fkp aJ fb Iy
   .intro c hc;rcases kN.mp hc with z|z
    .exact Ub c z
    .simp at z;subst z;exact fun q=>(dw xY hb) q.symm
  rintro σ H2 ⟨v3,bs,rfl,s4,xY,D4,Ub⟩;have eT:(alive g [] []).take (nats (alive g [] [])).length=alive g [] []:=by unfold nats;rw[bt,jY]
  rw[eT]at D4;refine ⟨_,rfl,l,rfl,⟨_,aD.of xY⟩,qK (K:=K) (a:=l) (xs:=nats (alive g [] [])) (fun i σ H'=>∃(v3 v4:Option V),σ=[some (.ref ag),some (.ref l),some (.ref kp),v3,v4,none]/\aC H H'/\H' l=some (.lst (nats (alive g [] [])))/\
    nV H H' kp (alive g [] []) (fun y=>((alive g [] []).take i).filter fun x=>(kept g [x]).contains y) bs)
   ⟨v3,none,rfl,s4,xY,D4⟩ (fun i σ H' _ ⟨_,_,_,_,z,_⟩=>aD.of z) ?_ ?_⟩
  .rintro i x σ H' hx ⟨v3,v4,rfl,s5,CI,D5⟩;obtain ⟨n,hn,rfl⟩:=nQ hx;have oJ:=(gq.mp hn).1;refine ⟨_,rfl,_,rfl,(by show 1<=cJ;decide),fun a3 h3=>⟨dU _,fun a4 h4=>?_⟩⟩;have s6:=(aC.nw (o:=.lst [V.int (n:Int)]) h3).trans (aC.nw (o:=.lst []) h4);refine ⟨ag,a3,a4,g,[n],[],rfl,⟨(hg.same s5).same s6,fit,aD.of (aC.nw h4 _ _ aJ),aD.of aJ,by simp,by simp⟩,?_⟩;intro H6 kl s7 Fl yh;have s8:=s6.trans s7;have fkl:H kl=none:=(s5.trans s6).free Fl;have gl:=A6 fit [n] [];have ndK:=asu g [n] [];refine ⟨kl,rfl,⟨_,aD.of yh⟩,qK (K:=K) (a:=kl) (xs:=nats (gone g [n] [])) (fun j σ H'=>∃(v4:Option V),σ=[some (.ref ag),some (.ref l),some (.ref kp),some (.int (n:Int)),v4,none]/\aC H H'/\H' l=some (.lst (nats (alive g [] [])))/\H' kl=some (.lst (nats (gone g [n] [])))/\
     nV H H' kp (alive g [] []) (fun y=>(((alive g [] []).take i).filter fun x=>(kept g [x]).contains y)++if y∈(gone g [n] []).take j then [n] else []) bs)
    ⟨v4,rfl,s5.trans s8,s8 _ _ CI,yh,(D5.same s8).congr fun y _=>by simp⟩ (fun i σ H' _ ⟨_,_,_,_,z,_⟩=>aD.of z) ?_ ?_⟩
   .rintro j x σ H' hx ⟨v4,rfl,s9,Ue,aeI,D9⟩;obtain ⟨m,hm,rfl⟩:=nQ hx;have Ug:m∈alive g [] []:=(gT.mp (iy hm)).1;obtain ⟨im,MK⟩:=rj Ug;obtain ⟨b,hb,hv,rR,nE⟩:=C9 D9.pr Fj MK;have hlen:((((alive g [] []).take i).filter fun x=>(kept g [x]).contains m)++if m∈(gone g [n] []).take j then [n] else []).length<=50:=by
     rw[gR];have q1:(((alive g [] []).take i).filter fun x=>(kept g [x]).contains m).length<=48:=gN (mL _ _) (by rw[mB];omega);have q2:(if m∈(gone g [n] []).take j then [n] else []).length<=1:=by split<;>simp
     omega
    refine ⟨_,rfl,_,rfl,kp,V.ref b,rfl,(by rw[<-hv];exact lL.k (k:=Sum.inl (m:Int)) D9.at_),.inl ⟨rfl,_,aD.of nE⟩,_,rfl,b,_,_,rfl,rfl,nE,?_,?_⟩
    .unfold nats;rw[bt,eE];omega
    have D10:=D9.grow (n:=n) Fj MK hb;have CJ:l≠b:=fun z=>by
     have:=rR;rw[<-z]at this;obtain ⟨y',_,_,q⟩:=lM D4.pr hb;exact Ub b (iy hb) z.symm
    have SE:kl≠b:=fun z=>by
     obtain ⟨y',_,_,q⟩:=lM D4.pr hb;have:=s5;obtain ⟨y2,_,_,q2⟩:=lM D5.pr hb;exact (dw (s6 _ _ q2) Fl) z.symm
    refine ⟨_,rfl,s9.own rR,by rw[bC CJ];exact Ue,by rw[bC SE];exact aeI,D10.congr fun y _=>?_⟩;have nm:m∉(gone g [n] []).take j:=by
     intro z;have vt:((gone g [n] []).take (j+1)).Nodup:=ndK.sublist (NX _ _);rw[take_snoc hm,wZ]at vt;exact vt.2.2 m z m (by simp) rfl
    rw[take_snoc hm];by_cases e:y=m
    .subst e;rw[if_pos rfl,if_neg nm,if_pos (by simp),nZ]
    .rw[if_neg e];simp[e]
   .rintro σ H7 ⟨v4,rfl,s9,Ue,aeI,D9⟩;have eK:(gone g [n] []).take (nats (gone g [n] [])).length=gone g [n] []:=by unfold nats;rw[bt,jY]
    rw[eK]at D9;refine ⟨_,_,rfl,s9,Ue,D9.congr fun y _=>?_⟩;rw[take_snoc hn,vJ];congr 1;by_cases e:y∈gone g [n] []
    .have e2:(kept g [n]).contains y=true:=by simpa using (show y∈kept g [n] from e)
     rw[if_pos e,kO,if_pos e2];rfl
    .have e2:¬(kept g [n]).contains y=true:=by simpa using (show ¬y∈kept g [n] from e)
     rw[if_neg e,kO,if_neg e2];rfl
  rintro σ H3 ⟨v3,v4,rfl,s5,CI,D5⟩;rw[eT]at D5;have D6:nV H H3 kp (alive g [] []) (mz g (fE g)) bs:=D5.congr fun y hy=>(Ua fit hy).symm;refine fun od xJ=>?_;have s6:=s5.trans (aC.nw (o:=.dK []) xJ);have Uh:H od=none:=s5.free xJ;have asA:l≠od:=dw CI xJ;have asB:kp≠od:=dw D6.at_ xJ;refine ⟨_,rfl,l,rfl,⟨_,aD.of (aC.nw (o:=.dK []) xJ _ _ CI)⟩,qK (K:=K) (a:=l) (xs:=nats (alive g [] [])) (fun i σ H'=>∃(v3:Option V)(cs:List Addr),σ=[some (.ref ag),some (.ref l),some (.ref kp),v3,v4,some (.ref od)]/\bY t.tK H H'/\ml H' t.tK posK EC/\H' l=some (.lst (nats (alive g [] [])))/\
    nV H H' kp (alive g [] []) (mz g (fE g)) bs/\nV H H' od ((alive g [] []).take i) (chainOf g) cs)
   ⟨v3,[],rfl,s6.but,hT.same s6,aC.nw xJ _ _ CI,D6.same (aC.nw xJ),⟨aJ,.nil,Bu⟩⟩ (fun i σ H' _ ⟨_,_,_,_,_,z,_⟩=>aD.of z) ?_ ?_⟩
  .rintro i x σ H' hx ⟨v3,cs,rfl,b7,ML,EV,D7,O7⟩;obtain ⟨n,hn,rfl⟩:=nQ hx;have oJ:=(gq.mp hn).1;have hnA:n∈alive g [] []:=iy hn;obtain ⟨b,hb,hv,rR,nE⟩:=C9 D7.pr Fj hn;have Fl:=asv fit hnA;obtain ⟨qs7,MM⟩:=ML.tb;have nbT:b≠t.tK:=iG nE MM (by intro z;cases z);refine ⟨_,rfl,_,rfl,kp,V.ref b,rfl,(by rw[<-hv];exact lL.k (k:=Sum.inl (n:Int)) D7.at_),b,nats (mz g (fE g) n),[V.ref kp],(fun i=>(qE g (fE g) ((mz g (fE g) n).getD i 0):Int)),rfl,aD.of nE,by unfold nats;rw[bt];omega,?_,nbT,ML,.cons rfl .nil,?_,?_⟩
   .intro x hx;obtain ⟨m,_,rfl⟩:=js.mp hx;exact .inl ⟨_,rfl⟩
   .intro j x H8 hx b8;obtain ⟨m,hm,rfl⟩:=nQ hx;have hmk:=iy hm;rw[Ua fit hnA]at hmk;have Ug:m∈alive g [] []:=(gT.mp hmk).1;have D8:=D7.tt (iC.tab b8 MM);obtain ⟨im,MK⟩:=rj Ug;obtain ⟨b2,hb2,hv2,_,asE⟩:=C9 D8.pr Fj MK;refine ⟨_,rfl,_,rfl,kp,V.ref b2,rfl,(by rw[<-hv2];exact lL.k (k:=Sum.inl (m:Int)) D8.at_),b2,_,rfl,.inl (aD.of asE),aC.refl _,?_⟩;show V.int ((nats (mz g (fE g) m)).length:Int)=V.int (qE g (fE g) ((mz g (fE g) n).getD j 0):Int);rw[lT,hm];unfold nats qE;rw[bt];rfl
   .intro ps H8 D hp hs hf b8 Fp hD IB;have lq:ps.Pairwise fun p q=>p.1<=q.1:=hs.imp fun {p q} h=>by
     have h:decide ((q.1:Int)<(p.1:Int))=false:=h;exact Int.not_lt.mp (of_decide_eq_false h)
    have xi:∀c:Int,ps.filter (fun p=>p.1==c)=(sO (fun i=>(qE g (fE g) ((mz g (fE g) n).getD i 0):Int)) (nats (mz g (fE g) n))).filter fun p=>p.1==c:=fun c=>by
     have ep:(fun p:Int×V=>p.1==c)=fun p=>!decide (p.1<c)&&!decide (c<p.1):=by
      funext p
      rw[n4];simp;omega
     rw[ep];exact hf c
    have ec:=ass hp lq xi;rw[ec]at IB;have sT:=iC.tab b8 MM;have O8:=O7.tt sT;have D8:=D7.tt sT;have hl8:=sT _ _ EV (by intro _ z;cases z);obtain ⟨qs8,hq8⟩:=Fp.tb;have fD:H D=none:=T6 b7 ⟨_,MM⟩ hD;have Ud:n∉(alive g [] []).take i:=by
     intro z;have vt:((alive g [] []).take (i+1)).Nodup:=Fj.sublist (NX _ _);rw[take_snoc hn,wZ]at vt;exact vt.2.2 n z n (by simp) rfl
    refine ⟨_,rfl,_,rfl,od,_,rfl,vi.k (k:=Sum.inl (n:Int)) O8.at_ (by rw[kd_len O8.pr,mB,eE];omega),?_⟩;have hnc:D∉cs:=fun z=>by
     obtain ⟨j,hj⟩:=rj z;obtain ⟨y,_,_,q⟩:=lM O7.pr hj;rw[hD]at q;cases q
    have O9:=O8.put Ud Uh IB fD hnc;have bo:bY od H8 (upd H8 od (.dK (putK (kd ((alive g [] []).take i) cs) (Sum.inl (n:Int)) (V.ref D)))):=(bY.refl od H8).upd;have nT:t.tK≠od:=iG hq8 O8.at_ (by intro z;cases z);refine ⟨_,cs++[D],rfl,?_,Fp.but bo O8.at_ (by intro _ z;cases z) nT,by rw[bC asA];exact hl8,?_,by rw[take_snoc hn];exact O9⟩
    .intro b o e nb;rw[bC (dw e Uh)];exact b8 _ _ (b7 b o e nb) nb
    .refine ⟨by rw[bC asB];exact D8.at_,gX D8.pr fun c y q=>⟨q.1,?_⟩,D8.nd⟩;rw[bC (iG q.2 O8.at_ (by intro z;cases z))];exact q.2
  rintro σ H4 ⟨v3,cs,rfl,b7,ML,EV,D7,O7⟩;rw[eT]at O7;exact ⟨_,rfl,k H4 od cs b7 ML Uh O7.at_ O7.pr⟩
end WD
open Vasnpb (sizes)
namespace WD
def vy(x:Nat×Nat):List Int:=[-(x.2:Int),(x.1:Int)]
def Dc:List (Int ⊕ List Nat)->Nat×Nat
 | [.inl a,.inl b]=>(b.toNat,(-a).toNat)
 |_=>(0,0)
theorem MN(x:Nat×Nat):Dc ((vy x).map Sum.inl)=x:=by
 show ((x.1:Int).toNat,(-(-(x.2:Int))).toNat)=x;have e1:((x.1:Int)).toNat=x.1:=by omega
 have e2:(-(-(x.2:Int))).toNat=x.2:=by omega
 rw[e1,e2]
theorem asL{a b:Nat×Nat}(h:(listOrd itemOrd).kle ((vy a).map Sum.inl) ((vy b).map Sum.inl))(n:a.1≠b.1):WK.before a b:=by
 have h:PyProof.Rows.lexLt itemOrd [Sum.inl (-(b.2:Int)),Sum.inl (b.1:Int)] [Sum.inl (-(a.2:Int)),Sum.inl (a.1:Int)]=false:=h;rw[lex_false]at h;obtain ⟨U,h2⟩:=h;have U:decide (-(b.2:Int)< -(a.2:Int))=false:=U;have U:=of_decide_eq_false U;rcases h2 with h2|h2
 .have h2:decide (-(a.2:Int)< -(b.2:Int))=true:=h2;have h2:=of_decide_eq_true h2;exact .inl (by omega)
 .rw[lex_false]at h2;have h3:decide ((b.1:Int)<(a.1:Int))=false:=h2.1;have h3:=of_decide_eq_false h3;by_cases z:b.2<a.2
  .exact .inl z
  .exact .inr ⟨by omega,by omega⟩
theorem asM{g:bp}(fit:pj g){H:Hp}{ts:List Addr}{ps:List (List (Int ⊕ List Nat)×V)}(pr:Paired (fun a (x:Nat×Nat)=>H a=some (.tup [V.int (x.1:Int),V.int (x.2:Int)])) ts ((alive g [] []).map fun x=>(x,lX g (kept g [x]))))(hp:ps.Perm (sO (fun i=>(vy (((alive g [] []).map fun x=>(x,lX g (kept g [x]))).getD i (0,0))).map Sum.inl) (ts.map V.ref)))(hs:ps.Pairwise fun p q=>(listOrd itemOrd).kle p.1 q.1):
  ∃cs:List Addr,ps.map (·.2)=cs.map V.ref/\Paired (fun a (x:Nat×Nat)=>H a=some (.tup [V.int (x.1:Int),V.int (x.2:Int)])) cs (sizes g):=by
 have hl:=pr.length;have mem:∀p∈ps,∃(a:Addr)(x:Nat×Nat),p=((vy x).map Sum.inl,V.ref a)/\H a=some (.tup [V.int (x.1:Int),V.int (x.2:Int)]):=by
  intro p Iz;have hm:=hp.mem_iff.mp Iz;unfold sO at hm;obtain ⟨⟨v,i⟩,GH,rfl⟩:=js.mp hm;have hv:=pz.mp GH;obtain ⟨a,ha,rfl⟩:=pd hv;obtain ⟨x,hx,MO⟩:=lM pr ha;refine ⟨a,x,?_,MO⟩;show ((vy (((alive g [] []).map fun x=>(x,lX g (kept g [x]))).getD i (0,0))).map Sum.inl,V.ref a)=_;rw[lT,hx];rfl
 have ez:(sO (fun i=>(vy (((alive g [] []).map fun x=>(x,lX g (kept g [x]))).getD i (0,0))).map Sum.inl) (ts.map V.ref)).map (fun p=>Dc p.1)=(alive g [] []).map fun x=>(x,lX g (kept g [x])):=by
  apply Wh;intro i;unfold sO;rw[n9,gp,Oa,gp,vK];cases e:ts[i]? with
  |none=>
   have:((alive g [] []).map fun x=>(x,lX g (kept g [x])))[i]? =none:=by
    rw[NR]at e ⊢;omega
   rw[this];rfl
  |some a=>
   obtain ⟨x,hx,MO⟩:=lM pr e;rw[hx];show some (Dc ((vy (((alive g [] []).map fun x=>(x,lX g (kept g [x]))).getD i (0,0))).map Sum.inl))=some x;rw[lT,hx,MN];rfl
 have hq:=hp.map (fun p=>Dc p.1);rw[ez]at hq;have spec:=WK.Ot fit.ok;have md:(ps.map fun p=>Dc p.1).Pairwise fun a b=>a.1≠b.1:=by
  refine hq.symm.pairwise ?_ (fun h=>xa h);rw[JG];exact (T9 g [] []).imp fun h=>h
 have Hv:(ps.map fun p=>Dc p.1).Pairwise WK.before:=by
  rw[JG]at md ⊢;refine (List.Pairwise.and hs md).imp_of_mem fun {p q} Iz hqm h=>?_;obtain ⟨a,x,rfl,_⟩:=mem p Iz;obtain ⟨b,y,rfl,_⟩:=mem q hqm;have h2:=h.2;rw[MN,MN]at h2 ⊢;exact asL h.1 h2
 have eq:(ps.map fun p=>Dc p.1)=sizes g:=V8 (le:=WK.before) (fun a b _ _ U h2=>(WK.aid U h2).elim) Hv spec.1 (hq.trans spec.2.symm);rw[<-eq];clear eq Hv md hq ez hp hs
 induction ps with
 |nil=>exact ⟨[],rfl,.nil⟩
 |cons p r ih=>
  obtain ⟨cs,U,h2⟩:=ih fun q hq=>mem q (lU _ hq);obtain ⟨a,x,rfl,MO⟩:=mem p (m4 ..);refine ⟨a::cs,by rw[jx,jx,U],?_⟩;rw[jx,MN];exact .cons MO h2
def aeM(t:fZ):Sp:=fun vs H Q _=>∃ag g,vs=[.ref ag]/\i7 t H ag g/\pj g/\ml H t.tS RY LB/\
 ∀H' r cs,bY t.tS H H'->ml H' t.tS RY LB->H r=none->H' r=some (.lst (cs.map V.ref))->Paired (fun a (x:Nat×Nat)=>H' a=some (.tup [V.int (x.1:Int),V.int (x.2:Int)])) cs (sizes g)->Q (.ref r) H'
theorem asO{f fl fo fz:Addr}{fd lO mV wQ:dn}{c:Addr}(F:AV K "kept_sizes" "kept_sizes" QS f fd c t.tS)(T:Txt K mg t)(kb:K.In base)(B:wB base mg)(cl:eY P w K mg base bJ 3 "live_objects" fl lO yL (A5 K t))(co:eY P w K mg base bJ 4 "lost_objects" fo mV xN (zg K t))(cz:eY P w K mg base bJ 1 "size_of" fz wQ AM (C8 K t)):
  c8 P w K mg base bJ 6 f fd QT (aeM t):=by
 refine F.ok ZY (fun vs H Q E h=>?_) (fun A outer s H vs Q E hr h=>?_)
 .obtain ⟨ag,g,rfl,_⟩:=h;rfl
 .obtain ⟨ag,g,rfl,hg,fit,hT,k⟩:=h;have nd:=ZY.nd;have ig:dQ 1 _:=hr.mono (by decide);have tQ:dQ 3 _:=hr.mono (by decide);have rg:dQ 4 _:=hr.mono (by decide);refine ⟨_,bF (dB (i:=1) nd rfl (Or.inl rfl) (dG aO))
   (bF (kW jW rfl (l0 (eB cl.G tQ rfl cl.m cl.kp cl.b .nil di (ax (pv 0) (ax (dG aO) (ax (dG aO) aO))))) (gG (i:=2) nd rfl (Or.inl rfl))
    (cy (jv (j8 jX n6 n8 nM (pv 1) (ax (B6 (ax (pv 2) (ax (eB cz.G ig rfl cz.m cz.kp cz.b .nil di (ax (pv 0) (ax (eB co.G rg rfl co.m co.kp co.b .nil di (ax (pv 0) (ax (dG (ax (pv 2) aO)) (ax (dG aO) aO)))) aO))) aO))) aO)))))
   (cy (eN (aep (O:=listOrd itemOrd) (ko:=fun h v=>G.tupKeyC h (fun _=>false) v) (d0:=[]) (kd:=tuples' true) (qual:=LB) (ys:=[]) (cs:=[]) (x:="pair") (kkf:=fun (tf:Nat->List Int) i=>(tf i).map Sum.inl) (KRf:=fun tf=>Bc tf) (fun tf=>MC tf)
     ⟨rfl,rfl,rfl,F.hd.hd kb,B,⟨rfl,rfl,rfl,by decide +kernel,rfl,fun y hy=>?has,fun y z a U h2=>?inj⟩,fun _ _ _ _ _ _=>rfl,.nil,fun y a ha=>?cells,rfl⟩ rg rfl rfl T.sorted (pv 1)
     (fun A f c' s H hA=>B6 (ax (Ki Kk (gj (Hr (K:=K)) (pv 0) gg (fun _ _=>rfl))) (ax (gj (Hr (K:=K)) (pv 0) gg (fun _ _=>rfl)) aO))))))),?_⟩
  try dsimp only[fQ,fS,fT,fV]
  case has=>
   have hm:=oW hy;rcases f6.mp hm with z|z
   .cases z
   .cases z
  case inj=>cases U
  case cells=>cases ha
  have al:=zo fit [] [];refine ⟨dU _,fun ap Fs=>?_⟩;have s0:=aC.nw (o:=.lst []) Fs;refine ⟨_,rfl,dU _,fun a1 U=>⟨dU _,fun a2 h2=>?_⟩⟩;have s1:=(aC.nw (o:=.lst []) U).trans (aC.nw (o:=.lst []) h2);refine ⟨ag,a1,a2,g,[],[],rfl,⟨(hg.same s0).same s1,fit,aD.of (aC.nw h2 _ _ aJ),aD.of aJ,by simp,by simp⟩,?_⟩;intro H1 l sL hl qv;have s2:=s1.trans sL;have asP:=s2 _ _ (aJ (H:=H) (a:=ap) (o:=.lst []));have asQ:l≠ap:=fun z=>by
   rw[z]at hl;rw[s1 _ _ aJ]at hl;cases hl
  refine ⟨l,rfl,⟨_,aD.of qv⟩,qK (K:=K) (a:=l) (xs:=nats (alive g [] [])) (fun i σ H'=>∃(v2:Option V)(ts:List Addr),σ=[some (.ref ag),some (.ref ap),v2]/\aC H H'/\H' l=some (.lst (nats (alive g [] [])))/\H' ap=some (.lst (ts.map V.ref))/\
    Paired (fun a (x:Nat×Nat)=>H' a=some (.tup [V.int (x.1:Int),V.int (x.2:Int)])) ts (((alive g [] []).take i).map fun x=>(x,lX g (kept g [x]))))
   ⟨none,[],rfl,s0.trans s2,qv,asP,.nil⟩ (fun i σ H' _ ⟨_,_,_,_,z,_⟩=>aD.of z) ?_ ?_⟩
  .rintro i x σ H' hx ⟨v2,ts,rfl,s3,mn,sS,pr⟩;obtain ⟨n,hn,rfl⟩:=nQ hx;have oJ:=(gq.mp hn).1;refine ⟨_,rfl,.inl ⟨rfl,_,aD.of sS⟩,_,rfl,_,rfl,_,rfl,_,rfl,(by show 1<=cJ;decide),fun a3 h3=>⟨dU _,fun a4 h4=>?_⟩⟩;have s6:=(aC.nw (o:=.lst [V.int (n:Int)]) h3).trans (aC.nw (o:=.lst []) h4);refine ⟨ag,a3,a4,g,[n],[],rfl,⟨(hg.same s3).same s6,fit,aD.of (aC.nw h4 _ _ aJ),aD.of aJ,by simp,by simp⟩,?_⟩;intro H6 kl s7 Fl yh;have s8:=s6.trans s7;have gl:=A6 fit [n] [];refine ⟨ag,kl,g,gone g [n] [],rfl,(hg.same s3).same s8,aD.of yh,by omega,Fh fit _ _,?_⟩;intro H7 s9;refine ⟨(by show 2<=cJ;decide),fun tp pV=>?_⟩;have sT:=aC.nw (o:=.tup [V.int (n:Int),V.int (lX g (gone g [n] []):Int)]) pV;have sA:=(s8.trans s9).trans sT;have Ui:ap≠tp:=dw ((s8.trans s9) _ _ sS) pV;refine ⟨ap,_,V.ref tp,rfl,rfl,sA _ _ sS,?_,?_⟩
   .have:=pr.length;rw[bt,mB]at this;rw[bt,eE];omega
   .refine ⟨_,ts++[tp],rfl,(s3.trans sA).own Fs,by rw[bC asQ];exact sA _ _ mn,by rw[aJ,iO];rfl,?_⟩;rw[take_snoc hn,iO];refine vM (gX pr fun a x q=>?_) ?_
    .rw[bC (iG (sA _ _ q) (sA _ _ sS) (by intro z;cases z))];exact sA _ _ q
    .rw[bC (fun z=>Ui z.symm),aJ];rfl
  rintro σ H2 ⟨v2,ts,rfl,s3,mn,sS,pr⟩;have eT:(alive g [] []).take (nats (alive g [] [])).length=alive g [] []:=by unfold nats;rw[bt,jY]
  rw[eT]at pr;have rF:=hT.same s3;obtain ⟨qs,hq⟩:=rF.tb;have Uj:=pr.length;rw[bt]at Uj;refine ⟨_,rfl,ap,ts.map V.ref,[],(fun i=>vy (((alive g [] []).map fun x=>(x,lX g (kept g [x]))).getD i (0,0))),rfl,aD.of sS,by rw[bt];omega,?_,iG sS hq (by intro z;cases z),rF,.nil,?_,?_⟩
  .intro x hx;obtain ⟨a,_,rfl⟩:=js.mp hx;exact .inr ⟨_,rfl⟩
  .intro j x H8 hx b8;obtain ⟨a,ha,rfl⟩:=pd hx;obtain ⟨y,hy,wV⟩:=lM pr ha;have Ft:H8 a=some (.tup [V.int (y.1:Int),V.int (y.2:Int)]):=b8 _ _ wV (iG wV hq (by intro z;cases z));refine ⟨_,rfl,a,_,_,_,rfl,rfl,kj.of Ft,at_of (j:=1) rfl rfl,_,rfl,_,rfl,a,_,_,_,rfl,rfl,kj.of Ft,at_of (j:=0) rfl rfl,(by show 2<=cJ;decide),fun tp pV=>?_⟩;have ek:vy (((alive g [] []).map fun x=>(x,lX g (kept g [x]))).getD j (0,0))=vy y:=by
    rw[lT,hy];rfl
   refine ⟨aC.nw pV,tp,rfl,?_,?_⟩
   .rw[aJ];show _=some (HO.tup ((vy (((alive g [] []).map fun x=>(x,lX g (kept g [x]))).getD j (0,0))).map V.int));rw[ek];rfl
   .intro z;cases z
  .intro ps H8 D hp hs hf b8 Fp hD IB;have sT:=iC.tab b8 hq;obtain ⟨cs,e,pr8⟩:=asM (H:=H8) fit (gX pr fun a x q=>sT _ _ q (by intro _ z;cases z)) hp hs;rw[e]at IB;refine k H8 D cs ?_ Fp (s3.free hD) IB pr8;exact fun b o e n=>b8 _ _ (s3 _ _ e) n
theorem asS{f fs:Addr}{fd zq:dn}(F:eW K "answer_sizes" "answer_sizes" Ru f fd)(T:Txt K mg t)(cs:eY P w K mg base bJ 6 "kept_sizes" fs zq QT (aeM t)):
  c8 P w K mg base bJ 7 f fd aaB (Bg t fun _ _ c=>c=.sizes):=by
 refine F.ok aaC (fun vs H Q E h=>?_) (fun c6 A outer s H vs Q E hr h=>?_)
 .obtain ⟨p,aN,aL,g,past,ns,cS,c,rfl,_⟩:=h;rfl
 .obtain ⟨p,aN,aL,g,past,ns,cS,c,rfl,hD,gs,hN,hL,ll,ln,tb,rfl,k⟩:=h;have nd:=aaC.nd;refine ⟨_,bF (dB (i:=3) nd rfl (Or.inl rfl) (dG (ax (gY T.lN) aO)))
   (bF (kW jW rfl (l0 (eB cs.G hr rfl cs.m cs.kp cs.b .nil di (ax (cO (pv 0) rfl) aO))) (gG (i:=4) nd rfl (Or.inl rfl))
    (cy (jv (j8 jX xb zU ar2 (pv 3) (ax (pv 4) aO)))))
   (cy (eN (pv 3)))),?_⟩
  try dsimp only[fQ,fS,fT,fV]
  have iE:=hD;obtain ⟨dx,ag,ab,gM,hp,hg,hb,mJ⟩:=hD;have fit:=nA gs.now;refine ⟨(by show 1<=cJ;decide),fun o ho=>?_⟩;have s0:=aC.nw (o:=.lst [V.int 0]) ho;refine ⟨_,rfl,s0 _ _ hp,T.iI,T.jE,j9 _ _,ag,g,rfl,hg.same s0,fit,(tb.same s0).s,?_⟩;intro H1 r cs b1 Uk ig vz pr;obtain ⟨qs,wU⟩:=(tb.same s0).s.tb;have s1:iC _ H1:=iC.tab b1 wU;have T7:l9 t H1:=by
   have tb0:=tb.same s0;exact ⟨tb0.k.but b1 wU (by intro φ z;cases z) T.tKS,Uk,tb0.b.but b1 wU (by intro φ z;cases z) (fun z=>T.tSB z.symm)⟩
  have pq:=s1 _ _ (aJ (H:=H) (a:=o) (o:=.lst [V.int 0])) (by intro _ z;cases z);have nro:r≠o:=fun z=>by
   rw[z,aJ]at ig;cases ig
  have lcs:=pr.length;have lsz:(Vasnpb.sizes g).length<=48:=by
   rw[(WK.Ot fit.ok).2.length_eq,bt];exact zo fit [] []
  refine ⟨r,rfl,⟨_,aD.of vz⟩,qK (K:=K) (a:=r) (xs:=cs.map V.ref) (fun i σ H'=>∃v4:Option V,σ=[some (.ref p),some (.ref aN),some (.ref aL),some (.ref o),v4]/\bY o H1 H'/\H' o=some (.lst (nats (0::((sizes g).take i).flatMap fun x=>[x.1,x.2]))))
   ⟨none,rfl,bY.refl _ _,pq⟩ (fun i σ H' _ ⟨_,_,b,_⟩=>aD.of (b _ _ vz nro)) ?_ ?_⟩
  .rintro i x σ H' hx ⟨v4,rfl,b2,se⟩;obtain ⟨a,ha,rfl⟩:=pd hx;obtain ⟨y,hy,wV⟩:=lM pr ha;have oJ:=(gq.mp hy).1;have nao:a≠o:=iG wV pq (by intro z;cases z);refine ⟨_,rfl,.inl ⟨rfl,_,aD.of se⟩,_,rfl,o,a,_,_,rfl,rfl,se,b2 _ _ wV nao,?_,?_⟩
   .have q:=uL (fun x:Nat×Nat=>[x.1,x.2]) 2 ((sizes g).take i) (fun _ _=>dR _);rw[mB]at q;unfold nats;rw[bt,iz,eE];show _+1+2<=_;have:min i (sizes g).length*2<=48*2:=DD _ (by omega);omega
   .refine ⟨_,rfl,b2.upd,?_⟩;rw[aJ,take_snoc hy,sZ];simp[nats]
  .rintro σ H2 ⟨v4,rfl,b2,se⟩;have e:(sizes g).take (cs.map V.ref).length=sizes g:=by rw[bt,lcs,jY]
   rw[e]at se;refine ⟨_,rfl,?_⟩;have sA:iC H H2:=fun b u e n=>b2 _ _ ((s0.tt.trans s1) b u e n) (dw e ho);refine k H2 o sA.but (T7.Iv b2 pq (by intro _ z;cases z) (by intro _ z;cases z)) ho (iE.tt sA) ?_;rw[se,wJ];rfl
end WD
open Vasnpb (Best better best)
namespace WD
theorem IC{a b:Best}:better a b=true↔b.size<a.size∨(a.size=b.size/\b.count<a.count):=by
 unfold better;simp
theorem Fu{a b:Best}:better a b=false↔¬(b.size<a.size∨(a.size=b.size/\b.count<a.count)):=by
 rw[<-IC];simp
theorem Ul:∀(l:List Best)(b0:Best),(∀x∈l,b0.hold<x.hold)->l.Pairwise (fun a b=>a.hold<b.hold)->∃b,l.foldl WK.zY (some b0)=some b/\(b=b0∨b∈l)/\(∀y,y=b0∨y∈l->better y b=false)/\∀y,y=b0∨y∈l->y.hold<b.hold->better b y=true
 | [],b0,_,_=>by
  refine ⟨b0,rfl,.inl rfl,fun y hy=>?_,fun y hy h=>?_⟩
  .rcases hy with rfl|hy
   .rw[Fu];omega
   .cases hy
  .rcases hy with rfl|hy
   .omega
   .cases hy
 |x::r,b0,h0,hp=>by
  obtain ⟨p1,p2⟩:=Bx.mp hp;have hx:=h0 x (m4 ..);cases e:better x b0 with
  |true=>
   obtain ⟨b,e1,e2,e3,e4⟩:=Ul r x p1 p2;have st:WK.zY (some b0) x=some x:=by
    show (if better x b0 then some x else some b0)=_;rw[if_pos e]
   refine ⟨b,by rw[kz,st];exact e1,?_,?_,?_⟩
   .rcases e2 with z|z
    .exact .inr (by rw[z];exact m4 ..)
    .exact .inr (lU _ z)
   .intro y hy;rcases hy with rfl|hy
    .have:=e3 x (.inl rfl);rw[Fu]at this ⊢;rw[IC]at e;omega
    .rcases f6.mp hy with z|z
     .exact e3 y (.inl z)
     .exact e3 y (.inr z)
   .intro y hy eU;rcases hy with rfl|hy
    .have:=e3 x (.inl rfl);rw[Fu]at this;rw[IC]at e ⊢;omega
    .rcases f6.mp hy with z|z
     .exact e4 y (.inl z) eU
     .exact e4 y (.inr z) eU
  |false=>
   obtain ⟨b,e1,e2,e3,e4⟩:=Ul r b0 (fun z hz=>h0 z (lU _ hz)) p2;have st:WK.zY (some b0) x=some b0:=by
    show (if better x b0 then some x else some b0)=_;rw[if_neg (by rw[e];exact jt)]
   refine ⟨b,by rw[kz,st];exact e1,?_,?_,?_⟩
   .rcases e2 with z|z
    .exact .inl z
    .exact .inr (lU _ z)
   .intro y hy;rcases hy with hy|hy
    .exact e3 y (.inl hy)
    .rcases f6.mp hy with z|z
     .subst z;have:=e3 b0 (.inl rfl);rw[Fu]at this e ⊢;omega
     .exact e3 y (.inr z)
   .intro y hy eU;rcases hy with hy|hy
    .exact e4 y (.inl hy) eU
    .rcases f6.mp hy with z|z
     .subst z;have rR:b0.hold<b.hold:=by omega
      have:=e4 b0 (.inl rfl) rR;rw[Fu]at e;rw[IC]at this ⊢;omega
     .exact e4 y (.inr z) eU
def uO(b:Best):List Int:=[-(b.size:Int),-(b.count:Int),(b.hold:Int)]
theorem asV{a b:Best}(h:HT.lexLt (uO a) (uO b)=false):a.size<b.size∨(a.size=b.size/\(a.count<b.count∨(a.count=b.count/\b.hold<=a.hold))):=by
 unfold uO at h;rw[HT.Eb]at h;by_cases e1:-(a.size:Int)= -(b.size:Int)
 .rw[if_pos e1,HT.Eb]at h;by_cases e2:-(a.count:Int)= -(b.count:Int)
  .rw[if_pos e2,HT.Eb]at h;by_cases e3:(a.hold:Int)=(b.hold:Int)
   .omega
   .rw[if_neg e3]at h;have:=of_decide_eq_false h;omega
  .rw[if_neg e2]at h;have:=of_decide_eq_false h;omega
 .rw[if_neg e1]at h;have:=of_decide_eq_false h;omega
theorem asW{l:List Best}{x:Best}(hp:l.Pairwise fun a b=>a.hold<b.hold)(hx:x∈l)(hm:∀y∈l,HT.lexLt (uO y) (uO x)=false):l.foldl WK.zY none=some x:=by
 cases l with
 |nil=>cases hx
 |cons b0 r=>
  obtain ⟨p1,p2⟩:=Bx.mp hp;obtain ⟨b,e1,e2,e3,e4⟩:=Ul r b0 p1 p2;show r.foldl WK.zY (some b0)=some x;rw[e1];have hb:b∈b0::r:=by
   rcases e2 with z|z
   .rw[z];exact m4 ..
   .exact lU _ z
  have q1:=asV (hm b hb);have yu:x=b0∨x∈r:=f6.mp hx;have q2:=e3 x yu;rw[Fu]at q2;have q3:¬x.hold<b.hold:=fun z=>by
   have:=e4 x yu z;rw[IC]at this;omega
  have hh:x.hold=b.hold:=by omega
  have uniq:∀(l:List Best),l.Pairwise (fun a b=>a.hold<b.hold)->∀a∈l,∀c∈l,a.hold=c.hold->a=c:=by
   intro l
   induction l with
   |nil=>intro _ a ha;cases ha
   |cons d r ih=>
    intro hp a ha c hc he;obtain ⟨p1,p2⟩:=Bx.mp hp;rcases f6.mp ha with za|za
    .rcases f6.mp hc with zc|zc
     .rw[za,zc]
     .have:=p1 c zc;rw[za]at he;omega
    .rcases f6.mp hc with zc|zc
     .have:=p1 a za;rw[zc]at he;omega
     .exact ih p2 a za c zc he
  rw[uniq _ hp x hx b hb hh]
def bestAt(g:bp)(n:Nat):Best:={hold:=n,size:=lX g (freed g [n]),count:=(freed g [n]).length}
def frees(g:bp)(n:Nat):Bool:=!(freed g [n]).isEmpty
def tX(g:bp)(k:Nat):List Best:=((jO k).filter (frees g)).map (bestAt g)
theorem asX{g:bp}(fit:pj g):best g=(tX g (bh g).length).foldl WK.zY none:=by
 rw[WK.aib fit.ok];unfold tX;rw[VG];have e:(jO (bh g).length).filter (frees g)=((bh g).zipIdx.filter fun h=>!(freed g [h.2]).isEmpty).map (·.2):=by
  have e1:jO (bh g).length=(bh g).zipIdx.map (·.2):=by
   rw[List.zipIdx_map_snd];simp[List.range_eq_range']
  rw[e1,JC];rfl
 rw[e,VG];rfl
theorem asY(g:bp)(k:Nat):(tX g k).Pairwise fun a b=>a.hold<b.hold:=by
 unfold tX;rw[JG];exact (VC (n:=k)).filter _
theorem aeO(g:bp)(k:Nat):tX g (k+1)=tX g k++if frees g k then [bestAt g k] else []:=by
 unfold tX;rw[VH,vJ,iO,kO,List.filter_nil];congr 1;cases frees g k<;>rfl
def MP(H:Hp)(a:Addr)(b:Best):Prop:=H a=some (.tup [V.int (b.hold:Int),V.int (b.size:Int),V.int (b.count:Int)])
def aeP(t:fZ):Sp:=fun vs H Q _=>∃ag g,vs=[.ref ag]/\i7 t H ag g/\pj g/\
 ∀H' r ts,aC H H'->H r=none->H' r=some (.lst (ts.map V.ref))->Paired (MP H') ts (tX g (bh g).length)->Q (.ref r) H'
theorem asZ{f fo fz:Addr}{fd mV wQ:dn}(F:eW K "freeing_holds" "freeing_holds" QJ f fd)(T:Txt K mg t)(co:eY P w K mg base bJ 4 "lost_objects" fo mV xN (zg K t))(cz:eY P w K mg base bJ 1 "size_of" fz wQ AM (C8 K t)):c8 P w K mg base bJ 5 f fd QK (aeP t):=by
 refine F.ok ZT (fun vs H Q E h=>?_) (fun c6 A outer s H vs Q E hr h=>?_)
 .obtain ⟨ag,g,rfl,_⟩:=h;rfl
 .obtain ⟨ag,g,rfl,hg,fit,k⟩:=h;have nd:=ZT.nd;have ig:dQ 1 _:=hr.mono (by decide);refine ⟨_,bF (dB (i:=1) nd rfl (Or.inl rfl) (dG aO))
   (bF (kW jW rfl (B0 rfl T.range (ax (jR l7 (by rfl) T.len lW (ax (cO (pv 0) rfl) aO)) aO)) (gG (i:=2) nd rfl (Or.inl rfl))
    (bF (dB (i:=3) nd rfl (Or.inl rfl) (eB co.G hr rfl co.m co.kp co.b .nil di (ax (pv 0) (ax (dG aO) (ax (dG (ax (pv 2) aO)) aO)))))
    (cy (mQ (ng Kn (jR l7 (by rfl) T.len lW (ax (pv 3) aO)) gg (mS _))
     (cy (jv (j8 jX n6 n8 nM (pv 1) (ax (B6 (ax (pv 2) (ax (eB cz.G ig rfl cz.m cz.kp cz.b .nil di (ax (pv 0) (ax (pv 3) aO))) (ax (jR l7 (by rfl) T.len lW (ax (pv 3) aO)) aO)))) aO)))) mP))))
   (cy (eN (pv 1)))),?_⟩
  try dsimp only[fQ,fS,fT,fV]
  obtain ⟨dx,aK,aS,aF,aR,aH,aE,pR,gP,_,_,_,_,pS,_⟩:=hg.ex;obtain ⟨jL,jU,kx⟩:=pS;have lh:(jL.map V.ref).length=(bh g).length:=by rw[bt,kx.length]
  refine ⟨dU _,fun ap Fs=>?_⟩;have s0:=aC.nw (o:=.lst []) Fs;refine ⟨_,rfl,s0 _ _ gP,T.iT,T.pO,rH _ _ _ _ _ _ _,aH,_,rfl,.inl (aD.of (s0 _ _ jU)),?_⟩;rw[lh];have nh:=fit.nh;refine ⟨((bh g).length:Int),rfl,by omega,by omega,D0 (n:=((bh g).length:Int).toNat) (fun i σ H'=>∃(v2 v3:Option V)(ts:List Addr),σ=[some (.ref ag),some (.ref ap),v2,v3]/\aC H H'/\H' ap=some (.lst (ts.map V.ref))/\Paired (MP H') ts (tX g i))
   ⟨none,none,[],rfl,s0,aJ,.nil⟩ ?_ ?_⟩
  .rintro i σ H' hi ⟨v2,v3,ts,rfl,s3,sS,pr⟩;have ei:(0:Int)+(i:Int)=(i:Int):=by omega
   rw[ei];refine ⟨_,rfl,dU _,fun a3 h3=>⟨_,rfl,(by show 1<=cJ;decide),fun a4 h4=>?_⟩⟩;have s6:=(aC.nw (o:=.lst []) h3).trans (aC.nw (o:=.lst [V.int (i:Int)]) h4);refine ⟨ag,a3,a4,g,[],[i],rfl,⟨(hg.same s3).same s6,fit,aD.of (aC.nw h4 _ _ aJ),aD.of aJ,by simp,by simp⟩,?_⟩;intro H6 kl s7 Fl yh;have s8:=s6.trans s7;have gl:=A6 fit [] [i];have lk:(nats (gone g [] [i])).length=(gone g [] [i]).length:=by unfold nats;rw[bt]
   refine ⟨_,rfl,kl,_,rfl,.inl (aD.of yh),_,_,rfl,rfl,_,rfl,?_⟩;rw[lk];refine jq (fun z=>?_) (fun z=>?_)
   .have zf:frees g i=true:=by
     have:=of_decide_eq_true z;unfold frees;have:freed g [i]≠[]:=fun q=>by
      have q:gone g [] [i]=[]:=q;rw[q]at this;simp at this
     simpa using this
    refine ⟨_,rfl,.inl ⟨rfl,_,aD.of (s8 _ _ sS)⟩,_,rfl,_,rfl,_,rfl,ag,kl,g,gone g [] [i],rfl,(hg.same s3).same s8,aD.of yh,by omega,Fh fit _ _,?_⟩;intro H7 s9;refine ⟨_,rfl,kl,_,rfl,.inl (aD.of (s9 _ _ yh)),?_⟩;rw[lk];refine ⟨(by show 3<=cJ;decide),fun tp pV=>?_⟩;have sT:=aC.nw (o:=.tup [V.int (i:Int),V.int (lX g (gone g [] [i]):Int),V.int ((gone g [] [i]).length:Int)]) pV;have sA:=(s8.trans s9).trans sT;have Ui:ap≠tp:=dw ((s8.trans s9) _ _ sS) pV;refine ⟨ap,_,V.ref tp,rfl,rfl,sA _ _ sS,?_,?_⟩
    .have q:=pr.length;unfold tX at q;rw[bt]at q;have q2:((jO i).filter (frees g)).length<=i:=gN (mL _ _) (by simp);rw[bt,eE];omega
    .refine ⟨_,_,ts++[tp],rfl,(s3.trans sA).own Fs,by rw[aJ,iO];rfl,?_⟩;rw[aeO,if_pos zf];refine vM (gX pr fun a x q=>?_) ?_
     .show _=_;rw[bC (iG (sA _ _ q) (sA _ _ sS) (by intro z;cases z))];exact sA _ _ q
     .show _=_;rw[bC (fun z=>Ui z.symm),aJ];rfl
   .have zf:frees g i=false:=by
     have zz:¬(0:Int)<((gone g [] [i]).length:Int):=fun q=>z (decide_eq_true q);have:gone g [] [i]=[]:=by
      cases e:gone g [] [i] with
      |nil=>rfl
      |cons a r=>rw[e]at zz;exact absurd (by simp) zz
     unfold frees freed;rw[this];rfl
    refine ⟨_,_,ts,rfl,s3.trans s8,s8 _ _ sS,?_⟩;rw[aeO,if_neg (by rw[zf];exact jt),nZ];exact gX pr fun a x q=>s8 _ _ q
  .rintro σ H2 ⟨v2,v3,ts,rfl,s3,sS,pr⟩;have e:((bh g).length:Int).toNat=(bh g).length:=by omega
   rw[e]at pr;exact ⟨_,rfl,k H2 ap ts s3 Fs sS pr⟩
def aeQ(t:fZ):Sp:=fun vs H Q _=>∃(a:Addr)(ts:List Addr)(xs:List Best),vs=[.ref a]/\H a=some (.lst (ts.map V.ref))/\Paired (MP H) ts xs/\0<xs.length/\xs.length<=1000/\ml H t.tB posB LC/\
 ∀H' tp x,bY t.tB H H'->ml H' t.tB posB LC->x∈xs->(∀y∈xs,HT.lexLt (uO y) (uO x)=false)->MP H' tp x->Q (.ref tp) H'
theorem as0{f:Addr}{fd:dn}{c:Addr}(F:AV K "best_hold" "best_hold" QL f fd c t.tB)(T:Txt K mg t)(kb:K.In base)(B:wB base mg):c8 P w K mg base bJ 5 f fd QM (aeQ t):=by
 refine F.ok ZU (fun vs H Q E h=>?_) (fun A outer s H vs Q E hr h=>?_)
 .obtain ⟨a,ts,xs,rfl,_⟩:=h;rfl
 .obtain ⟨a,ts,xs,rfl,ha,pr,Oe,hlen,hT,k⟩:=h;have nd:=ZU.nd;refine ⟨_,cy (eN (arX (qual:=LC) (ys:=[]) (cs:=[]) (x:="each")
     ⟨rfl,rfl,rfl,F.hd.hd kb,B,⟨rfl,rfl,rfl,by decide +kernel,rfl,fun y hy=>?has,fun y z a U h2=>?inj⟩,fun _ _ _ _ _ _=>rfl,.nil,fun y a ha=>?cells,rfl⟩ hr rfl rfl T.min (pv 0)
     (fun A f c' s H hA=>B6 (ax (Ki Kk (gj (Hr (K:=K)) (pv 0) gg (fun _ _=>rfl))) (ax (Ki Kk (gj (Hr (K:=K)) (pv 0) gg (fun _ _=>rfl))) (ax (gj (Hr (K:=K)) (pv 0) gg (fun _ _=>rfl)) aO)))))),?_⟩
  try dsimp only[fQ,fS,fT,fV]
  case has=>
   have hm:=oW hy;rcases f6.mp hm with z|z
   .cases z
   .cases z
  case inj=>cases U
  case cells=>cases ha
  obtain ⟨qs,hq⟩:=hT.tb;have Uj:=pr.length;refine ⟨_,rfl,a,ts.map V.ref,[],(fun i=>uO (xs.getD i ⟨0,0,0⟩)),rfl,aD.of ha,by rw[bt];omega,by rw[bt];omega,iG ha hq (by intro z;cases z),hT,.nil,?_,?_⟩
  .intro j x H8 hx b8;obtain ⟨tp,pV,rfl⟩:=pd hx;obtain ⟨y,hy,wV⟩:=lM pr pV;have Ft:H8 tp=some (.tup [V.int (y.hold:Int),V.int (y.size:Int),V.int (y.count:Int)]):=b8 _ _ wV (iG wV hq (by intro z;cases z));refine ⟨_,rfl,tp,_,_,_,rfl,rfl,kj.of Ft,at_of (j:=1) rfl rfl,_,rfl,_,rfl,tp,_,_,_,rfl,rfl,kj.of Ft,at_of (j:=2) rfl rfl,_,rfl,_,rfl,tp,_,_,_,rfl,rfl,kj.of Ft,at_of (j:=0) rfl rfl,(by show 3<=cJ;decide),fun tq htq=>?_⟩;have ek:uO (xs.getD j ⟨0,0,0⟩)=uO y:=by
    rw[lT,hy];rfl
   refine ⟨aC.nw htq,tq,rfl,?_,?_⟩
   .rw[aJ];show _=some (HO.tup ((uO (xs.getD j ⟨0,0,0⟩)).map V.int));rw[ek];rfl
   .intro z;cases z
  .intro i x H8 hx Uo b8 Fp;obtain ⟨tp,pV,rfl⟩:=pd hx;obtain ⟨y,hy,wV⟩:=lM pr pV;refine k H8 tp y b8 Fp (iy hy) ?_ (b8 _ _ wV (iG wV hq (by intro z;cases z)));intro z hz;obtain ⟨j,hj⟩:=rj hz;have E8:=(gq.mp hj).1;have:HT.lexLt (uO (xs.getD j ⟨0,0,0⟩)) (uO (xs.getD i ⟨0,0,0⟩))=false:=Uo j (by rw[bt];omega);rw[lT,lT,hj,hy]at this;exact this
theorem as3{f fh fb:Addr}{fd wD fdb:dn}(F:eW K "answer_best" "answer_best" Rx f fd)(T:Txt K mg t)(ch:eY P w K mg base bJ 5 "freeing_holds" fh wD QK (aeP t))(cb:eY P w K mg base bJ 5 "best_hold" fb fdb QM (aeQ t)):c8 P w K mg base bJ 6 f fd aaH (Bg t fun _ _ c=>c=.best):=by
 refine F.ok aaI (fun vs H Q E h=>?_) (fun c6 A outer s H vs Q E hr h=>?_)
 .obtain ⟨p,aN,aL,g,past,ns,cS,c,rfl,_⟩:=h;rfl
 .obtain ⟨p,aN,aL,g,past,ns,cS,c,rfl,hD,gs,hN,hL,ll,ln,tb,rfl,k⟩:=h;have nd:=aaI.nd;refine ⟨_,bF (dB (i:=3) nd rfl (Or.inl rfl) (eB ch.G hr rfl ch.m ch.kp ch.b .nil di (ax (cO (pv 0) rfl) aO)))
   (bF (mQ (ng Kl (jR l7 (by rfl) T.len lW (ax (pv 3) aO)) gg (mS _)) (cy (eN (dG (ax (gY T.aos) aO)))) mP)
   (cy (eN (o6 ve (dG (ax (gY T.lN) aO)) (Yq YE rfl T.list (by decide +kernel) (ax (eB cb.G hr rfl cb.m cb.kp cb.b .nil di (ax (pv 3) aO)) aO)))))),?_⟩
  try dsimp only[fQ,fS,fT,fV]
  have iE:=hD;obtain ⟨dx,ag,ab,gM,hp,hg,hb,mJ⟩:=hD;have fit:=nA gs.now;refine ⟨_,rfl,hp,T.iI,T.jE,j9 _ _,ag,g,rfl,hg,fit,?_⟩;intro H1 r ts s1 ig vz pr;have Uj:=pr.length;have lfr:(tX g (bh g).length).length<=1000:=by
   unfold tX;rw[bt];have q2:((jO (bh g).length).filter (frees g)).length<=(bh g).length:=gN (mL _ _) (by simp);have:=fit.nh;omega
  refine ⟨_,rfl,r,_,rfl,.inl (aD.of vz),rfl,_,rfl,?_⟩;rw[bt];have bf:=asX fit;refine jq (fun z=>?_) (fun z=>?_)
  .have z0:ts.length=0:=by
    have:=of_decide_eq_true z;have:=V.int.inj this;omega
   have ef:tX g (bh g).length=[]:=Jm.mp (by omega);rw[ef]at bf;have st:lp ⟨g,past⟩ .best=(⟨g,past⟩,[1]):=by
    show (_,match best g with|none=>[1]|some b=>0::toInts [b.hold,b.size,b.count])=_;rw[bf];rfl
   rw[st]at k;refine ⟨(by show 1<=cJ;decide),fun q1 rN=>?_⟩;have sB:=s1.trans (aC.nw (o:=.lst [V.int 1]) rN);exact k _ q1 sB.but.tt (tb.same sB) (s1.free rN) (iE.same sB) aJ
  .have z0:0<ts.length:=by
    rcases Nat.eq_zero_or_pos ts.length with q|q
    .exact absurd (decide_eq_true (by rw[q];rfl)) z
    .exact q
   refine ⟨(by show 1<=cJ;decide),fun q1 rN=>?_⟩;have s2:=aC.nw (o:=.lst [V.int 0]) rN;have sA:=s1.trans s2;have MR:=tb.same sA;refine ⟨_,rfl,r,ts,tX g (bh g).length,rfl,s2 _ _ vz,gX pr fun a x q=>s2 _ _ q,by omega,lfr,MR.b,?_⟩;intro H3 tp x b3 hB3 hx Uo pV;have eb:best g=some x:=by
    rw[bf];exact asW (asY g _) hx Uo
   have st:lp ⟨g,past⟩ .best=(⟨g,past⟩,0::toInts [x.hold,x.size,x.count]):=by
    show (_,match best g with|none=>[1]|some b=>0::toInts [b.hold,b.size,b.count])=_;rw[eb]
   rw[st]at k;obtain ⟨qs,wU⟩:=MR.b.tb;have s3:iC _ H3:=iC.tab b3 wU;refine ⟨tp,_,rfl,.inr (kj.of pV),fun l hl=>?_⟩;have s4:=aC.nw (o:=.lst [V.int (x.hold:Int),V.int (x.size:Int),V.int (x.count:Int)]) hl;have ra:H3 q1=some (.lst [V.int 0]):=s3 _ _ aJ (by intro _ z;cases z);refine ⟨q1,l,_,_,rfl,rfl,s4 _ _ ra,aJ,(by show 1+3<=cJ;decide),fun rr De=>?_⟩;have s5:=s4.trans (aC.nw (o:=.lst ([V.int 0]++[V.int (x.hold:Int),V.int (x.size:Int),V.int (x.count:Int)])) De);have sB:=(sA.tt.trans s3).trans s5.tt;have Bi:l9 t H3:=⟨MR.k.but b3 wU (by intro φ z;cases z) T.tKB,MR.s.but b3 wU (by intro φ z;cases z) T.tSB,hB3⟩;obtain ⟨qs3,as6⟩:=hB3.tb;refine k _ rr sB.but (Bi.same s5) ?_ (iE.tt sB) aJ;exact sA.free (T6 b3 ⟨_,as6⟩ (s4.free De))
end WD
open Vasnpb (ofKind kinds Share)
namespace WD
def kindAt(g:bp)(n:Nat):Nat:=(g.objs.map (·.kind)).getD n 0
theorem aeS{g:bp}{k n:Nat}(h:n<g.objs.length):jz g k n=(kindAt g n==k):=by
 unfold jz kindAt;rw[lT,gp,iN h];rfl
def Fv(g:bp)(k:Nat):Share:={kind:=k,count:=((alive g [] []).filter (jz g k)).length,own:=lX g ((alive g [] []).filter (jz g k)),size:=lX g (kept g ((alive g [] []).filter (jz g k)))}
def pW(g:bp)(k:Nat):Bool:=!((alive g [] []).filter (jz g k)).isEmpty
theorem as7(g:bp):kinds g=((jO 100).filter (pW g)).map (Fv g):=by
 have gen:∀l:List Nat,(l.filterMap fun k=>if ((alive g [] []).filter (jz g k)).isEmpty then none else some (Fv g k))=(l.filter (pW g)).map (Fv g):=by
  intro l
  induction l with
  |nil=>rfl
  |cons a l ih=>
   rw[Jw,kO];unfold pW at ih ⊢;cases e:((alive g [] []).filter (jz g a)).isEmpty with
   |true=>simpa using ih
   |false=>simpa using ih
 exact gen (jO 100)
theorem as8{g:bp}(h:kP g=true){n:Nat}(hn:n<g.objs.length):kindAt g n<100:=by
 unfold kP at h;simp only[jN,tZ,decide_eq_true_eq]at h;have:=(h.2 _ (Bw hn)).1.1.1;unfold kindAt;rw[lT,gp,iN hn];exact this
theorem as9{g:bp}(h:kP g=true)(fit:pj g){ks:List Nat}{ns:List Int}(nd:ks.Nodup)(hm:∀k,k∈ks↔∃x∈alive g [] [],jz g k x=true)(hp:ns.Perm (ks.map fun (k:Nat)=>(k:Int)))(hs:ns.Pairwise (·<=·)):
  ns=((jO 100).filter (pW g)).map fun (k:Nat)=>(k:Int):=by
 have oH:ks.Perm ((jO 100).filter (pW g)):=by
  rw[ahx nd (List.nodup_range.filter _)];intro k;rw[hm k,gT,NM];constructor
  .rintro ⟨x,hx,hk⟩;have eU:=Iw fit [] [] x hx;have pJ:=hk;rw[aeS eU,beq_iff_eq]at pJ;refine ⟨by rw[<-pJ];exact as8 h eU,?_⟩;unfold pW;have:x∈(alive g [] []).filter (jz g k):=gT.mpr ⟨hx,hk⟩;cases e:(alive g [] []).filter (jz g k) with
   |nil=>rw[e]at this;cases this
   |cons a r=>rfl
  .rintro ⟨_,hk⟩;unfold pW at hk;cases e:(alive g [] []).filter (jz g k) with
   |nil=>rw[e]at hk;cases hk
   |cons a r=>
    have:a∈(alive g [] []).filter (jz g k):=by rw[e];exact m4 ..
    exact ⟨a,(gT.mp this).1,(gT.mp this).2⟩
 refine V8 (le:=(·<=·)) (fun a b _ _ U h2=>Int.le_antisymm U h2) hs ?_ (hp.trans (oH.map _));rw[JG];exact ((VC (n:=100)).filter _).imp fun h=>by omega
def aeT(t:fZ):Sp:=fun vs H Q _=>∃ag g,vs=[.ref ag]/\i7 t H ag g/\pj g/\
 ∀H' d ks bs,aC H H'->H d=none->nV H H' d ks (fun k=>(alive g [] []).filter (jz g k)) bs->ks.Nodup->(∀k,k∈ks↔∃x∈alive g [] [],jz g k x=true)->ks.length<=48->Q (.ref d) H'
theorem ata{f fl:Addr}{fd lO:dn}(F:eW K "live_by_kind" "live_by_kind" QU f fd)(T:Txt K mg t)(cl:eY P w K mg base bJ 3 "live_objects" fl lO yL (A5 K t)):
  c8 P w K mg base bJ 4 f fd QV (aeT t):=by
 refine F.ok ZZ (fun vs H Q E h=>?_) (fun c6 A outer s H vs Q E hr h=>?_)
 .obtain ⟨ag,g,rfl,_⟩:=h;rfl
 .obtain ⟨ag,g,rfl,hg,fit,k⟩:=h;have nd:=ZZ.nd;refine ⟨_,bF (dB (i:=1) nd rfl (Or.inl rfl) G6)
   (bF (kW jW rfl (l0 (eB cl.G hr rfl cl.m cl.kp cl.b .nil di (ax (pv 0) (ax (dG aO) (ax (dG aO) aO))))) (gG (i:=2) nd rfl (Or.inl rfl))
    (cy (jv (j8 jX n6 n8 nM (arZ (pv 1) (gj ia (cO (pv 0) rfl) (pv 2) (fun _ _=>rfl)) (dG aO) ⟨rfl,rfl,rfl,rfl⟩) (ax (pv 2) aO)))))
   (cy (eN (pv 1)))),?_⟩
  try dsimp only[fQ,fS,fT,fV]
  have al:=zo fit [] [];obtain ⟨dx,aK,aS,aF,aR,aH,aE,pR,gP,Uq,_,_,_,_,_⟩:=hg.ex;intro d hd;have s0:=aC.nw (o:=.dK []) hd;refine ⟨_,rfl,dU _,fun a1 U=>⟨dU _,fun a2 h2=>?_⟩⟩;have s1:=(aC.nw (o:=.lst []) U).trans (aC.nw (o:=.lst []) h2);refine ⟨ag,a1,a2,g,[],[],rfl,⟨(hg.same s0).same s1,fit,aD.of (aC.nw h2 _ _ aJ),aD.of aJ,by simp,by simp⟩,?_⟩;intro H1 l sL hl qv;have s2:=s1.trans sL;have hd2:=s2 _ _ (aJ (H:=H) (a:=d) (o:=.dK []));have fl:H l=none:=(s0.trans s1).free hl;refine ⟨l,rfl,⟨_,aD.of qv⟩,qK (K:=K) (a:=l) (xs:=nats (alive g [] [])) (fun i σ H'=>∃(v2:Option V)(ks:List Nat)(bs:List Addr),σ=[some (.ref ag),some (.ref d),v2]/\aC H H'/\H' l=some (.lst (nats (alive g [] [])))/\nV H H' d ks (fun k=>((alive g [] []).take i).filter (jz g k)) bs/\ks.Nodup/\
    (∀k,k∈ks↔∃x∈(alive g [] []).take i,jz g k x=true)/\ks.length<=i/\∀b∈bs,b≠l)
   ⟨none,[],[],rfl,s0.trans s2,qv,⟨hd2,.nil,Bu⟩,Bu,by simp,dU _,by simp⟩ (fun i σ H' _ ⟨_,_,_,_,_,z,_⟩=>aD.of z) ?_ ?_⟩
  .rintro i x σ H' hx ⟨v2,ks,bs,rfl,s3,mn,D3,nk,hm,lk,nb⟩;obtain ⟨n,hn,rfl⟩:=nQ hx;have oJ:=(gq.mp hn).1;have rf:=Iw fit [] [] n (iy hn);have hki:(g.objs.map (·.kind))[n]? =some (kindAt g n):=by
    unfold kindAt;rw[lT,iN (by rw[bt];exact rf)];rfl
   have Ur:∀k,jz g k n=(kindAt g n==k):=fun k=>aeS rf;refine ⟨_,rfl,d,rfl,.inl ⟨_,.inl D3.at_⟩,_,rfl,s3 _ _ gP,T.iT,T.AS,Cr _ _ _ _ _ _ _,_,rfl,aK,_,_,_,rfl,rfl,aD.of (s3 _ _ Uq),at_of (j:=n) rfl (by unfold nats;rw[gp,hki];rfl),dU _,fun bn MS=>?_⟩;have sN:=aC.nw (o:=.lst []) MS;have D4:=D3.same sN;have fbn:H bn=none:=s3.free MS;have CJ:l≠bn:=dw mn MS;have Iy:bn∉bs:=fun z=>by
    obtain ⟨j,hj⟩:=rj z;obtain ⟨y,_,_,q⟩:=lM D3.pr hj;rw[MS]at q;cases q
   have cng:∀k,(if k=kindAt g n then ((alive g [] []).take i).filter (jz g k)++[n] else ((alive g [] []).take i).filter (jz g k))=((alive g [] []).take (i+1)).filter (jz g k):=fun k=>by
    rw[take_snoc hn,vJ,kO,Ur k];by_cases e:k=kindAt g n
    .rw[if_pos e,if_pos (by rw[e];exact beq_self_eq_true _)];rfl
    .rw[if_neg e,if_neg (by rw[beq_iff_eq];exact fun z=>e z.symm)];simp
   have aeW:∀k,(k∈ks∨k=kindAt g n)↔∃x∈(alive g [] []).take (i+1),jz g k x=true:=fun k=>by
    rw[hm k,take_snoc hn];constructor
    .rintro (⟨x,hx,hk⟩|rfl)
     .exact ⟨x,vL _ hx,hk⟩
     .exact ⟨n,by simp,by rw[Ur];exact beq_self_eq_true _⟩
    .rintro ⟨x,hx,hk⟩;rcases kN.mp hx with z|z
     .exact .inl ⟨x,z,hk⟩
     .simp at z;subst z;rw[Ur,beq_iff_eq]at hk;exact .inr hk.symm
   have aeX:∀k,(((alive g [] []).take i).filter (jz g k)).length<=48:=fun k=>gN (mL _ _) (by rw[mB];omega);refine ⟨_,Sum.inl (kindAt g n:Int),D4.at_,rfl,by rw[kd_len D4.pr,eE];omega,?_,?_⟩
   .intro v hv;have MT:kindAt g n∈ks:=by
     rcases MG D4.pr (kindAt g n) with ⟨_,z⟩|⟨z,_⟩
     .rw[z]at hv;cases hv
     .exact z
    obtain ⟨ik,Df⟩:=rj MT;obtain ⟨b,hb,MU,rR,nE⟩:=C9 D4.pr nk Df;rw[MU]at hv;cases hv;refine ⟨.inl ⟨rfl,_,aD.of nE⟩,_,rfl,b,_,_,rfl,rfl,nE,?_,?_⟩
    .have:=aeX (kindAt g n);unfold nats;rw[bt,eE];omega
    .refine ⟨_,ks,bs,rfl,(s3.trans sN).own rR,?_,(D4.grow (n:=n) nk Df hb).congr fun k _=>cng k,nk,fun k=>?_,by omega,nb⟩
     .rw[bC (fun z=>nb b (iy hb) z.symm)];exact sN _ _ mn
     .rw[<-aeW k];constructor
      .exact .inl
      .rintro (z|rfl)
       .exact z
       .exact MT
   .intro hv;have Mt:kindAt g n∉ks:=by
     rcases MG D4.pr (kindAt g n) with ⟨z,_⟩|⟨_,b,z,_⟩
     .exact z
     .rw[z]at hv;cases hv
    have e0:((alive g [] []).take i).filter (jz g (kindAt g n))=[]:=Js.mpr fun x hx hk=>Mt ((hm _).mpr ⟨x,hx,hk⟩);have D5:=D4.put (y:=kindAt g n) (b:=bn) Mt hd (by rw[aJ,e0];rfl) fbn Iy;have Us:(ks++[kindAt g n]).Nodup:=by
     rw[wZ];refine ⟨nk,by simp,fun a ha b hb e=>?_⟩;simp at hb;subst hb;exact Mt (e▸ha)
    have lks:=D3.pr.length;have Df:(ks++[kindAt g n])[ks.length]? =some (kindAt g n):=by simp
    have hib:(bs++[bn])[ks.length]? =some bn:=by rw[<-lks];simp
    obtain ⟨b',iU,MU,rR,nE⟩:=C9 D5.pr Us Df;rw[hib]at iU;cases iU;refine ⟨.inl ⟨rfl,_,aD.of nE⟩,_,rfl,bn,_,_,rfl,rfl,nE,?_,?_⟩
    .have:=aeX (kindAt g n);unfold nats;rw[bt,eE];omega
    .have ndl:l≠d:=iG mn D3.at_ (by intro z;cases z);refine ⟨_,ks++[kindAt g n],bs++[bn],rfl,(((s3.trans sN).own hd).own fbn),?_,(D5.grow (n:=n) Us Df hib).congr fun k _=>cng k,Us,fun k=>?_,by rw[gR,Dz];omega,?_⟩
     .rw[bC CJ,bC ndl];exact sN _ _ mn
     .rw[<-aeW k,kN,ahK]
     .intro b hb;rcases kN.mp hb with z|z
      .exact nb b z
      .simp at z;subst z;exact CJ.symm
  .rintro σ H2 ⟨v2,ks,bs,rfl,s3,mn,D3,nk,hm,lk,nb⟩;have eT:(alive g [] []).take (nats (alive g [] [])).length=alive g [] []:=by unfold nats;rw[bt,jY]
   rw[eT]at D3 hm;unfold nats at lk;rw[bt]at lk;exact ⟨_,rfl,k H2 d ks bs s3 hd D3 nk hm (by omega)⟩
theorem atf{F:Addr->Nat->Prop}{ys:List Nat}{bs:List Addr}(p:Paired F bs ys):(kd ys bs).map (·.1)=(ys.map fun (n:Nat)=>(n:Int)).map Sum.inl:=by
 induction p with
 |nil=>rfl
 |cons r q ih=>
  show (_::(kd _ _).map (·.1):List Key)=_;rw[ih];rfl
def Ut(x:Share):List Nat:=[x.kind,x.count,x.own,x.size]
theorem atg{f fk fo fz:Addr}{fd fdk mV wQ:dn}(F:eW K "answer_kinds" "answer_kinds" Rv f fd)(T:Txt K mg t)(ck:eY P w K mg base bJ 4 "live_by_kind" fk fdk QV (aeT t))(co:eY P w K mg base bJ 4 "lost_objects" fo mV xN (zg K t))(cz:eY P w K mg base bJ 1 "size_of" fz wQ AM (C8 K t)):c8 P w K mg base bJ 5 f fd aaD (sJ t fun _ _ c=>c=.kinds):=by
 refine F.ok aaE (fun vs H Q E h=>?_) (fun c6 A outer s H vs Q E hr h=>?_)
 .obtain ⟨p,aN,aL,g,past,ns,cS,c,rfl,_⟩:=h;rfl
 .obtain ⟨p,aN,aL,g,past,ns,cS,c,rfl,hD,gs,hN,hL,ll,ln,rfl,k⟩:=h;have nd:=aaE.nd;have hu:=vk hr;have ig:dQ 1 _:=hr.mono (by decide);refine ⟨_,bF (dB (i:=3) nd rfl (Or.inl rfl) (dG (ax (gY T.lN) aO)))
   (bF (dB (i:=4) nd rfl (Or.inl rfl) (eB ck.G hr rfl ck.m ck.kp ck.b .nil di (ax (cO (pv 0) rfl) aO)))
   (bF (kW jW rfl (l0 (jR (aa9 rfl) rfl T.sorted V9 (ax (pv 4) aO))) (gG (i:=5) nd rfl (Or.inl rfl))
    (bF (dB (i:=6) nd rfl (Or.inl rfl) (Cf hu (pv 4) (pv 5) (fun _ _=>rfl)))
    (bF (dB (i:=7) nd rfl (Or.inl rfl) (eB co.G hr rfl co.m co.kp co.b .nil di (ax (cO (pv 0) rfl) (ax (pv 6) (ax (dG aO) aO)))))
    (cy (jv (j8 jX xb zU Az (pv 3) (ax (dG (ax (pv 5) (ax (jR l7 (by rfl) T.len lW (ax (pv 6) aO))
     (ax (eB cz.G ig rfl cz.m cz.kp cz.b .nil di (ax (cO (pv 0) rfl) (ax (pv 6) aO))) (ax (eB cz.G ig rfl cz.m cz.kp cz.b .nil di (ax (cO (pv 0) rfl) (ax (pv 7) aO))) aO))))) aO)))))))
   (cy (eN (pv 3))))),?_⟩
  try dsimp only[fQ,fS,fT,fV]
  have iE:=hD;obtain ⟨dx,ag,ab,gM,hp,hg,hb,mJ⟩:=hD;have fit:=nA gs.now;have al:=zo fit [] [];refine ⟨(by show 1<=cJ;decide),fun o ho=>?_⟩;have s0:=aC.nw (o:=.lst [V.int 0]) ho;refine ⟨_,rfl,s0 _ _ hp,T.iI,T.jE,j9 _ _,ag,g,rfl,hg.same s0,fit,?_⟩;intro H1 d ks bs s1 hd D1 nk hm lk;have Uu:=s0.trans s1;have pq:=s1 _ _ (aJ (H:=H) (a:=o) (o:=.lst [V.int 0]));refine ⟨_,rfl,d,_,ks.map (fun (n:Nat)=>(n:Int)),rfl,D1.at_,atf D1.pr,by rw[bt];omega,?_⟩;intro qN r aeZ ati ig;have en:=as9 gs.now fit nk hm aeZ ati;have lkd:((jO 100).filter (pW g)).length<=48:=by
   have U:=aeZ.length_eq;rw[en,bt,bt]at U;omega
  have er:qN.map V.int=nats ((jO 100).filter (pW g)):=by
   rw[en];unfold nats;rw[n9];rfl
  rw[er];have s2:=aC.nw (o:=.lst (nats ((jO 100).filter (pW g)))) ig;have nor:r≠o:=fun z=>(dw pq ig) z.symm;refine ⟨r,rfl,⟨_,aD.of aJ⟩,qK (K:=K) (a:=r) (xs:=nats ((jO 100).filter (pW g))) (fun i σ H'=>∃(v5 v6 v7:Option V),σ=[some (.ref p),some (.ref aN),some (.ref aL),some (.ref o),some (.ref d),v5,v6,v7]/\aC H H'/\bY o (upd H1 r (.lst (nats ((jO 100).filter (pW g))))) H'/\
    H' o=some (.lst (nats (0::((((jO 100).filter (pW g)).take i).map (Fv g)).flatMap Ut))))
   ⟨none,none,none,rfl,Uu.trans s2,bY.refl _ _,s2 _ _ pq⟩ (fun i σ H' _ ⟨_,_,_,_,_,b,_⟩=>aD.of (b _ _ aJ nor)) ?_ ?_⟩
  .rintro i x σ H' hx ⟨v5,v6,v7,rfl,s3,b3,vn⟩;obtain ⟨n,hn,rfl⟩:=nQ hx;have oJ:=(gq.mp hn).1;have SR:=iy hn;have MT:n∈ks:=by
    rw[hm n];have:=(gT.mp SR).2;unfold pW at this;cases e:(alive g [] []).filter (jz g n) with
    |nil=>rw[e]at this;cases this
    |cons a r=>
     have:a∈(alive g [] []).filter (jz g n):=by rw[e];exact m4 ..
     exact ⟨a,(gT.mp this).1,(gT.mp this).2⟩
   obtain ⟨ik,Df⟩:=rj MT;obtain ⟨b,hb,MU,rR,nE⟩:=C9 D1.pr nk Df;have ndo:d≠o:=iG D1.at_ pq (by intro z;cases z);have T8:b≠o:=fun z=>by
    rw[z,aJ]at rR;cases rR
   have mj:H' d=some (.dK (kd ks bs)):=b3 _ _ (s2 _ _ D1.at_) ndo;have Bj:H' b=some (.lst (nats ((alive g [] []).filter (jz g n)))):=b3 _ _ (s2 _ _ nE) T8;have lf:((alive g [] []).filter (jz g n)).length<=48:=gN (mL _ _) al;have lnf:(nats ((alive g [] []).filter (jz g n))).length=((alive g [] []).filter (jz g n)).length:=by unfold nats;rw[bt]
   refine ⟨_,rfl,_,rfl,d,V.ref b,rfl,(by rw[<-MU];exact lL.k (k:=Sum.inl (n:Int)) mj),?_⟩;refine ⟨_,rfl,s3 _ _ hp,T.iI,T.jE,j9 _ _,_,rfl,dU _,fun a4 h4=>?_⟩;have s4:=aC.nw (o:=.lst []) h4;refine ⟨ag,b,a4,g,(alive g [] []).filter (jz g n),[],rfl,⟨(hg.same s3).same s4,fit,aD.of (s4 _ _ Bj),aD.of aJ,by omega,by simp⟩,?_⟩;intro H6 kl s7 Fl yh;have s8:=s4.trans s7;have gl:=A6 fit ((alive g [] []).filter (jz g n)) [];refine ⟨_,rfl,.inl ⟨rfl,_,aD.of (s8 _ _ vn)⟩,_,rfl,_,rfl,b,_,rfl,.inl (aD.of (s8 _ _ Bj)),?_⟩;rw[lnf];refine ⟨_,rfl,s8 _ _ (s3 _ _ hp),T.iI,T.jE,j9 _ _,_,rfl,ag,b,g,(alive g [] []).filter (jz g n),rfl,(hg.same s3).same s8,aD.of (s8 _ _ Bj),by omega,fun m hm'=>Iw fit [] [] m (gT.mp hm').1,?_⟩;intro H7 s9;have Uv:=s8.trans s9;refine ⟨_,rfl,Uv _ _ (s3 _ _ hp),T.iI,T.jE,j9 _ _,_,rfl,ag,kl,g,gone g ((alive g [] []).filter (jz g n)) [],rfl,(hg.same s3).same Uv,aD.of (s9 _ _ yh),by omega,Fh fit _ _,?_⟩;intro H8 G2;have sA:=Uv.trans G2;refine ⟨(by show 4<=cJ;decide),fun l1 om=>?_⟩;have sB:=sA.trans (aC.nw (o:=.lst [V.int (n:Int),V.int (((alive g [] []).filter (jz g n)).length:Int),V.int (lX g ((alive g [] []).filter (jz g n)):Int),V.int (lX g (gone g ((alive g [] []).filter (jz g n)) []):Int)]) om);refine ⟨o,l1,_,_,rfl,rfl,sB _ _ vn,aJ,?_,?_⟩
   .have q:=uL Ut 4 ((((jO 100).filter (pW g)).take i).map (Fv g)) (fun _ _=>dR _);rw[bt,mB]at q;unfold nats;rw[bt,iz,eE];show _+1+4<=_;have:min i ((jO 100).filter (pW g)).length*4<=48*4:=DD _ (by omega);omega
   .refine ⟨_,_,_,rfl,(s3.trans sB).own ho,(b3.trans sB.but).upd,?_⟩;rw[aJ,take_snoc hn,iO,sZ];simp[nats,Ut,Fv];rfl
  .rintro σ H2 ⟨v5,v6,v7,rfl,s3,b3,vn⟩;have eT:((jO 100).filter (pW g)).take (nats ((jO 100).filter (pW g))).length=(jO 100).filter (pW g):=by unfold nats;rw[bt,jY]
   rw[eT,<-as7]at vn;refine ⟨_,rfl,?_⟩;refine k H2 o s3.but ho (iE.same s3) ?_;rw[vn,wJ];rfl
end WD
namespace L2
theorem Uw{X:Cx}{K:cB}{es:List Expr}{k:Nat}{t:Aj}{pos:Pos}(n:Nat)(hc:X.calm=true)(h:Gr X es t)(eK:X.K=K:=by rfl)(hn:(assignEach es X.env).length=n:=by rfl)(oC:(assignEach es X.env).findIdx? (·.1)=none:=by rfl):PG X (.Tuple es k pos) (XM K n t):=by
 subst eK;exact Ak hc h hn oC
theorem Ux{K:cB}{a:Addr}{xs:List V}{g:TG}{tt:TT}{te:TE}{vs:List Nat}{σ:St}{H1:Hp}{D:Addr}{Qd:Hp->Prop}(Pv:Nat->Hp->Prop)(h0:Pv 0 (upd H1 D (.lst [])))(hl:∀i H,i<=xs.length->Pv i H->aD K H a xs)(hs:∀i x H T,xs[i]? =some x->Pv i H->H T=none->g (.ref T) (wipe σ vs) (upd H T (.tup [.int ((i:Nat):Int),x])) fun ib H2=>wipe ib vs=wipe σ vs/\tt ib H2 fun b H3=>
   if b=true then te ib H3 fun y H4=>∃acc,H4 D=some (.lst acc)/\acc.length<cJ/\Pv (i+1) (upd H4 D (.lst (acc++[y]))) else Pv (i+1) H3)(hd:∀H,Pv xs.length H->Qd H):
  ∃W:Nat->Nat->Hp->Prop,(∃m,W 0 m (upd H1 D (.lst [])))/\∀i m H,W i m H->
   ((AJ K a).stop i H/\Qd H)∨((AJ K a).go i H/\∃Nx:Hp->Prop,(∀H',Nx H'->∃m',m'<m/\W (i+1) m' H')/\∀x H',(AJ K a).wb i H x H'->g x (wipe σ vs) H' fun ib H2=>wipe ib vs=wipe σ vs/\tt ib H2 fun b H3=>
    if b=true then te ib H3 fun y H4=>∃acc,H4 D=some (.lst acc)/\acc.length<cJ/\Nx (upd H4 D (.lst (acc++[y]))) else Nx H3):=by
 refine ⟨fun i m H=>m=xs.length-i/\i<=xs.length/\Pv i H,⟨xs.length,by simp,dU _,h0⟩,?_⟩;rintro i m H ⟨rfl,hi,p⟩;have q:=hl i H hi p;rcases zO i xs.length with lt|ge
 .refine .inr ⟨⟨xs,xs[i],q,by simp[lt]⟩,Pv (i+1),fun H' p'=>⟨xs.length-(i+1),by omega,rfl,lt,p'⟩,?_⟩;rintro x H' ⟨T,y,rfl,hT,rfl,hy⟩;exact hs i y H T (hy xs q) p hT
 .have e:i=xs.length:=by omega
  subst e;exact .inl ⟨⟨xs,q,dR _⟩,hd H p⟩
end L2
namespace WD
end WD
open Vasnpb (released)
namespace WD
def qw(g:bp)(cut:List Nat)(a b:Nat):Bool:=cut.any fun n=>match (bh g)[n]? with
 |some h=>bN h==a&&h.place==b
 |none=>false
def zJ(a b:Nat):List Key:=[Sum.inl (a:Int),Sum.inl (b:Int)]
def MW(g:bp)(kvs:List (List Key×V))(cut:List Nat):Prop:=∀a b:Nat,(hJ kvs (zJ a b)).isSome=qw g cut a b
theorem atn(g:bp)(cut:List Nat)(o:Option Nat)(i:Nat):((((bh g).zipIdx.filter fun h=>cut.contains h.2).map fun h=>h.1).any fun h=>h.src==o&&h.place==i)=qw g cut (match o with|none=>0|some x=>x+1) i:=by
 rw[n4];unfold qw;rw[sY,sY];have ef:∀h:Hold,(h.src==o)=(bN h==(match o with|none=>0|some x=>x+1)):=by
  intro h;unfold bN;cases h.src with
  |none=>cases o with
   |none=>rfl
   |some x=>rfl
  |some y=>cases o with
   |none=>rfl
   |some x=>
    rw[n4];simp
 constructor
 .rintro ⟨h,hm,hh⟩;obtain ⟨⟨h',n⟩,hf,rfl⟩:=js.mp hm;obtain ⟨hz,hc⟩:=gT.mp hf;have hn:=pz.mp hz;refine ⟨n,by simpa using hc,?_⟩;have hn:(bh g)[n]? =some h':=hn;rw[hn];show (bN h'==_&&h'.place==i)=true;rw[<-ef];exact hh
 .rintro ⟨n,hn,hh⟩;cases e:(bh g)[n]? with
  |none=>rw[e]at hh;cases hh
  |some h=>
   rw[e]at hh;refine ⟨h,js.mpr ⟨(h,n),gT.mpr ⟨pz.mpr e,by simpa using hn⟩,rfl⟩,?_⟩;rw[ef];exact hh
theorem MX(g:bp)(cut:List Nat):released g cut={objs:=g.objs.zipIdx.map fun x=>{x.1 with fields:=(x.1.fields.zipIdx.filter fun f=>!qw g cut (x.2+1) f.2).map fun f=>f.1},roots:=(g.roots.zipIdx.filter fun r=>!qw g cut 0 r.2).map fun r=>r.1}:=by
 unfold released;simp only[atn]
theorem ato(g:bp)(cut:List Nat):(released g cut).objs.map (·.kind)=g.objs.map (·.kind):=by
 rw[MX];show (g.objs.zipIdx.map _).map _=_;rw[n9];have:(((fun x:lj=>x.kind) ∘ fun x:lj×Nat=>({x.1 with fields:=(x.1.fields.zipIdx.filter fun f=>!qw g cut (x.2+1) f.2).map fun f=>f.1}:lj))=(fun x:lj=>x.kind) ∘ Prod.fst):=rfl;rw[this,<-n9,Wc]
theorem atp(g:bp)(cut:List Nat):(released g cut).objs.map (·.size)=g.objs.map (·.size):=by
 rw[MX];show (g.objs.zipIdx.map _).map _=_;rw[n9];have:(((fun x:lj=>x.size) ∘ fun x:lj×Nat=>({x.1 with fields:=(x.1.fields.zipIdx.filter fun f=>!qw g cut (x.2+1) f.2).map fun f=>f.1}:lj))=(fun x:lj=>x.size) ∘ Prod.fst):=rfl;rw[this,<-n9,Wc]
def ae0(g:bp)(cut:List Nat)(x:List ja×Nat):List ja:=(x.1.zipIdx.filter fun f=>!qw g cut (x.2+1) f.2).map fun f=>f.1
theorem atq(g:bp)(cut:List Nat):(released g cut).objs.map (·.fields)=(g.objs.map (·.fields)).zipIdx.map (ae0 g cut):=by
 rw[MX,V5,n9,n9];rfl
theorem atr(g:bp)(cut:List Nat):(released g cut).roots=(g.roots.zipIdx.filter fun r=>!qw g cut 0 r.2).map fun r=>r.1:=by
 rw[MX]
theorem MW.put{g:bp}{kvs:List (List Key×V)}{cut:List Nat}{n:Nat}{h:Hold}(m:MW g kvs cut)(hn:(bh g)[n]? =some h)(v:V):MW g (putK kvs (zJ (bN h) h.place) v) (cut++[n]):=by
 intro a b;rw[Za];have e:qw g (cut++[n]) a b=(qw g cut a b||(bN h==a&&h.place==b)):=by
  unfold qw;rw[List.any_append,FU,List.any_nil,ahL,hn]
 rw[e];by_cases z:zJ a b=zJ (bN h) h.place
 .rw[if_pos z];have z1:(a:Int)=(bN h:Int):=zP (Bz z).1;have z2:(b:Int)=(h.place:Int):=zP (Bz (Bz z).2).1;have e1:bN h=a:=by omega
  have e2:h.place=b:=by omega
  simp[e1,e2]
 .rw[if_neg z,m a b];have:(bN h==a&&h.place==b)=false:=by
   rw[agE];intro q;rw[jN,beq_iff_eq,beq_iff_eq]at q;exact z (by rw[q.1,q.2])
  rw[this,ahL]
theorem MY{α:Type}{l:List α}{i:Nat}{x:α}{p:α×Nat->Bool}(h:l[i]? =some x):((l.take (i+1)).zipIdx.filter p).map (·.1)=((l.take i).zipIdx.filter p).map (·.1)++if p (x,i) then [x] else []:=by
 rw[yP h,vJ,iO,vK];congr 1;rw[kO]
 split<;>rfl
theorem ae1{α:Type}{l:List α}{i:Nat}{p:α×Nat->Bool}:(((l.take i).zipIdx.filter p).map (·.1)).length<=l.length:=by
 rw[bt];refine gN (mL _ _) ?_;rw[yt,mB];omega
theorem ats{g:bp}(h:kP g=true):∀x∈g.objs,x.fields.length<=12:=by
 unfold kP at h;simp only[jN,tZ,decide_eq_true_eq]at h;exact fun x hx=>(h.2 x hx).1.2
theorem ae2{g:bp}(h:kP g=true):g.roots.length<=16/\g.objs.length<=48:=by
 unfold kP at h;simp only[jN,tZ,decide_eq_true_eq]at h;exact ⟨h.1.1.1.2,h.1.1.1.1⟩
def ae3(K:cB)(t:fZ):Sp:=fun vs H Q _=>∃(ag an:Addr)(g:bp)(cut:List Nat),vs=[.ref ag,.ref an]/\i7 t H ag g/\kP g=true/\aD K H an (nats cut)/\(∀n∈cut,n<(bh g).length)/\cut.length<=1000/\
 ∀H' p,aC H H'->H p=none->i7 t H' p (released g cut)->Q (.ref p) H'
theorem att{f fG fo:Addr}{fd Sr mV:dn}(F:eW K "graph_without" "graph_without" Hj f fd)(T:Txt K mg t)(cG:xT P w K mg base bJ 4 t.cG fG Sr Hg (HD t))(co:eY P w K mg base bJ 1 "holder_of" fo mV uz vo):
  c8 P w K mg base bJ 6 f fd QO (ae3 K t):=by
 refine F.ok ZV (fun vs H Q E h=>?_) (fun c6 A outer s H vs Q E hr h=>?_)
 .obtain ⟨ag,an,g,cut,rfl,_⟩:=h;rfl
 .obtain ⟨ag,an,g,cut,rfl,hg,good,hC,mG,hl,k⟩:=h;have nd:=ZV.nd;have hu:=vk hr;have ig:dQ 1 _:=hr.mono (by decide);refine ⟨_,bF (dB (i:=2) nd rfl (Or.inr rfl) ama)
   (bF (kW jW rfl (l0 (pv 1)) (gG (i:=3) nd rfl (Or.inl rfl))
    (bF (dB (i:=4) nd rfl (Or.inl rfl) (gj ia (cO (pv 0) rfl) (pv 3) (fun _ _=>rfl)))
    (cy (El hu (pv 2) (B6 (ax (cO (pv 4) rfl) (ax (cO (pv 4) rfl) aO))) BW rfl))))
   (bF (KH (i:=5) (own:=[("place",9),("lead",10)]) rfl nd rfl rfl (KI rfl rfl rfl (by decide +kernel)) (AK rfl T.enumerate (ax (cO (pv 0) rfl) aO)) (sj (by show qQ QN (da Hj) _ _=true;decide +kernel))
    (fun s H C cl fp=>Uw (K:=K) 2 rfl (oB (gG (i:=9) nd rfl (Or.inl rfl) (Or.inr rfl)) (oB (gG (i:=10) nd rfl (Or.inl rfl) (Or.inr rfl)) xx)))
    (fun s H C cl fp=>Cd (vV (Cg hu (B6 (ax (gY T.Cw) (ax (pv 9) aO))) (pv 2)) (by with_unfolding_all rfl))) (fun s H C cl fp=>pv 10))
   (bF (dB (i:=6) nd rfl (Or.inl rfl) (dG aO))
   (bF (kW jW rfl (AK rfl T.enumerate (ax (cO (pv 0) rfl) aO)) (Ak rfl (oB (gG (i:=3) nd rfl (Or.inl rfl)) (oB (gG (i:=7) nd rfl (Or.inl rfl)) xx)))
    (bF (dB (i:=8) nd rfl (Or.inr rfl) (eB co.G ig rfl co.m co.kp co.b .nil di (ax (pv 3) aO)))
    (cy (jv (j8 jX n6 n8 nM (pv 6) (ax (wm (own:=[("place",9),("field",11)]) rfl nd (AK rfl T.enumerate (ax (pv 7) aO)) (sj (by show qQ QN (da Hj) _ _=true;decide +kernel))
     (fun s H C cl fp=>Uw (K:=K) 2 rfl (oB (gG (i:=9) nd rfl (Or.inl rfl) (Or.inr rfl)) (oB (gG (i:=11) nd rfl (Or.inl rfl) (Or.inr rfl)) xx)))
     (fun s H C cl fp=>Cd (vV (Cg hu (B6 (ax (pv 8) (ax (pv 9) aO))) (pv 2)) (by with_unfolding_all rfl))) (fun s H C cl fp=>pv 11)) aO))))))
   (cy (eN (yG cG.M cG.G hr rfl T.RW cG.b .nil di (ax (cO (pv 0) rfl) (ax (cO (pv 0) rfl) (ax (pv 6) (ax (pv 5) aO))))))))))),?_⟩
  try dsimp only[fQ,fS,fT,fV]
  obtain ⟨rl,ol⟩:=ae2 good;have nh:=Ib good;obtain ⟨dx,aK,aS,aF,aR,aH,aE,pR,gP,Uq,hSi,Mh,CZ,pS,_⟩:=hg.ex;obtain ⟨jL,jU,kx⟩:=pS;intro d hd;have s0:=aC.nw (o:=.dT []) hd;refine ⟨_,rfl,an,rfl,⟨_,s0.seq hC⟩,qK (K:=K) (a:=an) (xs:=nats cut) (fun i σ H'=>∃(v3 v4:Option V)(kvs:List (List Key×V)),σ=[some (.ref ag),some (.ref an),some (.ref d),v3,v4,none,none,none,none,none,none,none]/\aC H H'/\H' d=some (.dT kvs)/\kvs.length<=i/\MW g kvs (cut.take i))
   ⟨none,none,[],rfl,s0,aJ,dU _,fun a b=>by simp[hJ,qw]⟩ (fun i σ H' _ ⟨_,_,_,_,z,_⟩=>z.seq hC) ?_ ?_⟩
  .rintro i x σ H' hx ⟨v3,v4,kvs,rfl,s1,rM,lk,mk⟩;obtain ⟨n,hn,rfl⟩:=nQ hx;have oJ:=(gq.mp hn).1;have rf:=mG n (iy hn);have rS:(bh g)[n]? =some (bh g)[n]:=iN rf;obtain ⟨c,hc,dh,oR⟩:=uB kx rS;refine ⟨_,rfl,s1 _ _ gP,T.iT,T.pO,rH _ _ _ _ _ _ _,_,rfl,aH,_,_,_,rfl,rfl,aD.of (s1 _ _ jU),at_of (j:=n) rfl (by rw[gp,hc];rfl),?_⟩;refine ⟨_,rfl,_,rfl,s1 _ _ oR,T.nP,T.xQ,yM _ _ _,_,rfl,s1 _ _ oR,T.nP,T.RU,aaY _ _ _,(by show 2<=cJ;decide),fun tp pV=>?_⟩;have sT:=aC.nw (o:=.tup [V.int (bN (bh g)[n]:Int),V.int ((bh g)[n].place:Int)]) pV;refine ⟨d,_,rfl,vi.t (k:=zJ (bN (bh g)[n]) (bh g)[n].place) (sT _ _ rM) aJ (by rw[eE];omega),?_⟩;refine ⟨_,_,_,rfl,(s1.trans sT).own hd,aJ,?_,?_⟩
   .have:=G3 kvs (zJ (bN (bh g)[n]) (bh g)[n].place) (.bl true);omega
   .rw[take_snoc hn];exact mk.put rS _
  rintro σ H1 ⟨v3,v4,kvs,rfl,s1,rM,lk,mk⟩;have eC:cut.take (nats cut).length=cut:=by unfold nats;rw[bt,jY]
  rw[eC]at mk;refine ⟨_,rfl,s1 _ _ gP,T.iT,T.Lw,RH _ _ _ _ _ _ _,aR,nats g.roots,rfl,aD.of (s1 _ _ CZ),fun D hD=>?_⟩;have fD:H D=none:=s1.free hD;refine Ux (K:=K) (a:=aR) (xs:=nats g.roots) (fun j H'=>aC H H'/\aC H1 H'/\H' D=some (.lst (nats (((g.roots.take j).zipIdx.filter fun r=>!qw g cut 0 r.2).map (·.1))))) ⟨s1.new hD,aC.nw hD,aJ⟩ (fun j H' _ ⟨z,_⟩=>aD.of (z _ _ CZ)) ?_ ?_
  .rintro j x H' Tu hx ⟨s2,sL,nv⟩ hT;obtain ⟨n,hn,rfl⟩:=nQ hx;have sT:=aC.nw (o:=.tup [V.int ((j:Nat):Int),V.int (n:Int)]) hT;refine ⟨Tu,_,rfl,kj.of aJ,rfl,_,_,rfl,_,_,rfl,rfl,rfl,_,rfl,(by show 2<=cJ;decide),fun tp pV=>?_⟩;have sU:=sT.trans (aC.nw (o:=.tup [V.int 0,V.int (j:Int)]) pV);have s3:=s2.trans sU;have Uy:=sL.trans sU;refine ⟨_,rfl,d,_,rfl,lL.t (k:=zJ 0 j) (Uy _ _ rM) aJ,_,rfl,?_⟩;rw[mk 0 j];refine jq (fun z=>?_) (fun z=>?_)
   .refine ⟨_,rfl,_,sU _ _ nv,?_,s3.own fD,fun b o e=>?_,?_⟩
    .have:=ae1 (l:=g.roots) (i:=j) (p:=fun r=>!qw g cut 0 r.2);unfold nats;rw[bt,eE];omega
    .rw[bC (dw e hD)];exact Uy _ _ e
    .rw[aJ,MY hn,if_pos z];unfold nats;rw[iO];rfl
   .refine ⟨s3,Uy,?_⟩;rw[MY hn,if_neg z,nZ];exact sU _ _ nv
  rintro H2 ⟨s2,sL,nv⟩;have eR:g.roots.take (nats g.roots).length=g.roots:=by unfold nats;rw[bt,jY]
  rw[eR,<-atr]at nv;have hd2:=sL _ _ rM;refine ⟨dU _,fun af MZ=>?_⟩;have sF:=aC.nw (o:=.lst []) MZ;have faf:H af=none:=s2.free MZ;obtain ⟨bs,uE,EL⟩:=Mh;have atx:D≠af:=dw nv MZ;have aty:d≠af:=dw hd2 MZ;have M0:=EL.length;rw[bt]at M0;refine ⟨_,rfl,sF _ _ (s2 _ _ gP),T.iT,T.RV,aa1 _ _ _ _ _ _ _,aF,bs.map V.ref,rfl,aD.of (sF _ _ (s2 _ _ uE)),Ho (K:=K) (a:=aF) (xs:=bs.map V.ref)
   (fun i σ H'=>∃(v3 v7 v8 v9 v10 v11:Option V)(cs:List Addr),σ=[some (.ref ag),some (.ref an),some (.ref d),v3,v4,some (.ref D),some (.ref af),v7,v8,v9,v10,v11]/\aC H H'/\H' d=some (.dT kvs)/\H' D=some (.lst (nats (released g cut).roots))/\H' af=some (.lst (cs.map V.ref))/\(∀c∈cs,c≠af)/\
    Paired (k6 t H') cs (((g.objs.map (·.fields)).take i).zipIdx.map (ae0 g cut)))
   ⟨_,none,none,_,_,_,[],rfl,s2.trans sF,sF _ _ hd2,sF _ _ nv,aJ,by simp,.nil⟩ (fun i σ H' _ ⟨_,_,_,_,_,_,_,_,z,_⟩=>aD.of (z _ _ uE)) ?_ ?_⟩
  .rintro i x σ H' Tu hx ⟨v3,v7,v8,v9,v10,v11,cs,rfl,s3,mj,sP,UA,M1,pr⟩ hT;obtain ⟨b,hb,rfl⟩:=pd hx;obtain ⟨fs,yW,AL⟩:=lM EL hb;have oJ:=(gq.mp hb).1;obtain ⟨fcs,ae5,ae6⟩:=AL;have lfs:fs.length<=12:=by
    rw[gp]at yW;cases e:g.objs[i]? with
    |none=>rw[e]at yW;cases yW
    |some x=>
     rw[e]at yW;cases yW;exact ats good x (iy e)
   have sT:=aC.nw (o:=.tup [V.int ((i:Nat):Int),V.ref b]) hT;refine ⟨Tu,_,rfl,kj.of aJ,rfl,_,_,rfl,_,_,rfl,rfl,?_⟩;refine ⟨_,rfl,(i:Int),rfl,?_⟩;have UB:=sT _ _ UA;refine ⟨_,rfl,.inl ⟨rfl,_,aD.of UB⟩,_,rfl,b,_,rfl,aD.of (sT _ _ (s3 _ _ ae5)),fun D4 uD=>?_⟩;have s4:=s3.trans sT;have fD4:H D4=none:=s4.free uD;have eh:((i:Int)+1)=((i+1:Nat):Int):=by omega
   refine Ux (K:=K) (a:=b) (xs:=fcs.map V.ref) (fun j iJ=>aC (upd H' Tu (.tup [V.int ((i:Nat):Int),V.ref b])) iJ/\∃ds:List Addr,iJ D4=some (.lst (ds.map V.ref))/\Paired (yU t iJ) ds (((fs.take j).zipIdx.filter fun f=>!qw g cut (i+1) f.2).map (·.1)))
    ⟨aC.nw uD,[],aJ,.nil⟩ (fun j iJ _ ⟨z,_⟩=>aD.of (z _ _ (s4 _ _ ae5))) ?_ ?_
   .rintro j x iJ Tv hx ⟨s5,ds,Dg,Fw⟩ EJ;obtain ⟨fc,hfc,rfl⟩:=pd hx;obtain ⟨fl,Hy,UC⟩:=lM ae6 hfc;have sV:=aC.nw (o:=.tup [V.int ((j:Nat):Int),V.ref fc]) EJ;refine ⟨Tv,_,rfl,kj.of aJ,rfl,_,_,rfl,_,_,rfl,rfl,rfl,_,rfl,_,rfl,(by show 2<=cJ;decide),fun tp pV=>?_⟩;have sU:=sV.trans (aC.nw (o:=.tup [V.int ((i:Int)+1),V.int (j:Int)]) pV);have s6:=s5.trans sU;have Gz:(upd (upd iJ Tv (.tup [V.int ((j:Nat):Int),V.ref fc])) tp (.tup [V.int ((i:Int)+1),V.int (j:Int)])) tp=some (.tup ((zJ (i+1) j).map kV)):=by
     rw[aJ,eh];rfl
    refine ⟨_,rfl,d,_,rfl,lL.t (k:=zJ (i+1) j) (s6 _ _ (sT _ _ mj)) Gz,_,rfl,?_⟩;rw[mk (i+1) j];refine jq (fun z=>?_) (fun z=>?_)
    .refine ⟨_,rfl,_,sU _ _ Dg,?_,fun b' o e=>?_,ds++[fc],?_,?_⟩
     .have U:=Fw.length;have h2:=ae1 (l:=fs) (i:=j) (p:=fun f=>!qw g cut (i+1) f.2);rw[bt,eE];omega
     .rw[bC (dw e uD)];exact s6 _ _ e
     .rw[aJ,iO];rfl
     .rw[MY Hy,if_pos z];refine vM (gX Fw fun c q y=>?_) ?_
      .obtain ⟨dd,y⟩:=y.same sU;exact ⟨dd,by rw[bC (iG y (sU _ _ Dg) (by intro z;cases z))];exact y⟩
      .obtain ⟨dd,y⟩:=UC.same (s4.trans s6);exact ⟨dd,by rw[bC (iG y (sU _ _ Dg) (by intro z;cases z))];exact y⟩
    .refine ⟨s6,ds,sU _ _ Dg,?_⟩;rw[MY Hy,if_neg z,nZ];exact gX Fw fun c q y=>y.same sU
   .rintro H5 ⟨s5,ds,Dg,Fw⟩;have eF:fs.take (fcs.map V.ref).length=fs:=by rw[bt,ae6.length,jY]
    rw[eF]at Fw;have ax5:=Dg;have ae7:af≠D4:=dw UB uD;have nD4:D≠D4:=dw (sT _ _ sP) uD;have UD:=s5 _ _ UB;have nd:∀c∈cs,c≠af:=M1;refine ⟨af,_,V.ref D4,rfl,rfl,UD,?_,?_⟩
    .have U:=pr.length;rw[bt,yt,mB,bt]at U;rw[bt,eE];omega
    .have b6:bY af H5 (upd H5 af (.lst (cs.map V.ref++[V.ref D4]))):=(bY.refl af H5).upd;have s35:=s3.trans (sT.trans s5);refine ⟨_,_,_,_,_,_,cs++[D4],rfl,s35.own faf,?_,?_,by rw[aJ,iO];rfl,?_,?_⟩
     .rw[bC aty];exact s5 _ _ (sT _ _ mj)
     .rw[bC atx];exact s5 _ _ (sT _ _ sP)
     .intro c hc;rcases kN.mp hc with z|z
      .exact M1 c z
      .simp at z;subst z;exact ae7.symm
     .rw[yP yW,iO,vK];refine vM (RM pr fun c pC hc _ y=>?_) ?_
      .obtain ⟨es,he,pe⟩:=(y.same sT).same s5;refine ⟨es,by rw[bC (M1 c hc)];exact he,gX pe fun e' f' y'=>?_⟩;obtain ⟨dd,y'⟩:=y';exact ⟨dd,by rw[bC (iG y' UD (by intro z;cases z))];exact y'⟩
      .refine ⟨ds,by rw[bC ae7.symm];exact Dg,?_⟩;show Paired _ ds ((fs.zipIdx.filter fun f=>!qw g cut (i+1) f.2).map fun f=>f.1);refine gX Fw fun e' f' y'=>?_;obtain ⟨dd,y'⟩:=y';exact ⟨dd,by rw[bC (iG y' UD (by intro z;cases z))];exact y'⟩
  rintro σ H3 ⟨v3,v7,v8,v9,v10,v11,cs,rfl,s3,mj,sP,UA,M1,pr⟩;have eF:(g.objs.map (·.fields)).take (bs.map V.ref).length=g.objs.map (·.fields):=by
   rw[bt,M0];exact VX (by rw[bt];exact dR _)
  rw[eF,<-atq]at pr;have ae8:=adS good cut;have ae9:=nA ae8;obtain ⟨rl',ol'⟩:=ae2 ae8;refine ⟨_,rfl,s3 _ _ gP,T.iT,T.AS,Cr _ _ _ _ _ _ _,_,rfl,s3 _ _ gP,T.iT,T.Lv,RG _ _ _ _ _ _ _,_,rfl,_,rfl,?_⟩;refine Se ⟨aK,aS,af,D,released g cut,rfl,by rw[ato];exact s3 _ _ Uq,by rw[atp];exact s3 _ _ hSi,⟨cs,UA,pr⟩,sP,ae9.nh,by omega,fun h hh=>?_,?_⟩
  .exact ae9.ok.uX h hh
  intro H4 p s4 CG hg4;exact k H4 p (s3.trans s4) (s3.free CG) hg4
theorem atF{f fl fr fz fw fc:Addr}{fd lO oN wQ S3 CW:dn}(F:eW K "answer_release" "answer_release" RA f fd)(T:Txt K mg t)(cl:eY P w K mg base bJ 4 "lost_objects" fl lO xN (zg K t))(cr:eY P w K mg base bJ 2 "refusal_of" fr oN AN (CS K t))(cz:eY P w K mg base bJ 1 "size_of" fz wQ AM (C8 K t))(cw:eY P w K mg base bJ 6 "graph_without" fw S3 QO (ae3 K t))(cc:pP P w K mg base bJ 1 t.cD "change" fc CW K7 (SI t)):c8 P w K mg base bJ 7 f fd aaN (sJ t fun _ cS c=>∃xs,cS=[xs]/\c=.release xs):=by
 refine F.ok aaO (fun vs H Q E h=>?_) (fun c6 A outer s H vs Q E hr h=>?_)
 .obtain ⟨p,aN,aL,g,past,ns,cS,c,rfl,_⟩:=h;rfl
 .obtain ⟨p,aN,aL,g,past,ns,cS,c,rfl,hD,gs,hN,hL,ll,ln,⟨xs,rfl,rfl⟩,k⟩:=h;have nd:=aaO.nd;have ig:dQ 1 _:=hr.mono (by decide);have mY:dQ 2 _:=hr.mono (by decide);have rg:dQ 4 _:=hr.mono (by decide);refine ⟨_,bF (dB (i:=3) nd rfl (Or.inl rfl) (eB cr.G mY rfl cr.m cr.kp cr.b .nil di (ax (cO (pv 0) rfl) (ax (dG aO) (ax (gj ia (pv 2) gg (fun _ _=>rfl)) aO)))))
   (bF (mQ (ng uu (pv 3) (gY T.lN) (mS _)) (cy (eN (dG (ax (pv 3) aO)))) mP)
   (bF (dB (i:=4) nd rfl (Or.inl rfl) (eB cl.G rg rfl cl.m cl.kp cl.b .nil di (ax (cO (pv 0) rfl) (ax (dG aO) (ax (gj ia (pv 2) gg (fun _ _=>rfl)) aO)))))
   (bF (dB (i:=5) nd rfl (Or.inl rfl) (eB cz.G ig rfl cz.m cz.kp cz.b .nil di (ax (cO (pv 0) rfl) (ax (pv 4) aO))))
   (bF (jv (uw (pv 0) T.iI cc.mt cc.G ig cc.b .nil di (ax (eB cw.G hr rfl cw.m cw.kp cw.b .nil di (ax (cO (pv 0) rfl) (ax (gj ia (pv 2) gg (fun _ _=>rfl)) aO))) aO)))
   (cy (eN (dG (ax (gY T.lN) (ax (jR l7 (by rfl) T.len lW (ax (pv 4) aO)) (ax (pv 5) aO)))))))))),?_⟩
  try dsimp only[fQ,fS,fT,fV]
  obtain ⟨a1,hL,U⟩:=Mc hL;have l1:=ll xs (by simp);have iE:=hD;obtain ⟨dx,ag,ab,gM,hp,hg,hb,mJ⟩:=hD;have fit:=nA gs.now;have mK:mf [V.ref a1] 0=some (V.ref a1):=at_of (j:=0) rfl rfl;refine ⟨_,rfl,hp,T.iI,T.jE,j9 _ _,dU _,fun l2 iH=>?_⟩;have s0:=aC.nw (o:=.lst []) iH;refine ⟨_,rfl,aL,_,_,_,rfl,rfl,aD.of (s0 _ _ hL),mK,ag,l2,a1,g,[],xs,rfl,hg.same s0,aD.of aJ,aD.of (s0 _ _ U),by simp,by omega,?_⟩;intro H1 CV;have s1:=s0.trans CV;have st:lp ⟨g,past⟩ (.release xs)=if refusal g [] xs=0 then (⟨released g (toNats xs),(g::past).take 16⟩,0::toInts [(freed g (toNats xs)).length,lX g (freed g (toNats xs))]) else (⟨g,past⟩,[refusal g [] xs]):=by
   show Vasnpb.releasing ⟨g,past⟩ xs=_;unfold Vasnpb.releasing refusal;have e2:xs.all (Vasnpb.isHold ⟨g,past⟩)=xs.all (x8 g):=rfl;rw[e2];cases xs.all (x8 g) with
   |false=>rfl
   |true=>rfl
  rw[st]at k;refine ⟨_,rfl,rfl,_,rfl,?_⟩;by_cases z:refusal g [] xs=0
  .rw[if_pos z]at k;refine yJ (by rw[z]) ?_;obtain ⟨z1,z2⟩:=E5 z;have en:=CT (Ma z2);have lx:(toNats xs).length<=1000:=by unfold toNats;rw[bt];exact l1
   have eU:∀n∈toNats xs,n<(bh g).length:=by
    intro n hn;obtain ⟨x,hx,rfl⟩:=js.mp hn;have:=tZ.mp z2 x hx;unfold x8 at this;rw[jN,decide_eq_true_iff,decide_eq_true_iff]at this;omega
   refine ⟨_,rfl,s1 _ _ hp,T.iI,T.jE,j9 _ _,dU _,fun l3 mn=>?_⟩;have s2:=s1.trans (aC.nw (o:=.lst []) mn);refine ⟨_,rfl,aL,_,_,_,rfl,rfl,aD.of (s2 _ _ hL),mK,ag,l3,a1,g,[],toNats xs,rfl,⟨hg.same s2,fit,aD.of aJ,by rw[<-en];exact aD.of (s2 _ _ U),by simp,lx⟩,?_⟩;intro H2 q2 s3 yy hv;have sA:=s2.trans s3;have h5:=A6 fit [] (toNats xs);refine ⟨_,rfl,sA _ _ hp,T.iI,T.jE,j9 _ _,_,rfl,ag,q2,g,gone g [] (toNats xs),rfl,hg.same sA,aD.of hv,by omega,Fh fit _ _,?_⟩;intro H3 s4;have sB:=sA.trans s4;refine ⟨_,rfl,p,dx,_,rfl,sB _ _ hp,RL _ _ (by decide +kernel) (by decide +kernel),_,rfl,sB _ _ hp,T.iI,T.jE,j9 _ _,_,rfl,aL,_,_,_,rfl,rfl,aD.of (sB _ _ hL),mK,ag,a1,g,toNats xs,rfl,hg.same sB,gs.now,by rw[<-en];exact aD.of (sB _ _ U),eU,lx,?_⟩;intro H4 an s5 han EX;have sC:=sB.trans s5;refine ⟨p,an,released g (toNats xs),g,past,rfl,iE.same sC,EX,by have:=gs.len;omega,?_⟩;intro H5 b5 iw;have CG:=sC _ _ hp;have hv5:=b5 _ _ (s5 _ _ (s4 _ _ hv)) (oM (s5 _ _ (s4 _ _ hv)) CG);have ln2:(nats (gone g [] (toNats xs))).length=(gone g [] (toNats xs)).length:=by unfold nats;rw[bt]
   refine ⟨_,rfl,q2,_,rfl,.inl (aD.of hv5),_,rfl,(by show 3<=cJ;decide),fun r eD=>?_⟩;rw[ln2];have sD:=aC.nw (o:=.lst [V.int 0,V.int ((gone g [] (toNats xs)).length:Int),V.int (lX g (gone g [] (toNats xs)):Int)]) eD;have bA:bY p H H5:=sC.but.trans b5;have HY:H r=none:=xX bA (by obtain ⟨_,_,_,_,e,_⟩:=iw;exact ⟨_,e⟩) eD;exact k _ r (bA.trans sD.but) HY (iw.same sD) aJ
  .rw[if_neg z]at k;refine jq (fun _=>?_) (fun y=>absurd ?_ y)
   .refine ⟨_,rfl,(by show 1<=cJ;decide),fun r eD=>?_⟩;have sB:=s1.trans (aC.nw (o:=.lst [V.int (refusal g [] xs)]) eD);exact k _ r sB.but (s1.free eD) (iE.same sB) aJ
   .rw[rh,decide_eq_false_iff_not];intro e;exact z (V.int.inj e)
end WD
open WK (uf j0 allOf gB HN)
namespace WD
def jg(l:List Bool):List V:=l.map V.bl
theorem Bm{l:List Bool}{n:Nat}(h:n<l.length):(jg l)[n]? =some (V.bl (uf l n)):=by
 unfold jg uf;rw[gp,lT,iN h];rfl
structure mx(t:fZ)(H0 H:Hp)(p:Addr)(g:bp)(x:Nat)(lf us:List Bool):Prop where
 ex:∃dx ag aL aU,H p=some (.ins t.cP dx (qj ag ((x+1:Nat):Int) aL aU))/\H aL=some (.lst (jg lf))/\H aU=some (.lst (jg us))/\aL≠aU/\H0 aL=none/\H0 aU=none/\H0 p=none/\i7 t H0 ag g
 same:aC H0 H
 ll:lf.length=(bh g).length
 lu:us.length=(bh g).length
theorem mx.keep{H0 H H':Hp}{p:Addr}{g:bp}{x:Nat}{lf us:List Bool}(h:mx t H0 H p g x lf us)(s:aC H H'):mx t H0 H' p g x lf us:=by
 obtain ⟨dx,ag,aL,aU,U,h2,h3,h4,h5,h6,h7,h8⟩:=h.ex;exact ⟨⟨dx,ag,aL,aU,s _ _ U,s _ _ h2,s _ _ h3,h4,h5,h6,h7,h8⟩,h.same.trans s,h.ll,h.lu⟩
def afa(t:fZ):Sp:=fun vs H Q _=>∃(p dx ag:Addr)(g:bp)(x:Nat),vs=[.ref p,.ref ag,.int (x:Int)]/\H p=some (.ins t.cP dx [])/\i7 t H ag g/\(bh g).length<=1000/\
 ∀H' aL aU,bY p H H'->H' p=some (.ins t.cP dx (qj ag ((x+1:Nat):Int) aL aU))->H aL=none->H aU=none->aL≠aU->H' aL=some (.lst (jg (j0 g x)))->H' aU=some (.lst (jg (oV (bh g).length false)))->Q .eM H'
theorem atH{f fo:Addr}{fd mV:dn}(F:eW K "__init__" "Parting.__init__" Hk f fd)(T:Txt K mg t)(co:eY P w K mg base bJ 1 "holder_of" fo mV uz vo):c8 P w K mg base bJ 2 f fd QX (afa t):=by
 refine F.ok Z0 (fun vs H Q E h=>?_) (fun c6 A outer s H vs Q E hr h=>?_)
 .obtain ⟨p,dx,ag,g,x,rfl,_⟩:=h;rfl
 .obtain ⟨p,dx,ag,g,x,rfl,hp,hg,nh,k⟩:=h;have nd:=Z0.nd;refine ⟨_,bF (mT (pv 0) (pv 1) rfl) (bF (mT (pv 0) (eB co.G hr rfl co.m co.kp co.b .nil di (ax (pv 2) aO)) rfl)
   (bF (mT (pv 0) (wm (own:=[("hold",3)]) rfl nd (l0 (cO (pv 1) rfl)) (sj (by show qQ QW (da Hk) _ _=true;decide +kernel))
    (fun s H C cl fp=>gG (i:=3) nd rfl (Or.inl rfl) (Or.inr rfl)) (fun s H C cl fp=>AB) (fun s H C cl fp=>Pc uu (wz (K:=K) (pv 3)) (wz (K:=K) (pv 0)) (mS _))) rfl)
   (cy (mT (pv 0) (wm (own:=[("hold",3)]) rfl nd (l0 (cO (pv 1) rfl)) (sj (by show qQ QW (da Hk) _ _=true;decide +kernel))
    (fun s H C cl fp=>gG (i:=3) nd rfl (Or.inl rfl) (Or.inr rfl)) (fun s H C cl fp=>AB) (fun s H C cl fp=>BW)) rfl)))),?_⟩
  try dsimp only[fQ,fS,fT,fV]
  obtain ⟨dg,aK,aS,aF,aR,aH,aE,pR,gP,_,_,_,_,pS,_⟩:=hg.ex;obtain ⟨jL,jU,kx⟩:=pS;have lh:=kx.length;have ngp:ag≠p:=HC gP hp (by show (7:Nat)≠0;decide);have M3:aH≠p:=oM jU hp;refine ⟨_,rfl,_,rfl,p,t.cP,dx,[],rfl,hp,T.jS,T.EB,(by decide),?_⟩;refine ⟨_,rfl,(x:Int),rfl,_,rfl,p,t.cP,dx,_,rfl,aJ,T.jS,T.Ly,(by show 1<1000;decide),?_⟩;rw[oz,an2,an3];have b1:bY p H (upd H p (.ins t.cP dx [("graph",.ref ag),("goal",.int ((x:Int)+1))])):=(bY.refl p H).upd;have tR:(upd H p (.ins t.cP dx [("graph",.ref ag),("goal",.int ((x:Int)+1))])) p=some (.ins t.cP dx [("graph",.ref ag),("goal",.int ((x:Int)+1))]):=aJ;generalize upd H p (.ins t.cP dx [("graph",.ref ag),("goal",.int ((x:Int)+1))])=H1 at b1 tR;have hh1:∀{c:Addr}{h:Hold},xU t H c h->xU t H1 c h:=fun {c h} ⟨d,q⟩=>⟨d,b1 _ _ q (HC q hp (by show (3:Nat)≠0;decide))⟩;have lkg:List.lookup ("goal":Str) [("graph",V.ref ag),("goal",V.int ((x:Int)+1))]=some (V.int ((x:Int)+1)):=by kernel_rfl
  refine ⟨_,rfl,b1 _ _ gP ngp,T.iT,T.pO,rH _ _ _ _ _ _ _,aH,rfl,⟨_,aD.of (b1 _ _ jU M3)⟩,fun D hD=>?_⟩;refine wo (K:=K) (a:=aH) (xs:=jL.map V.ref) (fun j H'=>aC H1 H'/\H' D=some (.lst (jg (((bh g).take j).map fun h=>bN h !=x+1)))) ⟨aC.nw hD,aJ⟩ (fun j H' _ ⟨s5,_⟩=>aD.of (s5 _ _ (b1 _ _ jU M3))) ?_ ?_
  .rintro j x' H' hx ⟨s5,iw⟩;obtain ⟨c,rK,rfl⟩:=pd hx;obtain ⟨h,xW,ha⟩:=lM kx rK;obtain ⟨d1,ho⟩:=hh1 ha;have hj:=(gq.mp xW).1;refine ⟨rfl,_,rfl,s5 _ _ ho,T.nP,T.xQ,yM _ _ _,_,rfl,s5 _ _ tR,T.jS,T.Ly,lkg,rfl,_,iw,?_,s5.own hD,?_⟩
   .unfold jg;rw[bt,bt,mB,eE];omega
   .rw[aJ,take_snoc xW];unfold jg;rw[iO,iO];have e:(!decide (V.int (bN h:Int)=V.int ((x:Int)+1)))=(bN h !=x+1):=by
     rw[n4];simp;omega
    show some (HO.lst (_++[V.bl (!decide (V.int (bN h:Int)=V.int ((x:Int)+1)))]))=some (HO.lst (_++[V.bl (bN h !=x+1)]));rw[e]
  rintro H2 ⟨s2,nv⟩;have eT:(bh g).take (jL.map V.ref).length=bh g:=by rw[bt,lh,jY]
  rw[eT]at nv;have oH:=s2 _ _ tR;have fD:H D=none:=xX b1 ⟨_,tR⟩ hD;refine ⟨_,rfl,p,t.cP,dx,_,rfl,oH,T.jS,T.Hw,(by show 2<1000;decide),?_⟩;rw[an4];have b3:bY p H2 (upd H2 p (.ins t.cP dx [("graph",.ref ag),("goal",.int ((x:Int)+1)),("left",.ref D)])):=(bY.refl p H2).upd;have qp:(upd H2 p (.ins t.cP dx [("graph",.ref ag),("goal",.int ((x:Int)+1)),("left",.ref D)])) p=some (.ins t.cP dx [("graph",.ref ag),("goal",.int ((x:Int)+1)),("left",.ref D)]):=aJ;generalize upd H2 p (.ins t.cP dx [("graph",.ref ag),("goal",.int ((x:Int)+1)),("left",.ref D)])=H3 at b3 qp;have A0:bY p H H3:=(b1.trans s2.but).trans b3;have nDp:D≠p:=fun z=>by rw[z,tR]at hD;cases hD
  have sP:=b3 _ _ nv nDp;refine ⟨_,rfl,A0 _ _ gP ngp,T.iT,T.pO,rH _ _ _ _ _ _ _,aH,rfl,⟨_,aD.of (A0 _ _ jU M3)⟩,fun D2 zK=>?_⟩;refine wo (K:=K) (a:=aH) (xs:=jL.map V.ref) (fun j H'=>aC H3 H'/\H' D2=some (.lst (jg (oV j false)))) ⟨aC.nw zK,aJ⟩ (fun j H' _ ⟨s5,_⟩=>aD.of (s5 _ _ (A0 _ _ jU M3))) ?_ ?_
  .rintro j x' H' hx ⟨s5,iw⟩;obtain ⟨c,rK,rfl⟩:=pd hx;have hj:=(gq.mp rK).1;refine ⟨rfl,_,iw,?_,s5.own zK,?_⟩
   .unfold jg;rw[bt,agZ,eE];omega
   .rw[aJ];unfold jg;rw[List.replicate_succ',iO];rfl
  rintro H4 ⟨s4,uD⟩;rw[bt,lh]at uD;have CG:=s4 _ _ qp;refine ⟨_,rfl,p,t.cP,dx,_,rfl,CG,T.jS,T.xS,(by show 3<1000;decide),?_⟩;rw[an5];have b5:bY p H4 (upd H4 p (.ins t.cP dx (qj ag ((x:Int)+1) D D2))):=(bY.refl p H4).upd;have atM:D2≠p:=fun z=>by rw[z,qp]at zK;cases zK
  have fD2:H D2=none:=xX A0 ⟨_,qp⟩ zK;have nDD:D≠D2:=dw sP zK;have ex:((x:Int)+1)=((x+1:Nat):Int):=by omega
  refine k _ D D2 ((A0.trans s4.but).trans b5) ?_ fD fD2 nDD (b5 _ _ (s4 _ _ sP) nDp) (b5 _ _ uD atM);rw[<-ex];exact aJ
end WD
open Vasnpb (Step isFound)
namespace WD
def IH(us:List Bool)(n:Nat)(h:Hold):Nat:=if uf us n then dD h else bN h
def nX(us:List Bool)(n:Nat)(h:Hold):Nat:=if uf us n then bN h else dD h
def M4(t:fZ)(e:List Bool->Nat->Hold->Nat):Sp:=fun vs H Q _=>∃(p:Addr)(H0:Hp)(g:bp)(x n:Nat)(lf us:List Bool)(h:Hold),vs=[.ref p,.int (n:Int)]/\mx t H0 H p g x lf us/\(bh g)[n]? =some h/\Q (.int (e us n h:Int)) H
theorem atO{f fo:Addr}{fd mV:dn}(F:eW K "near_end" "Parting.near_end" Q2 f fd)(T:Txt K mg t)(co:eY P w K mg base bJ 1 "holder_of" fo mV uz vo):c8 P w K mg base bJ 2 f fd Q3 (M4 t IH):=by
 refine F.ok Z4 (fun vs H Q E h=>?_) (fun c6 A outer s H vs Q E hr h=>?_)
 .obtain ⟨p,H0,g,x,n,lf,us,h,rfl,_⟩:=h;rfl
 .obtain ⟨p,H0,g,x,n,lf,us,h,rfl,hP,hh,k⟩:=h;have nd:=Z4.nd;refine ⟨_,bF (dB (i:=2) nd rfl (Or.inl rfl) (gj ia (cO (cO (pv 0) rfl) rfl) (pv 1) (fun _ _=>rfl)))
   (cy (eN (Ka (tF (gj ia (cO (pv 0) rfl) (pv 1) (fun _ _=>rfl))) (eB co.G hr rfl co.m co.kp co.b .nil di (ax (cO (pv 2) rfl) aO)) (cO (pv 2) rfl)))),?_⟩
  try dsimp only[fQ,fS,fT,fV]
  obtain ⟨dx,ag,aL,aU,U,h2,h3,h4,h5,h6,h7,hg⟩:=hP.ex;obtain ⟨dg,aK,aS,aF,aR,aH,aE,pR,gP,_,_,_,_,pS,_⟩:=(hg.same hP.same).ex;obtain ⟨jL,jU,kx⟩:=pS;obtain ⟨c,hc,dh,oR⟩:=uB kx hh;have hn:=(gq.mp hh).1;have lu:=hP.lu;refine ⟨_,rfl,U,T.jS,T.EB,Hn _ _ _ _,gP,T.iT,T.pO,rH _ _ _ _ _ _ _,_,rfl,aH,_,_,_,rfl,rfl,aD.of jU,at_of (j:=n) rfl (by rw[gp,hc];rfl),?_⟩;refine ⟨_,rfl,U,T.jS,T.xS,yO _ _ _ _,_,rfl,aU,_,_,_,rfl,rfl,aD.of h3,at_of (j:=n) rfl (Bm (by omega)),_,rfl,?_⟩;unfold IH at k;cases e:uf us n with
  |true=>
   rw[e,if_pos rfl]at k;refine xK ⟨_,rfl,oR,T.nP,T.xR,yN _ _ _,_,rfl,?_⟩;exact k
  |false=>
   rw[e,if_neg jt]at k;exact wq ⟨_,rfl,oR,T.nP,T.xQ,yM _ _ _,k⟩
theorem atP{f fo:Addr}{fd mV:dn}(F:eW K "far_end" "Parting.far_end" Q4 f fd)(T:Txt K mg t)(co:eY P w K mg base bJ 1 "holder_of" fo mV uz vo):c8 P w K mg base bJ 2 f fd Q5 (M4 t nX):=by
 refine F.ok Z5 (fun vs H Q E h=>?_) (fun c6 A outer s H vs Q E hr h=>?_)
 .obtain ⟨p,H0,g,x,n,lf,us,h,rfl,_⟩:=h;rfl
 .obtain ⟨p,H0,g,x,n,lf,us,h,rfl,hP,hh,k⟩:=h;have nd:=Z5.nd;refine ⟨_,bF (dB (i:=2) nd rfl (Or.inl rfl) (gj ia (cO (cO (pv 0) rfl) rfl) (pv 1) (fun _ _=>rfl)))
   (cy (eN (Ka (tF (gj ia (cO (pv 0) rfl) (pv 1) (fun _ _=>rfl))) (cO (pv 2) rfl) (eB co.G hr rfl co.m co.kp co.b .nil di (ax (cO (pv 2) rfl) aO))))),?_⟩
  try dsimp only[fQ,fS,fT,fV]
  obtain ⟨dx,ag,aL,aU,U,h2,h3,h4,h5,h6,h7,hg⟩:=hP.ex;obtain ⟨dg,aK,aS,aF,aR,aH,aE,pR,gP,_,_,_,_,pS,_⟩:=(hg.same hP.same).ex;obtain ⟨jL,jU,kx⟩:=pS;obtain ⟨c,hc,dh,oR⟩:=uB kx hh;have hn:=(gq.mp hh).1;have lu:=hP.lu;refine ⟨_,rfl,U,T.jS,T.EB,Hn _ _ _ _,gP,T.iT,T.pO,rH _ _ _ _ _ _ _,_,rfl,aH,_,_,_,rfl,rfl,aD.of jU,at_of (j:=n) rfl (by rw[gp,hc];rfl),?_⟩;refine ⟨_,rfl,U,T.jS,T.xS,yO _ _ _ _,_,rfl,aU,_,_,_,rfl,rfl,aD.of h3,at_of (j:=n) rfl (Bm (by omega)),_,rfl,?_⟩;unfold nX at k;cases e:uf us n with
  |true=>
   rw[e,if_pos rfl]at k;exact xK ⟨_,rfl,oR,T.nP,T.xQ,yM _ _ _,k⟩
  |false=>
   rw[e,if_neg jt]at k;refine wq ⟨_,rfl,oR,T.nP,T.xR,yN _ _ _,_,rfl,?_⟩;exact k
def sX(g:bp)(lf us:List Bool)(q:Nat):List Nat:=(numsOf (bh g) q).filter (fun n=>uf lf n&&!uf us n)++(placesOf ((bh g).map dD) q).filter (fun n=>uf us n)
theorem II{es:List Nat}{q n:Nat}:n∈placesOf es q↔es[n]? =some q:=by
 unfold placesOf;rw[js];constructor
 .rintro ⟨⟨e,i⟩,hf,rfl⟩;obtain ⟨U,h2⟩:=gT.mp hf;have:=pz.mp U;have h2:e=q:=by simpa using h2
  subst h2;exact this
 .intro h;exact ⟨(q,n),gT.mpr ⟨pz.mpr h,by simp⟩,rfl⟩
theorem UE{g:bp}{lf us:List Bool}(hw:WK.Within us lf){q n:Nat}:n∈sX g lf us q↔∃h,(h,n)∈gB g lf/\((uf us n=false/\bN h=q)∨(uf us n=true/\dD h=q)):=by
 unfold sX;rw[kN,gT,gT,LJ,II,II,gp,gp];constructor
 .rintro (⟨U,h2⟩|⟨U,h2⟩)
  .cases e:(bh g)[n]? with
   |none=>rw[e]at U;cases U
   |some h=>
    rw[e]at U;rw[jN]at h2;exact ⟨h,gT.mpr ⟨WK.tu.mpr e,h2.1⟩,.inl ⟨by simpa using h2.2,gE U⟩⟩
  .cases e:(bh g)[n]? with
   |none=>rw[e]at U;cases U
   |some h=>
    rw[e]at U;exact ⟨h,gT.mpr ⟨WK.tu.mpr e,hw _ h2⟩,.inr ⟨h2,gE U⟩⟩
 .rintro ⟨h,hm,hh⟩;obtain ⟨m1,m2⟩:=gT.mp hm;have e:(bh g)[n]? =some h:=WK.tu.mp m1;have m2:uf lf n=true:=m2;rw[e];rcases hh with ⟨a,b⟩|⟨a,b⟩
  .exact .inl ⟨by rw[<-b];rfl,by rw[m2,a];rfl⟩
  .exact .inr ⟨by rw[<-b];rfl,a⟩
theorem atQ(g:bp)(lf us:List Bool)(q:Nat):(sX g lf us q).length<=2*(bh g).length:=by
 unfold sX;rw[gR];have U:=mL (fun n=>uf lf n&&!uf us n) (numsOf (bh g) q);have h2:=mL (fun n=>uf us n) (placesOf ((bh g).map dD) q);have h3:=numsOf_len (bh g) q;have h4:=R3 ((bh g).map dD) q;rw[bt]at h4;omega
def afe(t:fZ):Sp:=fun vs H Q _=>∃(p:Addr)(H0:Hp)(g:bp)(x q:Nat)(lf us:List Bool),vs=[.ref p,.int (q:Int)]/\mx t H0 H p g x lf us/\q<g.objs.length+1/\(bh g).length<=1000/\
 ∀H' r,aC H H'->H r=none->H' r=some (.lst (nats (sX g lf us q)))->Q (.ref r) H'
theorem atR{f:Addr}{fd:dn}(F:eW K "steps_from" "Parting.steps_from" Hl f fd)(T:Txt K mg t):c8 P w K mg base bJ 1 f fd Q1 (afe t):=by
 refine F.ok Z3 (fun vs H Q E h=>?_) (fun c6 A outer s H vs Q E hr h=>?_)
 .obtain ⟨p,H0,g,x,q,lf,us,rfl,_⟩:=h;rfl
 .obtain ⟨p,H0,g,x,q,lf,us,rfl,hP,hq,nh,k⟩:=h;have nd:=Z3.nd;refine ⟨_,bF (KH (i:=2) (own:=[("number",4)]) rfl nd rfl rfl (KI rfl rfl rfl (by decide +kernel)) (l0 (gj ia (cO (cO (pv 0) rfl) rfl) (pv 1) (fun _ _=>rfl))) (sj (by show qQ Q0 (da Hl) _ _=true;decide +kernel))
    (fun s H C cl fp=>gG (i:=4) nd rfl (Or.inl rfl) (Or.inr rfl)) (fun s H C cl fp=>Cd (PW.pt (XD (tF (gj (Hq (K:=K)) (wz (K:=K) (pv 0)) (pv 4) (fun _ _=>rfl))) (XC (DW (tF (gj (Hq (K:=K)) (wz (K:=K) (pv 0)) (pv 4) (fun _ _=>rfl)))))))) (fun s H C cl fp=>pv 4))
   (bF (KH (i:=3) (own:=[("number",4)]) rfl nd rfl rfl (KI rfl rfl rfl (by decide +kernel)) (l0 (gj ia (cO (cO (pv 0) rfl) rfl) (pv 1) (fun _ _=>rfl))) (sj (by show qQ Q0 (da Hl) _ _=true;decide +kernel))
    (fun s H C cl fp=>gG (i:=4) nd rfl (Or.inl rfl) (Or.inr rfl)) (fun s H C cl fp=>Cd (tF (gj (Hq (K:=K)) (wz (K:=K) (pv 0)) (pv 4) (fun _ _=>rfl)))) (fun s H C cl fp=>pv 4))
   (cy (eN (o6 ve (pv 2) (pv 3))))),?_⟩
  try dsimp only[fQ,fS,fT,fV]
  obtain ⟨dx,ag,aL,aU,U,h2,h3,h4,h5,h6,h7,hg⟩:=hP.ex;obtain ⟨dg,aK,aS,aF,aR,aH,aE,pR,gP,_,_,_,_,_,UG,hLd⟩:=(hg.same hP.same).ex;obtain ⟨UH,EZ,CN⟩:=UG;obtain ⟨M0,hLl,hLp⟩:=hLd;have lu:=hP.lu;have ll:=hP.ll;have KQ:(heldOf (bh g) (g.objs.length+1))[q]? =some (numsOf (bh g) q):=by
   unfold heldOf;rw[gp,BC hq];rfl
  have IJ:(LK (bh g) (g.objs.length+1))[q]? =some (placesOf ((bh g).map dD) q):=by
   unfold LK yZ;rw[gp,BC hq];rfl
  obtain ⟨eb,UI,M5⟩:=uB CN KQ;obtain ⟨lb,AZ,qv⟩:=uB hLp IJ;have M5:H eb=some (.lst (nats (numsOf (bh g) q))):=M5;have qv:H lb=some (.lst (nats (placesOf ((bh g).map dD) q))):=qv;have n1:=numsOf_len (bh g) q;have n2:=R3 ((bh g).map dD) q;rw[bt]at n2;refine ⟨_,rfl,U,T.jS,T.EB,Hn _ _ _ _,gP,T.iT,T.Lx,RI _ _ _ _ _ _ _,_,rfl,aE,_,_,_,rfl,rfl,aD.of EZ,at_of (j:=q) (v:=V.ref eb) rfl (by rw[gp,UI];rfl),eb,rfl,⟨_,aD.of M5⟩,fun D hD=>?_⟩;refine wo (K:=K) (a:=eb) (xs:=nats (numsOf (bh g) q)) (fun j H'=>aC H H'/\H' D=some (.lst (nats (((numsOf (bh g) q).take j).filter fun n=>uf lf n&&!uf us n)))) ⟨aC.nw hD,aJ⟩ (fun j H' _ ⟨s5,_⟩=>aD.of (s5 _ _ M5)) ?_ ?_
  .rintro j v H' hx ⟨s5,iw⟩;obtain ⟨n,hn,rfl⟩:=nQ hx;have hm:=iy hn;rw[LJ,II]at hm;have rf:n<(bh g).length:=by have:=(gq.mp hm).1;simpa using this
   have E8:=(gq.mp hn).1;refine ⟨rfl,_,rfl,s5 _ _ U,T.jS,T.Hw,Ll _ _ _ _,_,rfl,aL,_,_,_,rfl,rfl,aD.of (s5 _ _ h2),at_of (j:=n) rfl (Bm (by omega)),_,rfl,?_⟩;have fin:∀b,b=(uf lf n&&!uf us n)->if b=true then J7 (([some (V.ref p),some (V.int (q:Int)),none,none,some (V.int (n:Int))]:L2.St)[4]?) (fun v H'=>∃acc,H' D=some (.lst acc)/\acc.length<cJ/\(aC H (upd H' D (.lst (acc++[v])))/\(upd H' D (.lst (acc++[v]))) D=some (.lst (nats (((numsOf (bh g) q).take (j+1)).filter fun n=>uf lf n&&!uf us n))))) H' else aC H H'/\H' D=some (.lst (nats (((numsOf (bh g) q).take (j+1)).filter fun n=>uf lf n&&!uf us n))):=by
    intro b hb;rw[take_snoc hn,vJ,kO,<-hb];cases b with
    |true=>
     refine xK ⟨_,rfl,_,iw,?_,s5.own hD,?_⟩
     .have:=mL (fun n=>uf lf n&&!uf us n) ((numsOf (bh g) q).take j);rw[mB]at this;unfold nats;rw[bt,eE];omega
     .rw[aJ,if_pos rfl];unfold nats;rw[iO];rfl
    |false=>
     refine wq ⟨s5,?_⟩;rw[if_neg jt]
     simpa using iw
   cases e:uf lf n with
   |true=>
    refine xK ⟨_,rfl,s5 _ _ U,T.jS,T.xS,yO _ _ _ _,_,rfl,aU,_,_,_,rfl,rfl,aD.of (s5 _ _ h3),at_of (j:=n) rfl (Bm (by omega)),_,rfl,?_⟩;exact fin (!uf us n) (by rw[e];rfl)
   |false=>
    refine wq ?_;exact fin false (by rw[e];rfl)
  rintro H1 ⟨s1,x9⟩;have eT:(numsOf (bh g) q).take (nats (numsOf (bh g) q)).length=numsOf (bh g) q:=by unfold nats;rw[bt,jY]
  rw[eT]at x9;refine ⟨_,rfl,s1 _ _ U,T.jS,T.EB,Hn _ _ _ _,s1 _ _ gP,T.iT,T.abm,anW _ _ _ _ _ _ _,_,rfl,pR,_,_,_,rfl,rfl,aD.of (s1 _ _ hLl),at_of (j:=q) (v:=V.ref lb) rfl (by rw[gp,AZ];rfl),lb,rfl,⟨_,aD.of (s1 _ _ qv)⟩,fun D2 nv=>?_⟩;have fD2:H D2=none:=s1.free nv;refine wo (K:=K) (a:=lb) (xs:=nats (placesOf ((bh g).map dD) q)) (fun j H'=>aC H1 H'/\H' D2=some (.lst (nats (((placesOf ((bh g).map dD) q).take j).filter fun n=>uf us n)))) ⟨aC.nw nv,aJ⟩ (fun j H' _ ⟨s5,_⟩=>aD.of (s5 _ _ (s1 _ _ qv))) ?_ ?_
  .rintro j v H' hx ⟨s5,iw⟩;obtain ⟨n,hn,rfl⟩:=nQ hx;have hm:=iy hn;rw[II]at hm;have rf:n<(bh g).length:=by have:=(gq.mp hm).1;simpa using this
   have E8:=(gq.mp hn).1;refine ⟨rfl,_,rfl,s5 _ _ (s1 _ _ U),T.jS,T.xS,yO _ _ _ _,_,rfl,aU,_,_,_,rfl,rfl,aD.of (s5 _ _ (s1 _ _ h3)),at_of (j:=n) rfl (Bm (by omega)),_,rfl,?_⟩;rw[take_snoc hn,vJ,kO];cases e:uf us n with
   |true=>
    refine xK ⟨_,rfl,_,iw,?_,s5.own nv,?_⟩
    .have:=mL (fun n=>uf us n) ((placesOf ((bh g).map dD) q).take j);rw[mB]at this;unfold nats;rw[bt,eE];omega
    .rw[aJ,if_pos rfl];unfold nats;rw[iO];rfl
   |false=>
    refine wq ⟨s5,?_⟩;rw[if_neg jt]
    simpa using iw
  rintro H2 ⟨s2,zK⟩;have eT2:(placesOf ((bh g).map dD) q).take (nats (placesOf ((bh g).map dD) q)).length=placesOf ((bh g).map dD) q:=by unfold nats;rw[bt,jY]
  rw[eT2]at zK;have sl:=atQ g lf us q;unfold sX at sl;rw[gR]at sl;refine ⟨_,rfl,_,rfl,D,D2,_,_,rfl,rfl,s2 _ _ x9,zK,?_,fun r eD=>?_⟩
  .unfold nats;rw[bt,bt,eE];omega
  .have qZ:=s1.trans s2;refine k _ r (qZ.new eD) (qZ.free eD) ?_;rw[aJ];unfold sX nats;rw[iO]
end WD
open WK (Tree qF Ae Within)
namespace WD
def Dh(s:Vasnpb.Step):V:=if s.before=s.place then .eM else .int (s.hold:Int)
def stK(l:List Vasnpb.Step):List (Key×V):=l.map fun s=>(Sum.inl (s.place:Int),Dh s)
theorem UJ:∀(l:List Vasnpb.Step)(q:Nat),hJ (stK l) (Sum.inl (q:Int))=(l.find? fun s=>s.place==q).map Dh
 | [],q=>rfl
 |s::l,q=>by
  have ih:=UJ l q;by_cases e:s.place=q
  .rw[t9,show (s.place==q)=true by simpa using e];simp[stK,hJ,e]
  .rw[t9,show (s.place==q)=false by simpa using e,<-ih];have ne:¬((Sum.inl (s.place:Int):Key)=Sum.inl (q:Int)):=fun z=>e (by have:=zP z;omega);simp[stK,hJ,t9,ne]
theorem IK(l:List Vasnpb.Step)(q:Nat):(hJ (stK l) (Sum.inl (q:Int))).isSome=dY l q:=by
 rw[UJ,N4];unfold dY;rw[n4,List.find?_isSome];simp
theorem atY{l:List Vasnpb.Step}{e p n:Nat}{fw:Bool}(h:dY l e=false)(ne:p≠e):putK (stK l) (Sum.inl (e:Int)) (V.int (n:Int))=stK (l++[{place:=e,before:=p,hold:=n,forth:=fw}]):=by
 have hv:hJ (stK l) (Sum.inl (e:Int))=none:=by
  have:=IK l e;rw[h]at this
  simpa using this
 rw[KJ _ hv];unfold stK;rw[iO];have:Dh {place:=e,before:=p,hold:=n,forth:=fw}=V.int (n:Int):=by
  unfold Dh;rw[if_neg ne]
 rw[jx,this];rfl
theorem Fx{l r:List Vasnpb.Step}{q:Nat}(h:dY l q=true):dY (l++r) q=true:=by rw[WK.BK,h];rfl
theorem Ae.mono{hs:List HN}{u:Nat->Bool}{l m r:List Vasnpb.Step}{a:Nat}(k:Ae hs u l m a):Ae hs u l (m++r) a:=fun i s hi lq h hh=>⟨fun U h2=>Fx ((k i s hi lq h hh).1 U h2),fun U h2=>Fx ((k i s hi lq h hh).2 U h2)⟩
structure M6(g:bp)(lf us:List Bool):Prop where
 ok:iF g
 nh:(bh g).length<=1000
 no:g.objs.length<=48
 nY:Within us lf
def UK(t:fZ):Sp:=fun vs H Q _=>∃(p:Addr)(H0:Hp)(g:bp)(x st:Nat)(lf us:List Bool),vs=[.ref p,.int (st:Int)]/\mx t H0 H p g x lf us/\M6 g lf us/\st<g.objs.length+1/\
 ∀H' d l,aC H H'->H d=none->H' d=some (.dK (stK l))->Tree (gB g lf) (uf us) st l->qF (gB g lf) (uf us) (fun q=>dY l q=true)->Q (.ref d) H'
theorem atZ{f fs fe:Addr}{fd zq wH:dn}(F:eW K "search" "Parting.search" QZ f fd)(T:Txt K mg t)(cs:pP P w K mg base bJ 1 t.cP "steps_from" fs zq Q1 (afe t))(ce:pP P w K mg base bJ 2 t.cP "far_end" fe wH Q5 (M4 t nX)):c8 P w K mg base bJ 3 f fd Le (UK t):=by
 refine F.ok Z2 (fun vs H Q E h=>?_) (fun c6 A outer s H vs Q E hr h=>?_)
 .obtain ⟨p,H0,g,x,st,lf,us,rfl,_⟩:=h;rfl
 .obtain ⟨p,H0,g,x,st,lf,us,rfl,hP,mZ,oC,k⟩:=h;have nd:=Z2.nd;have hu:=vk hr;have ig:dQ 1 _:=hr.mono (by decide);refine ⟨_,bF (dB (i:=2) nd rfl (Or.inl rfl) (ame (amc (pv 1) ajj amb) rfl rfl (by simp) (by decide)))
   (bF (dB (i:=3) nd rfl (Or.inl rfl) (dG (ax (pv 1) aO)))
   (bF (dB (i:=4) nd rfl (Or.inl rfl) gg)
   (bF (BY jW (ng Km (pv 4) (jR l7 (by rfl) T.len lW (ax (pv 3) aO)) (mS _))
    (bF (dB (i:=5) nd rfl (Or.inl rfl) (uw (pv 0) T.jS cs.mt cs.G ig cs.b .nil di (ax (gj ia (pv 3) (pv 4) (fun _ _=>rfl)) aO)))
    (bF (kW jW rfl (l0 (pv 5)) (gG (i:=6) nd rfl (Or.inl rfl))
     (bF (dB (i:=7) nd rfl (Or.inl rfl) (uw (pv 0) T.jS ce.mt ce.G hr ce.b .nil di (ax (pv 6) aO)))
     (cy (mQ (vV (Cg hu (pv 7) (pv 2)) (by with_unfolding_all rfl))
      (bF (El hu (pv 2) (pv 7) (pv 6) rfl) (cy (jv (j8 jX n6 n8 nM (pv 3) (ax (pv 7) aO))))) mP))))
    (cy (XN (i:=4) nd rfl (Or.inl rfl) gg XO)))))
   (cy (eN (pv 2)))))),?_⟩
  try dsimp only[fQ,fS,fT,fV]
  have env:=WK.OK mZ.ok lf;intro d hd;refine ⟨_,rfl,aJ,[(Sum.inl (st:Int),.eM)],rfl,(by show 1<=15;decide),?_⟩;rw[oz];have ek:Em [] [((Sum.inl (st:Int):Key),(V.eM:V))]=stK [WK.first st]:=by
   show putK [] (Sum.inl (st:Int)) V.eM=_;rw[KJ _ rfl];unfold stK Dh WK.first;simp
  rw[ek];have s0:=aC.nw (o:=.dK (stK [WK.first st])) hd;refine ⟨_,rfl,(by show 1<=cJ;decide),fun wa pk=>?_⟩;have s1:=aC.nw (o:=.lst [V.int (st:Int)]) pk;have L7:d≠wa:=dw aJ pk;have UL:H wa=none:=s0.free pk;obtain ⟨dx,ag,aL,aU,U,_⟩:=hP.ex;have IL:∀{m:Str}(z0:¬m="graph")(z1:¬m="goal")(z2:¬m="left")(z3:¬m="used"),(qj ag ((x+1:Nat):Int) aL aU).lookup m=none:=fun z0 z1 z2 z3=>Cs _ _ _ _ z0 z1 z2 z3;refine ⟨fun m σ H'=>∃(a:Nat)(l:List Vasnpb.Step)(v5 v6 v7:Option V),σ=[some (.ref p),some (.int (st:Int)),some (.ref d),some (.ref wa),some (.int (a:Int)),v5,v6,v7]/\aC H H'/\H' d=some (.dK (stK l))/\H' wa=some (.lst (nats (l.map (·.place))))/\
    Tree (gB g lf) (uf us) st l/\Ae (gB g lf) (uf us) l l a/\a<=l.length/\m=g.objs.length+2-a,
   ⟨_,0,[WK.first st],none,none,none,rfl,s0.trans s1,s1 _ _ aJ,aJ,.one,fun i s hi=>absurd hi (Nat.not_lt_zero _),dU _,rfl⟩,?_⟩
  rintro m σ H' ⟨a,l,v5,v6,v7,rfl,s2,hd2,Bn,tr,lo,hal,rfl⟩;have ln:(nats (l.map (·.place))).length=l.length:=by unfold nats;rw[bt,bt]
  have tl:=tr.len env oC;refine ⟨_,rfl,_,rfl,wa,_,rfl,.inl (aD.of Bn),_,_,rfl,rfl,_,rfl,?_⟩;rw[ln];refine jq (fun z=>?_) (fun z=>?_)
  .have eU:a<l.length:=by
    have:=of_decide_eq_true z;omega
   have hla:l[a]? =some l[a]:=iN eU;have l6:(l[a]).place<g.objs.length+1:=tr.lt env oC _ (Dt (Bw eU));refine ⟨fun cV iJ=>∃(l':List Vasnpb.Step)(v5 v6 v7:Option V),cV=[some (.ref p),some (.int (st:Int)),some (.ref d),some (.ref wa),some (.int ((a+1:Nat):Int)),v5,v6,v7]/\aC H iJ/\iJ d=some (.dK (stK l'))/\iJ wa=some (.lst (nats (l'.map (·.place))))/\
     Tree (gB g lf) (uf us) st l'/\Ae (gB g lf) (uf us) l' l' (a+1)/\a+1<=l'.length,?_,?_⟩
   .rintro cV iJ ⟨l',v5,v6,v7,e1,e2,e3,e4,e5,e6,e7⟩;exact ⟨g.objs.length+2-(a+1),by omega,a+1,l',v5,v6,v7,e1,e2,e3,e4,e5,e6,e7,rfl⟩
   have lP:=hP.keep s2;refine ⟨_,rfl,p,dx,_,rfl,s2 _ _ U,IL (by decide +kernel) (by decide +kernel) (by decide +kernel) (by decide +kernel),_,rfl,_,rfl,wa,_,_,_,rfl,rfl,aD.of Bn,at_of (j:=a) (v:=V.int ((l[a]).place:Int)) rfl (by unfold nats;rw[gp,gp,hla];rfl),p,H0,g,x,(l[a]).place,lf,us,rfl,lP,l6,mZ.nh,?_⟩;intro H3 r s3 tQ vz;have s23:=s2.trans s3;have frr:H r=none:=s2.free tQ;have nrd:r≠d:=fun z=>(dw hd2 tQ) z.symm;have nrw:r≠wa:=fun z=>(dw Bn tQ) z.symm;refine ⟨_,rfl,r,rfl,⟨_,aD.of vz⟩,qK (K:=K) (a:=r) (xs:=nats (sX g lf us (l[a]).place)) (fun j σ H'=>∃(l' r':List Vasnpb.Step)(v6 v7:Option V),σ=[some (.ref p),some (.int (st:Int)),some (.ref d),some (.ref wa),some (.int (a:Int)),some (.ref r),v6,v7]/\aC H H'/\H' r=some (.lst (nats (sX g lf us (l[a]).place)))/\H' d=some (.dK (stK l'))/\
     H' wa=some (.lst (nats (l'.map (·.place))))/\Tree (gB g lf) (uf us) st l'/\l'=l++r'/\∀n∈(sX g lf us (l[a]).place).take j,∀h,(bh g)[n]? =some h->dY l' (nX us n h)=true)
    ⟨l,[],v6,v7,rfl,s23,vz,s3 _ _ hd2,s3 _ _ Bn,tr,by simp,by simp⟩ (fun j σ H' _ ⟨_,_,_,_,_,_,z,_⟩=>aD.of z) ?_ ?_⟩
   .rintro j v σ H4 hx ⟨l',r',v6,v7,rfl,s4,rg,IM,M7,IP,el,fo⟩;obtain ⟨n,hn,rfl⟩:=nQ hx;obtain ⟨h,hh,L6⟩:=(UE mZ.nY).mp (iy hn);have rS:(bh g)[n]? =some h:=WK.tu.mp (gT.mp hh).1;have tl4:=IP.len env oC;refine ⟨_,rfl,p,dx,_,rfl,s4 _ _ U,IL (by decide +kernel) (by decide +kernel) (by decide +kernel) (by decide +kernel),_,rfl,p,H0,g,x,n,lf,us,h,rfl,hP.keep s4,rS,?_⟩;refine ⟨_,rfl,_,rfl,d,_,rfl,lL.k (k:=Sum.inl (nX us n h:Int)) IM,_,rfl,?_⟩;rw[IK];have eo:∀(m:Nat)(k:Hold)(l2:List Vasnpb.Step),(∀n∈(sX g lf us (l[a]).place).take j,∀h,(bh g)[n]? =some h->dY l2 (nX us n h)=true)->dY l2 (nX us n h)=true->m∈(sX g lf us (l[a]).place).take (j+1)->(bh g)[m]? =some k->dY l2 (nX us m k)=true:=by
     intro m k' l2 q1 q2 q3 q4;rw[take_snoc hn]at q3;rcases kN.mp q3 with y|y
     .exact q1 m y k' q4
     .simp at y;subst y;rw[rS]at q4;cases q4;exact q2
    refine jq (fun z2=>?_) (fun z2=>?_)
    .have UM:dY l' (nX us n h)=false:=by simpa using z2
     have UN:dY l' (l[a]).place=true:=by
      rw[el];exact Fx (WK.yw.mpr ⟨l[a],Bw eU,rfl⟩)
     have at4:(uf us n=false/\bN h=(l[a]).place/\dD h=nX us n h)∨(uf us n=true/\dD h=(l[a]).place/\bN h=nX us n h):=by
      rcases L6 with ⟨a1,a2⟩|⟨a1,a2⟩
      .exact .inl ⟨a1,a2,by unfold nX;rw[a1];rfl⟩
      .exact .inr ⟨a1,a2,by unfold nX;rw[a1];rfl⟩
     have tr5:=IP.add (p:=(l[a]).place) UN hh at4 UM;have nep:(l[a]).place≠nX us n h:=fun y=>by
      rw[y,UM]at UN;cases UN
     have lk4:(stK l').length<cJ:=by
      have:=mZ.no;unfold stK;rw[bt,eE];omega
     refine ⟨_,rfl,_,rfl,_,rfl,d,_,rfl,vi.k (k:=Sum.inl (nX us n h:Int)) IM lk4,?_⟩;rw[atY (fw:=!uf us n) UM nep];have hw5:(upd H4 d (.dK (stK (l'++[{place:=nX us n h,before:=(l[a]).place,hold:=n,forth:=!uf us n}])))) wa=some (.lst (nats (l'.map (·.place)))):=by rw[bC L7.symm];exact M7
     refine ⟨_,rfl,.inl ⟨rfl,_,aD.of hw5⟩,_,rfl,wa,_,_,rfl,rfl,hw5,?_,?_⟩
     .have:=mZ.no;unfold nats;rw[bt,bt,eE];omega
     .refine ⟨l'++[{place:=nX us n h,before:=(l[a]).place,hold:=n,forth:=!uf us n}],r'++[{place:=nX us n h,before:=(l[a]).place,hold:=n,forth:=!uf us n}],_,_,rfl,(s4.own hd).own UL,by rw[bC nrw,bC nrd];exact rg,by rw[bC L7,aJ],?_,tr5,by rw[el];simp,?_⟩
      .rw[aJ,iO];unfold nats;rw[iO];rfl
      .intro m hm k' pJ;refine eo m k' _ (fun n' DV h' hh'=>Fx (fo n' DV h' hh')) ?_ hm pJ;rw[WK.BK];have:dY [{place:=nX us n h,before:=(l[a]).place,hold:=n,forth:=!uf us n}] (nX us n h)=true:=by simp[dY]
       rw[this,Bool.or_true]
    .have hf:dY l' (nX us n h)=true:=by simpa using z2
     refine ⟨l',r',_,_,rfl,s4,rg,IM,M7,IP,el,?_⟩;intro m hm k' pJ;exact eo m k' _ fo hf hm pJ
   .rintro σ H4 ⟨l',r',v6,v7,rfl,s4,rg,IM,M7,IP,el,fo⟩;have eT:(sX g lf us (l[a]).place).take (nats (sX g lf us (l[a]).place)).length=sX g lf us (l[a]).place:=by unfold nats;rw[bt,jY]
    rw[eT]at fo;refine ⟨_,rfl,_,_,rfl,rfl,l',_,_,_,rfl,s4,IM,M7,IP,?_,by rw[el,gR];omega⟩;intro i s' hi lq h hh;by_cases e:i<a
    .have yF:l[i]? =some s':=by
      rw[el,By (by omega)]at lq;exact lq
     have:=lo i s' e yF h hh;rw[el];exact ⟨fun q1 q2=>Fx (this.1 q1 q2),fun q1 q2=>Fx (this.2 q1 q2)⟩
    .have ei:i=a:=by omega
     subst ei;have yF:s'=l[i]:=by
      rw[el,By (by omega),hla]at lq;exact (gE lq).symm
     subst yF;have rS:(bh g)[h.2]? =some h.1:=WK.tu.mp (gT.mp hh).1;refine ⟨fun q1 q2=>?_,fun q1 q2=>?_⟩
     .have:=fo h.2 ((UE mZ.nY).mpr ⟨h.1,hh,.inl ⟨q1,q2⟩⟩) h.1 rS;unfold nX at this;rw[q1]at this;exact this
     .have:=fo h.2 ((UE mZ.nY).mpr ⟨h.1,hh,.inr ⟨q1,q2⟩⟩) h.1 rS;unfold nX at this;rw[q1]at this;exact this
  .have Hs:a=l.length:=by
    have:¬(a:Int)<(l.length:Int):=fun y=>z (decide_eq_true y);omega
   subst Hs;exact ⟨_,rfl,k H' d l s2 hd hd2 tr lo.closed⟩
end WD
open WK (Res D iQ)
namespace WD
theorem at9{l:List Vasnpb.Step}(nd:(l.map (·.place)).Nodup){s:Vasnpb.Step}(hs:s∈l):l.find? (fun s'=>s'.place==s.place)=some s:=by
 induction l with
 |nil=>cases hs
 |cons a l ih=>
  rw[jx,t8]at nd;rw[t9];rcases f6.mp hs with z|z
  .subst z;simp
  .have ne:a.place≠s.place:=fun y=>nd.1 (by rw[y];exact Dt z);rw[show (a.place==s.place)=false by simpa using ne];exact ih nd.2 z
theorem IQ(l:List Bool)(n:Nat)(b:Bool):(jg l).set n (V.bl b)=jg (l.set n b):=by unfold jg;rw[List.map_set]
theorem IS{n:Nat}{i:Nat}(h:i<n):xE n (i:Int)=some i:=by
 unfold xE;rw[if_pos (by omega),if_pos (by omega)];simp
theorem mx.UO{H0 H:Hp}{p dx ag aL aU:Addr}{g:bp}{x:Nat}{lf us us':List Bool}(h:mx t H0 H p g x lf us)(U:H p=some (.ins t.cP dx (qj ag ((x+1:Nat):Int) aL aU)))(h2:H aL=some (.lst (jg lf)))(h3:H aU=some (.lst (jg us)))(h4:aL≠aU)(h5:H0 aL=none)(h6:H0 aU=none)(h7:H0 p=none)(h8:i7 t H0 ag g)(hl:us'.length=us.length):mx t H0 (upd H aU (.lst (jg us'))) p g x lf us':=by
 have IT:p≠aU:=iG U h3 (by intro z;cases z);exact ⟨⟨dx,ag,aL,aU,by rw[bC IT];exact U,by rw[bC h4];exact h2,aJ,h4,h5,h6,h7,h8⟩,h.same.own h6,h.ll,hl.trans h.lu⟩
theorem mx.afh{H0 H:Hp}{p dx ag aL aU:Addr}{g:bp}{x:Nat}{lf lf' us:List Bool}(h:mx t H0 H p g x lf us)(U:H p=some (.ins t.cP dx (qj ag ((x+1:Nat):Int) aL aU)))(h2:H aL=some (.lst (jg lf)))(h3:H aU=some (.lst (jg us)))(h4:aL≠aU)(h5:H0 aL=none)(h6:H0 aU=none)(h7:H0 p=none)(h8:i7 t H0 ag g)(hl:lf'.length=lf.length):mx t H0 (upd H aL (.lst (jg lf'))) p g x lf' us:=by
 have UP:p≠aL:=iG U h2 (by intro z;cases z);exact ⟨⟨dx,ag,aL,aU,by rw[bC UP];exact U,aJ,by rw[bC h4.symm];exact h3,h4,h5,h6,h7,h8⟩,h.same.own h5,hl.trans h.ll,h.lu⟩
def UQ(t:fZ):Sp:=fun vs H Q _=>∃(p:Addr)(H0:Hp)(g:bp)(x st en:Nat)(lf us:List Bool),vs=[.ref p,.int (st:Int),.int (en:Int)]/\mx t H0 H p g x lf us/\M6 g lf us/\st<g.objs.length+1/\
 (¬Res (gB g lf) (uf us) st en->∀H',mx t H0 H' p g x lf us->Q (.bl false) H')/\
 (Res (gB g lf) (uf us) st en->∀H' us',mx t H0 H' p g x lf us'->Within us' lf->(∀φ,D (gB g lf) (uf us') φ=D (gB g lf) (uf us) φ+(φ st-φ en))->Q (.bl true) H')
theorem aua{f fs fe:Addr}{fd zq wH:dn}(F:eW K "add_way" "Parting.add_way" QY f fd)(T:Txt K mg t)(cs:pP P w K mg base bJ 3 t.cP "search" fs zq Le (UK t))(ce:pP P w K mg base bJ 2 t.cP "near_end" fe wH Q3 (M4 t IH)):c8 P w K mg base bJ 4 f fd Ld (UQ t):=by
 refine F.ok Z1 (fun vs H Q E h=>?_) (fun c6 A outer s H vs Q E hr h=>?_)
 .obtain ⟨p,H0,g,x,st,en,lf,us,rfl,_⟩:=h;rfl
 .obtain ⟨p,H0,g,x,st,en,lf,us,rfl,hP,mZ,oC,kF,kT⟩:=h;have nd:=Z1.nd;have hu:=vk hr;have mY:dQ 2 _:=hr.mono (by decide);refine ⟨_,bF (dB (i:=3) nd rfl (Or.inl rfl) (uw (pv 0) T.jS cs.mt cs.G hr cs.b .nil di (ax (pv 1) aO)))
   (bF (mQ (vV (Cg hu (pv 2) (pv 3)) (by with_unfolding_all rfl)) (cy (eN BW)) mP)
   (bF (BY jW (ng uu (pv 2) (pv 1) (mS _))
    (bF (dB (i:=4) nd rfl (Or.inl rfl) (Cf hu (pv 3) (pv 2) (fun _ _=>rfl)))
    (bF (dB (i:=2) nd rfl (Or.inl rfl) (uw (pv 0) T.jS ce.mt ce.G mY ce.b .nil di (ax (pv 4) aO)))
    (cy (Gv (XE (gj ia (cO (pv 0) rfl) (pv 4) (fun _ _=>rfl))) (Gs (cO (pv 0) rfl) (pv 4) set_list))))))
   (cy (eN BW)))),?_⟩
  try dsimp only[fQ,fS,fT,fV]
  have env:=WK.OK mZ.ok lf;obtain ⟨dx,ag,aL,aU,U,h2,h3,h4,h5,h6,h7,h8⟩:=hP.ex;have IL:∀{ag aL aU:Addr}{m:Str}(z0:¬m="graph")(z1:¬m="goal")(z2:¬m="left")(z3:¬m="used"),(qj ag ((x+1:Nat):Int) aL aU).lookup m=none:=fun z0 z1 z2 z3=>Cs _ _ _ _ z0 z1 z2 z3;refine ⟨_,rfl,p,dx,_,rfl,U,IL (by decide +kernel) (by decide +kernel) (by decide +kernel) (by decide +kernel),_,rfl,p,H0,g,x,st,lf,us,rfl,hP,mZ,oC,?_⟩;intro H1 d l s1 hd wR tr cl;have fr:=WK.JU tr cl;have hP1:=hP.keep s1;refine ⟨_,rfl,_,rfl,d,_,rfl,lL.k (k:=Sum.inl (en:Int)) wR,_,rfl,?_⟩;rw[IK];refine jq (fun z=>?_) (fun z=>?_)
  .have nf:dY l en=false:=by simpa using z
   exact kF (fun r=>by rw[(fr en).mpr r]at nf;cases nf) H1 hP1
  .have hf:dY l en=true:=by simpa using z
   have kT:=kT ((fr en).mp hf);have fd0:H0 d=none:=hP.same.free hd;refine ⟨fun m σ H'=>∃(zL:Nat)(us':List Bool)(l' r':List Vasnpb.Step)(v4:Option V),σ=[some (.ref p),some (.int (st:Int)),some (.int (zL:Int)),some (.ref d),v4]/\mx t H0 H' p g x lf us'/\H' d=some (.dK (stK l))/\l=l'++r'/\Tree (gB g lf) (uf us) st l'/\dY l' zL=true/\
     (∀s∈l',s.before≠s.place->uf us' s.hold= !s.forth)/\Within us' lf/\(∀φ,D (gB g lf) (uf us') φ=D (gB g lf) (uf us) φ+(φ zL-φ en))/\m=l'.length,
    ⟨_,en,us,l,[],none,rfl,hP1,wR,by simp,tr,hf,tr.uses,mZ.nY,fun φ=>by omega,rfl⟩,?_⟩
   rintro m σ H2 ⟨zL,us',l',r',v4,rfl,lP,hd2,el,tr',xi,use,nY,dd,rfl⟩;refine ⟨_,rfl,_,rfl,rfl,_,rfl,?_⟩;refine jq (fun z2=>?_) (fun z2=>?_)
   .have ne:zL≠st:=fun q=>by
     rw[q]at z2;simp at z2
    obtain ⟨l2,s2,r2,h,e1,tr2,go,hb,l6,nbp,uniq⟩:=tr'.split env xi ne;refine ⟨_,fun cV iJ hh=>⟨l2.length,by rw[e1];simp,hh⟩,?_⟩;have yF:s2∈l':=by rw[e1];simp
    have US:hJ (stK l) (Sum.inl (zL:Int))=some (V.int (s2.hold:Int)):=by
     rw[UJ,<-l6,at9 tr.nodup (by rw[el];exact vL _ yF)];show some (Dh s2)=_;unfold Dh;rw[if_neg nbp]
    obtain ⟨IV,Di,IW,yi,q1,q2,q3,q4,q5,q6,q7,q8⟩:=lP.ex;have rS:(bh g)[s2.hold]? =some h.1:=by
     rw[<-go.num];exact WK.tu.mp (gT.mp go.mem).1
    have eU:=(gq.mp rS).1;have lu2:=lP.lu;have GU:uf us' s2.hold= !s2.forth:=use s2 yF nbp;refine ⟨_,rfl,_,rfl,d,V.int (s2.hold:Int),rfl,(by rw[<-US];exact lL.k (k:=Sum.inl (zL:Int)) hd2),?_⟩;refine ⟨_,rfl,p,IV,_,rfl,q1,IL (by decide +kernel) (by decide +kernel) (by decide +kernel) (by decide +kernel),_,rfl,p,H0,g,x,s2.hold,lf,us',h.1,rfl,lP,rS,?_⟩;have en2:IH us' s2.hold h.1=s2.before:=by
     unfold IH;rw[GU,go.JL];cases s2.forth<;>rfl
    rw[en2];refine ⟨_,rfl,q1,T.jS,T.xS,yO _ _ _ _,_,rfl,yi,_,_,_,rfl,rfl,aD.of q3,at_of (j:=s2.hold) rfl (Bm (by omega)),_,rfl,?_⟩;refine ⟨_,rfl,q1,T.jS,T.xS,yO _ _ _ _,_,rfl,yi,_,_,s2.hold,rfl,rfl,q3,by unfold jg;rw[bt];exact IS (by omega),?_⟩;rw[GU,Bool.not_not,IQ];have afl:s2.hold<us'.length:=by omega
    have Dj:=lP.UO (us':=us'.set s2.hold s2.forth) q1 q2 q3 q4 q5 q6 q7 q8 (by rw[yn]);have ndU:d≠yi:=iG hd2 q3 (by intro z;cases z);refine ⟨s2.before,us'.set s2.hold s2.forth,l2,s2::r2++r',_,rfl,Dj,by rw[bC ndU];exact hd2,by rw[el,e1];simp,tr2,hb,?_,?_,?_,rfl⟩
    .intro s' lq DV;rw[WK.p9 afl,if_neg (uniq s' lq DV)];exact use s' (by rw[e1];simp[lq]) DV
    .intro n hn;rw[WK.p9 afl]at hn;by_cases e:n=s2.hold
     .rw[e,<-go.num];exact (gT.mp go.mem).2
     .rw[if_neg e]at hn;exact nY n hn
    .intro φ;rw[WK.aiH env (by rw[lP.lu]) go GU φ,dd φ,l6];omega
   .have e:zL=st:=by
     have:¬¬(V.int (zL:Int)=V.int (st:Int)):=fun q=>z2 (by simpa using q);have:=V.int.inj (ahM.mp this);omega
    subst e;exact kT H2 us' lP nY dd
theorem afm{lf us:List Bool}{n:Nat}(h:Within us lf)(U:n<lf.length)(h2:n<us.length):Within (us.set n false) (lf.set n false):=by
 intro m hm;rw[WK.p9 h2]at hm;rw[WK.p9 U];by_cases e:m=n
 .rw[if_pos e]at hm;cases hm
 .rw[if_neg e]at hm ⊢;exact h m hm
def afn(t:fZ):Sp:=fun vs H Q _=>∃(p:Addr)(H0:Hp)(g:bp)(x n:Nat)(lf us:List Bool)(h:Hold),vs=[.ref p,.int (n:Int)]/\mx t H0 H p g x lf us/\M6 g lf us/\(bh g)[n]? =some h/\
 (¬Res (gB g (lf.set n false)) (uf (us.set n false)) (bN h) (dD h)->∀H',mx t H0 H' p g x (lf.set n false) (us.set n false)->Q (.bl false) H')/\
 (Res (gB g (lf.set n false)) (uf (us.set n false)) (bN h) (dD h)->∀H' us',mx t H0 H' p g x (lf.set n false) us'->Within us' (lf.set n false)->(∀φ,D (gB g (lf.set n false)) (uf us') φ=D (gB g (lf.set n false)) (uf (us.set n false)) φ+(φ (bN h)-φ (dD h)))->Q (.bl true) H')
theorem auf{f fa fo:Addr}{fd zm mV:dn}(F:eW K "go_around" "Parting.go_around" Q8 f fd)(T:Txt K mg t)(ca:pP P w K mg base bJ 4 t.cP "add_way" fa zm Ld (UQ t))(co:eY P w K mg base bJ 1 "holder_of" fo mV uz vo):c8 P w K mg base bJ 5 f fd Q9 (afn t):=by
 refine F.ok Z7 (fun vs H Q E h=>?_) (fun c6 A outer s H vs Q E hr h=>?_)
 .obtain ⟨p,H0,g,x,n,lf,us,h,rfl,_⟩:=h;rfl
 .obtain ⟨p,H0,g,x,n,lf,us,h,rfl,hP,mZ,hh,kF,kT⟩:=h;have nd:=Z7.nd;have ig:dQ 1 _:=hr.mono (by decide);refine ⟨_,bF (dB (i:=2) nd rfl (Or.inl rfl) (gj ia (cO (cO (pv 0) rfl) rfl) (pv 1) (fun _ _=>rfl)))
   (bF (Gv BW (Gs (cO (pv 0) rfl) (pv 1) set_list))
   (bF (Gv BW (Gs (cO (pv 0) rfl) (pv 1) set_list))
   (cy (eN (uw (pv 0) T.jS ca.mt ca.G hr ca.b .nil di (ax (cO (pv 2) rfl) (ax (eB co.G ig rfl co.m co.kp co.b .nil di (ax (cO (pv 2) rfl) aO)) aO))))))),?_⟩
  try dsimp only[fQ,fS,fT,fV]
  obtain ⟨dx,ag,aL,aU,U,h2,h3,h4,h5,h6,h7,h8⟩:=hP.ex;obtain ⟨dg,aK,aS,aF,aR,aH,aE,pR,gP,_,_,_,_,pS,_⟩:=(h8.same hP.same).ex;obtain ⟨jL,jU,kx⟩:=pS;obtain ⟨c,hc,dh,oR⟩:=uB kx hh;have hn:=(gq.mp hh).1;have lu:=hP.lu;have ll:=hP.ll;have ncL:c≠aL:=iG oR h2 (by intro z;cases z);have ncU:c≠aU:=iG oR h3 (by intro z;cases z);have UP:p≠aL:=iG U h2 (by intro z;cases z);have IT:p≠aU:=iG U h3 (by intro z;cases z);refine ⟨_,rfl,U,T.jS,T.EB,Hn _ _ _ _,gP,T.iT,T.pO,rH _ _ _ _ _ _ _,_,rfl,aH,_,_,_,rfl,rfl,aD.of jU,at_of (j:=n) rfl (by rw[gp,hc];rfl),?_⟩;refine ⟨_,rfl,U,T.jS,T.Hw,Ll _ _ _ _,_,rfl,aL,_,_,n,rfl,rfl,h2,by unfold jg;rw[bt];exact IS (by omega),?_⟩;rw[IQ];have UT:=hP.afh (lf':=lf.set n false) U h2 h3 h4 h5 h6 h7 h8 (by rw[yn]);have UU:(upd H aL (.lst (jg (lf.set n false)))) p=some (.ins t.cP dx (qj ag ((x+1:Nat):Int) aL aU)):=by rw[bC UP];exact U
  have h3L:(upd H aL (.lst (jg (lf.set n false)))) aU=some (.lst (jg us)):=by rw[bC h4.symm];exact h3
  refine ⟨_,rfl,UU,T.jS,T.xS,yO _ _ _ _,_,rfl,aU,_,_,n,rfl,rfl,h3L,by unfold jg;rw[bt];exact IS (by omega),?_⟩;rw[IQ];have UW:=UT.UO (us':=us.set n false) UU aJ h3L h4 h5 h6 h7 h8 (by rw[yn]);have h1U:(upd (upd H aL (.lst (jg (lf.set n false)))) aU (.lst (jg (us.set n false)))) p=some (.ins t.cP dx (qj ag ((x+1:Nat):Int) aL aU)):=by rw[bC IT];exact UU
  have afp:(upd (upd H aL (.lst (jg (lf.set n false)))) aU (.lst (jg (us.set n false)))) c=some (.ins t.cH dh (Cq (bN h:Int) (h.place:Int) (h.to:Int))):=by rw[bC ncU,bC ncL];exact oR
  have ht:((h.to:Int)+1)=((dD h:Nat):Int):=rfl;refine ⟨_,rfl,p,dx,_,rfl,h1U,Cs _ _ _ _ (by decide +kernel) (by decide +kernel) (by decide +kernel) (by decide +kernel),_,rfl,afp,T.nP,T.xQ,yM _ _ _,_,rfl,afp,T.nP,T.xR,yN _ _ _,_,rfl,?_⟩;refine ⟨p,H0,g,x,bN h,dD h,lf.set n false,us.set n false,rfl,UW,⟨mZ.ok,mZ.nh,mZ.no,afm mZ.nY (by omega) (by omega)⟩,?_,kF,kT⟩;exact (WK.uZ mZ.ok).fr (h,n) (WK.tu.mpr hh)
def afq(t:fZ):Sp:=fun vs H Q _=>∃(p:Addr)(H0:Hp)(g:bp)(x n:Nat)(lf us:List Bool)(h:Hold)(k:Int),vs=[.ref p,.int (n:Int)]/\mx t H0 H p g x lf us/\M6 g lf us/\(bh g)[n]? =some h/\iQ (gB g lf) (uf us) (x+1) k/\0<=k/\
 ∀H' lf' us',mx t H0 H' p g x lf' us'->Within us' lf'->gB g lf'=WK.jb (x+1) k (gB g lf) (h,n)->iQ (gB g lf') (uf us') (x+1) k->Q .eM H'
theorem auk{f fa:Addr}{fd zm:dn}(F:eW K "let_go" "Parting.let_go" Q6 f fd)(T:Txt K mg t)(ca:pP P w K mg base bJ 5 t.cP "go_around" fa zm Q9 (afn t)):c8 P w K mg base bJ 6 f fd Q7 (afq t):=by
 refine F.ok Z6 (fun vs H Q E h=>?_) (fun c6 A outer s H vs Q E hr h=>?_)
 .obtain ⟨p,H0,g,x,n,lf,us,h,k,rfl,_⟩:=h;rfl
 .obtain ⟨p,H0,g,x,n,lf,us,h,kv,rfl,hP,mZ,hh,fl,hk,k⟩:=h;have nd:=Z6.nd;refine ⟨_,bF (dB (i:=2) nd rfl (Or.inl rfl) (ajs (gj ia (cO (pv 0) rfl) (pv 1) (fun _ _=>rfl)) (ajr (XE (uw (pv 0) T.jS ca.mt ca.G hr ca.b .nil di (ax (pv 1) aO))))))
   (bF (Gv (pv 2) (Gs (cO (pv 0) rfl) (pv 1) set_list))
   (cy (Gv (pv 2) (Gs (cO (pv 0) rfl) (pv 1) set_list)))),?_⟩
  try dsimp only[fQ,fS,fT,fV]
  obtain ⟨dx,ag,aL,aU,U,h2,h3,h4,h5,h6,h7,h8⟩:=hP.ex;have hn:=(gq.mp hh).1;have lu:=hP.lu;have ll:=hP.ll;have env:=WK.OK mZ.ok lf;have rf:n<lf.length:=by omega
  have IX:n<us.length:=by omega
  have fin:∀(H2:Hp)(IY vB:List Bool)(b:Bool),mx t H0 H2 p g x IY vB->(∀H',mx t H0 H' p g x (IY.set n b) (vB.set n b)->Q .eM H')->
    Gu (Ai 2) (O2 (Kq K (Ai 0) ("used":Str)) (Ai 1) Po) {nx:=fun cV H'=>Gu (Ai 2) (O2 (Kq K (Ai 0) ("left":Str)) (Ai 1) Po) {nx:=fun _ iJ=>Q .eM iJ,rt:=Q} cV H',rt:=Q} [some (V.ref p),some (V.int (n:Int)),some (V.bl b)] H2:=by
   intro H2 IY vB b lP kk;obtain ⟨IV,Di,IW,yi,q1,q2,q3,q4,q5,q6,q7,q8⟩:=lP.ex;have lu2:=lP.lu;have ll2:=lP.ll;have IT:p≠yi:=iG q1 q3 (by intro z;cases z);have UW:=lP.UO (us':=vB.set n b) q1 q2 q3 q4 q5 q6 q7 q8 (by rw[yn]);have q1U:(upd H2 yi (.lst (jg (vB.set n b)))) p=some (.ins t.cP IV (qj Di ((x+1:Nat):Int) IW yi)):=by rw[bC IT];exact q1
   have q2U:(upd H2 yi (.lst (jg (vB.set n b)))) IW=some (.lst (jg IY)):=by rw[bC q4];exact q2
   have UT:=UW.afh (lf':=IY.set n b) q1U q2U aJ q4 q5 q6 q7 q8 (by rw[yn]);refine ⟨_,rfl,_,rfl,q1,T.jS,T.xS,yO _ _ _ _,_,rfl,yi,_,_,n,rfl,rfl,q3,by unfold jg;rw[bt];exact IS (by omega),?_⟩;rw[IQ];refine ⟨_,rfl,_,rfl,q1U,T.jS,T.Hw,Ll _ _ _ _,_,rfl,IW,_,_,n,rfl,rfl,q2U,by unfold jg;rw[bt];exact IS (by omega),?_⟩;rw[IQ];exact kk _ UT
  refine ⟨_,rfl,U,T.jS,T.xS,yO _ _ _ _,_,rfl,aU,_,_,_,rfl,rfl,aD.of h3,at_of (j:=n) rfl (Bm (by omega)),_,rfl,?_⟩;cases e:uf us n with
  |false=>
   refine wq ?_;refine fin H lf us false hP fun H' Fy=>?_;obtain ⟨d1,d2⟩:=WK.aiP (h:=(h,n)) env.nd fl e;refine k H' _ _ Fy (afm mZ.nY rf IX) (by rw[WK.OM rf,d1]) ?_;rw[WK.OM rf];intro φ;rw[<-d2 φ];apply WK.BI;intro j _;rw[WK.p9 IX];by_cases z:j.2=n
   .rw[if_pos z,z,e]
   .rw[if_neg z]
  |true=>
   have Cc:(h,n)∈gB g lf:=gT.mpr ⟨WK.tu.mpr hh,mZ.nY n e⟩;have du:=WK.aiO env (by rw[hP.lu]) fl hk Cc e;have M8:=WK.OM (g:=g) rf;refine xK ⟨_,rfl,p,dx,_,rfl,U,Cs _ _ _ _ (by decide +kernel) (by decide +kernel) (by decide +kernel) (by decide +kernel),_,rfl,p,H0,g,x,n,lf,us,h,rfl,hP,mZ,hh,?_,?_⟩
   .intro nr H' Fy;rw[M8]at nr;refine ⟨false,rfl,?_⟩;refine fin H' _ _ true Fy fun H2 lP=>?_;rw[Wl,Wl]at lP;have ek:=WK.aiM (g:=g) rf (mZ.nY n e);have eu:∀m,uf (us.set n true) m=uf us m:=fun m=>by
     rw[WK.p9 IX];by_cases z:m=n
     .rw[if_pos z,z,e]
     .rw[if_neg z]
    have el:∀m,uf (lf.set n true) m=uf lf m:=fun m=>by
     rw[WK.p9 rf];by_cases z:m=n
     .rw[if_pos z,z,mZ.nY n e]
     .rw[if_neg z]
    refine k H2 _ _ lP (fun m hm=>by rw[eu]at hm;rw[el];exact mZ.nY m hm) (by rw[ek];exact (du.2 nr).symm) ?_;rw[ek];intro φ;rw[<-fl φ];exact WK.BI (fun j _=>eu j.2) φ
   .intro rs H' vB Fy I0 dd;rw[M8]at rs dd;refine ⟨true,rfl,?_⟩;refine fin H' _ _ false Fy fun H2 lP=>?_;rw[Wl]at lP;have lu2:=Fy.lu;have aum:n<vB.length:=by omega
    have u2n:uf vB n=false:=by
     cases z:uf vB n with
     |false=>rfl
     |true=>
      have:=I0 n z;rw[WK.p9 rf,if_pos rfl]at this;cases this
    have eu:∀m,uf (vB.set n false) m=uf vB m:=fun m=>by
     rw[WK.p9 aum];by_cases z:m=n
     .rw[if_pos z,z,u2n]
     .rw[if_neg z]
    refine k H2 _ _ lP (fun m hm=>by rw[eu]at hm;exact I0 m hm) (by rw[M8];exact (du.1 rs).symm) ?_;rw[M8];intro φ;have e1:uf (us.set n false) n=false:=by rw[WK.p9 IX,if_pos rfl]
    rw[WK.BI (fun j _=>eu j.2) φ,dd φ,WK.F8 (h:=(h,n)) env.nd Cc];show _-(if uf (us.set n false) n=true then _ else _)+_=_;rw[e1,if_neg jt,WK.F5 (h:=(h,n)) env.nd Cc (u:=uf us) (v:=uf (us.set n false)) (by intro m hm;rw[WK.p9 IX,if_neg hm])];show D (gB g lf) (uf us) φ+((if uf (us.set n false) n=true then 1 else 0)-(if uf us n=true then 1 else 0))*(φ (bN h)-φ (dD h))-0+(φ (bN h)-φ (dD h))=_;rw[e1,e,fl φ];simp;omega
def UX(t:fZ):Sp:=fun vs H Q _=>∃(ag:Addr)(g:bp)(x:Nat),vs=[.ref ag,.int (x:Int)]/\i7 t H ag g/\pj g/\x<g.objs.length/\
 ∀H' p us k,mx t H H' p g x (j0 g x) us->Within us (j0 g x)->iQ (gB g (j0 g x)) (uf us) (x+1) k->0<=k->¬Res (gB g (j0 g x)) (uf us) 0 (x+1)->Q (.ref p) H'
theorem auo{f fI fa:Addr}{fd CA zm:dn}(F:eW K "most_parted" "most_parted" Ra f fd)(T:Txt K mg t)(cI:xT P w K mg base bJ 2 t.cP fI CA QX (afa t))(ca:pP P w K mg base bJ 4 t.cP "add_way" fa zm Ld (UQ t)):c8 P w K mg base bJ 5 f fd Lf (UX t):=by
 refine F.ok Z8 (fun vs H Q E h=>?_) (fun c6 A outer s H vs Q E hr h=>?_)
 .obtain ⟨ag,g,x,rfl,_⟩:=h;rfl
 .obtain ⟨ag,g,x,rfl,hg,fit,hx,k⟩:=h;have nd:=Z8.nd;have tQ:dQ 3 _:=hr.mono (by decide);refine ⟨_,bF (dB (i:=2) nd rfl (Or.inl rfl) (yG cI.M cI.G tQ rfl T.mgP cI.b .nil di (ax (pv 0) (ax (pv 1) aO))))
   (bF (BY jW (tF (uw (pv 2) T.jS ca.mt ca.G hr ca.b .nil di (ax (gY T.Cw) (ax (cO (pv 2) rfl) aO)))) (cy ajx))
   (cy (eN (pv 2)))),?_⟩
  try dsimp only[fQ,fS,fT,fV]
  refine ⟨_,rfl,_,rfl,?_⟩;intro p dx np mm ne;have s0:aC H (upd (upd H dx (.own p)) p (.ins t.cP dx [])):=(aC.nw mm).own np;refine ⟨p,dx,ag,g,x,rfl,aJ,hg.same s0,fit.nh,?_⟩;intro H1 aL aU b1 tR fL fU nLU hL hU;have s1:aC H H1:=b1.same s0 np;have fL':H aL=none:=s0.free fL;have fU':H aU=none:=s0.free fU;refine ⟨rfl,?_⟩;have z0:∀n,uf (oV (bh g).length false) n=false:=fun n=>by
   unfold uf;rw[lT,VI]
   split<;>rfl
  have w0:WK.Within (oV (bh g).length false) (j0 g x):=fun n hn=>by
   rw[z0]at hn;cases hn
  have hP0:mx t H H1 p g x (j0 g x) (oV (bh g).length false):=⟨⟨dx,ag,aL,aU,tR,hL,hU,nLU,fL',fU',np,hg⟩,s1,WK.aiJ g x,by simp⟩;have fl0:iQ (gB g (j0 g x)) (uf (oV (bh g).length false)) (x+1) ((0:Nat):Int):=WK.WY g _ _;refine ⟨fun m σ H'=>∃(us:List Bool)(kk:Nat),σ=[some (.ref ag),some (.int (x:Int)),some (.ref p)]/\mx t H H' p g x (j0 g x) us/\Within us (j0 g x)/\iQ (gB g (j0 g x)) (uf us) (x+1) (kk:Int)/\m=WK.rn (gB g (j0 g x))-kk,
   ⟨_,_,0,rfl,hP0,w0,fl0,rfl⟩,?_⟩
  rintro m σ H2 ⟨us,kk,rfl,lP,nY,fl,rfl⟩;obtain ⟨IV,Di,IW,yi,q1,q2,q3,q4,q5,q6,q7,q8⟩:=lP.ex;refine ⟨_,rfl,p,IV,_,rfl,q1,Cs _ _ _ _ (by decide +kernel) (by decide +kernel) (by decide +kernel) (by decide +kernel),_,rfl,q1,T.jS,T.Ly,aa3 _ _ _ _,?_⟩;refine ⟨p,H,g,x,0,x+1,j0 g x,us,rfl,lP,⟨fit.ok,fit.nh,fit.no,nY⟩,by omega,?_,?_⟩
  .intro nr H3 Dj;exact ⟨false,rfl,wq ⟨_,rfl,k H3 p us kk Dj nY fl (by omega) nr⟩⟩
  .intro _ H3 M9 Dj U0 dd;have Na:iQ (gB g (j0 g x)) (uf M9) (x+1) ((kk+1:Nat):Int):=by
    intro φ;rw[dd φ,fl φ];have:((kk+1:Nat):Int)*(φ 0-φ (x+1))=(kk:Int)*(φ 0-φ (x+1))+(φ 0-φ (x+1)):=by
     push_cast;rw[agy,agD]
    rw[this]
   have hb:=WK.OC Na;refine ⟨true,rfl,xK ⟨_,fun cV iJ hh=>⟨WK.rn (gB g (j0 g x))-(kk+1),by omega,hh⟩,?_⟩⟩;exact ⟨M9,kk+1,rfl,Dj,U0,Na,rfl⟩
end WD
open Vasnpb (toldCut toldWays)
namespace WD
def wW(l:List Vasnpb.Step)(h:HN):Bool:=dY l (bN h.1)&&!dY l (dD h.1)
def afu(t:fZ):Sp:=fun vs H Q _=>∃(ag:Addr)(g:bp)(x:Nat),vs=[.ref ag,.int (x:Int)]/\i7 t H ag g/\pj g/\x<g.objs.length/\
 ∀H' r,aC H H'->H r=none->H' r=some (.lst (nats (toldCut g x)))->(toldCut g x).length<=1000->Q (.ref r) H'
theorem auw{f fm fs fo:Addr}{fd CM zq mV:dn}(F:eW K "told_cut" "told_cut" Lg f fd)(T:Txt K mg t)(cm:eY P w K mg base bJ 5 "most_parted" fm CM Lf (UX t))(cs:pP P w K mg base bJ 3 t.cP "search" fs zq Le (UK t))(co:eY P w K mg base bJ 1 "holder_of" fo mV uz vo):c8 P w K mg base bJ 6 f fd Rb (afu t):=by
 refine F.ok aaa (fun vs H Q E h=>?_) (fun c6 A outer s H vs Q E hr h=>?_)
 .obtain ⟨ag,g,x,rfl,_⟩:=h;rfl
 .obtain ⟨ag,g,x,rfl,hg,fit,hx,k⟩:=h;have nd:=aaa.nd;have hu:=vk hr;have ig:dQ 1 _:=hr.mono (by decide);have tQ:dQ 3 _:=hr.mono (by decide);refine ⟨_,bF (dB (i:=2) nd rfl (Or.inr rfl) (uw (eB cm.G hr rfl cm.m cm.kp cm.b .nil di (ax (pv 0) (ax (pv 1) aO))) T.jS cs.mt cs.G tQ cs.b .nil di (ax (gY T.Cw) aO)))
   (cy (eN (wm (own:=[("number",3),("hold",4)]) rfl nd (AK rfl T.enumerate (ax (cO (pv 0) rfl) aO)) (sj (by show qQ Z9 (da Lg) _ _=true;decide +kernel))
    (fun s H C cl fp=>Uw (K:=K) 2 rfl (oB (gG (i:=3) nd rfl (Or.inl rfl) (Or.inr rfl)) (oB (gG (i:=4) nd rfl (Or.inl rfl) (Or.inr rfl)) xx)))
    (fun s H C cl fp=>Cd (PW.pt (XD (vV (KN hu (wz (K:=K) (pv 4)) (pv 2)) (by with_unfolding_all rfl)) (XC (vV (Cg hu (aa7 co.G ig co.m co.kp co.b (ax (wz (K:=K) (pv 4)) aO)) (pv 2)) (by with_unfolding_all rfl))))))
    (fun s H C cl fp=>pv 3)))),?_⟩
  try dsimp only[fQ,fS,fT,fV]
  refine ⟨_,rfl,_,rfl,ag,g,x,rfl,hg,fit,hx,?_⟩;intro H1 p us kk hP nY fl hk nr;obtain ⟨dx,ag1,aL,aU,U,h2,h3,h4,h5,h6,h7,h8⟩:=hP.ex;refine ⟨p,dx,_,rfl,U,Cs _ _ _ _ (by decide +kernel) (by decide +kernel) (by decide +kernel) (by decide +kernel),p,H,g,x,0,j0 g x,us,rfl,hP,⟨fit.ok,fit.nh,fit.no,nY⟩,by omega,?_⟩;intro H2 d l s2 hd wR tr cl;have qZ:=hP.same.trans s2;have nf:dY l (x+1)=false:=by
   cases e:dY l (x+1) with
   |false=>rfl
   |true=>exact absurd ((WK.JU tr cl _).mp e) nr
  have ec:=WK.aiL fit.ok nY fl tr cl nf;obtain ⟨dg,aK,aS,aF,aR,aH,aE,pR,gP,_,_,_,_,pS,_⟩:=hg.ex;obtain ⟨jL,jU,kx⟩:=pS;have lh:=kx.length;have nh:=fit.nh;refine ⟨_,rfl,qZ _ _ gP,T.iT,T.pO,rH _ _ _ _ _ _ _,aH,_,rfl,aD.of (qZ _ _ jU),fun D hD=>?_⟩;have afv:∀j,((((bh g).take j).zipIdx.filter (wW l)).map (·.2)).length<=(bh g).length:=fun j=>by
   rw[bt];refine gN (mL _ _) ?_;rw[yt,mB];omega
  refine Ux (K:=K) (a:=aH) (xs:=jL.map V.ref) (fun j H'=>aC H2 H'/\H' D=some (.lst (nats ((((bh g).take j).zipIdx.filter (wW l)).map (·.2))))) ⟨aC.nw hD,aJ⟩ (fun j H' _ ⟨z,_⟩=>aD.of (z _ _ (qZ _ _ jU))) ?_ ?_
  .rintro j v H' Tu hx ⟨s5,iw⟩ hT;obtain ⟨c,rK,rfl⟩:=pd hx;obtain ⟨h,xW,ha⟩:=lM kx rK;have sT:=aC.nw (o:=.tup [V.int ((j:Nat):Int),V.ref c]) hT;have s6:=s5.trans sT;obtain ⟨dh,oR⟩:=(ha.same qZ).same s6;have snoc:(((bh g).take (j+1)).zipIdx.filter (wW l)).map (·.2)=(((bh g).take j).zipIdx.filter (wW l)).map (·.2)++if wW l (h,j) then [j] else []:=by
    rw[yP xW,vJ,iO,vK];congr 1;rw[kO]
    split<;>rfl
   have fin:∀b,b=wW l (h,j)->if b=true then J7 (([some (V.ref ag),some (V.int (x:Int)),some (V.ref d),some (V.int (j:Int)),some (V.ref c)]:L2.St)[3]?) (fun v Hz=>∃acc,Hz D=some (.lst acc)/\acc.length<cJ/\(aC H2 (upd Hz D (.lst (acc++[v])))/\(upd Hz D (.lst (acc++[v]))) D=some (.lst (nats ((((bh g).take (j+1)).zipIdx.filter (wW l)).map (·.2)))))) (upd H' Tu (.tup [V.int ((j:Nat):Int),V.ref c])) else aC H2 (upd H' Tu (.tup [V.int ((j:Nat):Int),V.ref c]))/\(upd H' Tu (.tup [V.int ((j:Nat):Int),V.ref c])) D=some (.lst (nats ((((bh g).take (j+1)).zipIdx.filter (wW l)).map (·.2)))):=by
    intro b hb;rw[snoc,<-hb];cases b with
    |true=>
     refine xK ⟨_,rfl,_,sT _ _ iw,?_,s6.own hD,?_⟩
     .have:=afv j;unfold nats;rw[bt,eE];omega
     .rw[aJ,if_pos rfl];unfold nats;rw[iO];rfl
    |false=>
     refine wq ⟨s6,?_⟩;rw[if_neg jt,nZ];exact sT _ _ iw
   refine ⟨Tu,_,rfl,kj.of aJ,rfl,_,_,rfl,_,_,rfl,rfl,rfl,_,rfl,oR,T.nP,T.xQ,yM _ _ _,_,rfl,d,_,rfl,lL.k (k:=Sum.inl (bN h:Int)) (s6 _ _ wR),_,rfl,?_⟩;rw[IK];cases e:dY l (bN h) with
   |true=>
    refine xK ⟨_,rfl,oR,T.nP,T.xR,yN _ _ _,_,rfl,_,rfl,d,_,rfl,lL.k (k:=Sum.inl (dD h:Int)) (s6 _ _ wR),_,rfl,?_⟩;rw[IK];exact fin _ (by unfold wW;rw[e];rfl)
   |false=>
    refine wq ?_;exact fin false (by unfold wW;rw[e];rfl)
  rintro H3 ⟨s3,sP⟩;have eT:(bh g).take (jL.map V.ref).length=bh g:=by rw[bt,lh,jY]
  rw[eT]at sP;have e4:((bh g).zipIdx.filter (wW l)).map (·.2)=toldCut g x:=ec.symm;have:=afv (bh g).length;rw[jY,e4]at this;rw[e4]at sP;exact k H3 D (qZ.trans s3) (qZ.free hD) sP (by omega)
theorem auy{f fc fr:Addr}{fd CW oN:dn}(F:eW K "answer_cut" "answer_cut" Ry f fd)(T:Txt K mg t)(cc:eY P w K mg base bJ 6 "told_cut" fc CW Rb (afu t))(cr:eY P w K mg base bJ 4 "refusal_unless_live" fr oN Hm (MF K t)):c8 P w K mg base bJ 7 f fd aaJ (sJ t fun ns _ c=>∃x,ns=[x]/\c=.cut x):=by
 refine F.ok aaK (fun vs H Q E h=>?_) (fun c6 A outer s H vs Q E hr h=>?_)
 .obtain ⟨p,aN,aL,g,past,ns,cS,c,rfl,_⟩:=h;rfl
 .obtain ⟨p,aN,aL,g,past,ns,cS,c,rfl,hD,gs,hN,hL,ll,ln,⟨x,rfl,rfl⟩,k⟩:=h;have nd:=aaK.nd;have rg:dQ 4 _:=hr.mono (by decide);refine ⟨_,bF (dB (i:=3) nd rfl (Or.inl rfl) (eB cr.G rg rfl cr.m cr.kp cr.b .nil di (ax (cO (pv 0) rfl) (ax (gj ia (pv 1) gg (fun _ _=>rfl)) aO))))
   (bF (mQ (ng uu (pv 3) (gY T.lN) (mS _)) (cy (eN (dG (ax (pv 3) aO)))) mP)
   (cy (eN (o6 ve (dG (ax (gY T.lN) aO)) (eB cc.G hr rfl cc.m cc.kp cc.b .nil di (ax (cO (pv 0) rfl) (ax (gj ia (pv 1) gg (fun _ _=>rfl)) aO))))))),?_⟩
  try dsimp only[fQ,fS,fT,fV]
  have iE:=hD;obtain ⟨dx,ag,ab,gM,hp,hg,hb,mJ⟩:=hD;have fit:=nA gs.now;have mK:mf [V.int x] 0=some (V.int x):=at_of (j:=0) rfl rfl;refine ⟨_,rfl,hp,T.iI,T.jE,j9 _ _,_,rfl,aN,_,_,_,rfl,rfl,aD.of hN,mK,ag,g,x,rfl,hg,fit,?_⟩;intro H1 s2;have st:lp ⟨g,past⟩ (.cut x)=(⟨g,past⟩,if px g x=0 then 0::toInts (toldCut g x.toNat) else [px g x]):=by
   show (_,Vasnpb.onLive ⟨g,past⟩ x fun n=>0::toInts (toldCut g n))=_;rw[T3]
  rw[st]at k;refine ⟨_,rfl,rfl,_,rfl,?_⟩;by_cases z:px g x=0
  .rw[if_pos z]at k;refine yJ (by rw[z]) ?_;obtain ⟨z1,z2⟩:=T4 z;have nx:0<=x:=by
    unfold nU at z1;rw[jN,decide_eq_true_iff]at z1;exact z1.1
   have ex:x=((x.toNat:Nat):Int):=(FY nx).symm;have U2:=Iw fit [] [] x.toNat z2;refine ⟨(by show 1<=cJ;decide),fun q1 rN=>?_⟩;have s3:=s2.trans (aC.nw (o:=.lst [V.int 0]) rN);refine ⟨_,rfl,s3 _ _ hp,T.iI,T.jE,j9 _ _,_,rfl,aN,_,_,_,rfl,rfl,aD.of (s3 _ _ hN),mK,ag,g,x.toNat,congrArg (fun z=>[V.ref ag,V.int z]) ex,hg.same s3,fit,U2,?_⟩;intro H2 r s4 mY vz hlen;refine ⟨q1,r,_,_,rfl,rfl,s4 _ _ aJ,vz,?_,fun r' eD=>?_⟩
   .unfold nats;rw[bt,eE];show 1+_<=_;omega
   .have sA:=s3.trans s4;have sB:=sA.trans (aC.nw (o:=.lst ([V.int 0]++nats (toldCut g x.toNat))) eD);refine k _ r' sB.but (sA.free eD) (iE.same sB) ?_;rw[aJ,wJ];rfl
  .rw[if_neg z]at k;refine jq (fun _=>?_) (fun y'=>absurd ?_ y')
   .refine ⟨_,rfl,(by show 1<=cJ;decide),fun r eD=>?_⟩;have sB:=s2.trans (aC.nw (o:=.lst [V.int (px g x)]) eD);exact k _ r sB.but (s2.free eD) (iE.same sB) aJ
   .rw[rh,decide_eq_false_iff_not];intro e;exact z (V.int.inj e)
end WD
open Vasnpb (walk waysIn needed)
namespace WD
end WD
open WK (ofPlace without u5 uc)
namespace WD
structure Rep(g:bp)(H0 H:Hp)(aB:Addr)(bs:List Addr)(R:List HN):Prop where
 at_:H aB=some (.lst (bs.map V.ref))
 nd:bs.Nodup
 len:bs.length=g.objs.length+1
 new:∀b∈bs,H0 b=none
 nB:aB∉bs
 all:∀b∈bs,∃l,H b=some (.lst l)
 of:∀(q:Nat)(b:Addr),1<=q->bs[q]? =some b->H b=some (.lst (nats (ofPlace R q)))
structure Rest(g:bp)(R:List HN):Prop where
 nd:(R.map (·.2)).Nodup
 sub:∀h∈R,(bh g)[h.2]? =some h.1
 le:R.length<=1000
theorem Rest.without{g:bp}{R:List HN}(h:Rest g R)(n:Nat):Rest g (without R n):=⟨WK.aiV h.nd,fun k hk=>h.sub k (gT.mp hk).1,gN (mL _ _) h.le⟩
def afw(t:fZ):Sp:=fun vs H Q _=>∃(ag aB:Addr)(first x n:Nat)(H0:Hp)(g:bp)(bs:List Addr)(R:List HN)(h0:Hold)(j:Int),vs=[.ref ag,.int (first:Int),.int ((x+1:Nat):Int),.ref aB]/\aC H0 H/\i7 t H0 ag g/\iF g/\(bh g)[first]? =some h0/\
 Rep g H0 H aB bs R/\Rest g R/\u5 R (x+1) j (dD h0)/\0<=j/\R.length<n/\
 ∀H' r R',(∀b o,H b=some o->b∉bs->H' b=some o)->H r=none->H' r=some (.lst (nats (first::(walk x n (dD h0) R).1)))->(walk x n (dD h0) R).2=R'->Rep g H0 H' aB bs R'->Rest g R'->iQ R' uc (x+1) j->ofPlace R' 0=ofPlace R 0->R'.length<=R.length->aC H0 H'->Q (.ref r) H'
theorem auz{f fo:Addr}{fd mV:dn}(F:eW K "read_way" "read_way" Rf f fd)(T:Txt K mg t)(co:eY P w K mg base bJ 1 "holder_of" fo mV uz vo):c8 P w K mg base bJ 2 f fd Rg (afw t):=by
 refine F.ok aad (fun vs H Q E h=>?_) (fun c6 A outer s H vs Q E hr h=>?_)
 .obtain ⟨ag,aB,first,x,n,H0,g,bs,R,h0,j,rfl,_⟩:=h;rfl
 .obtain ⟨ag,aB,first,x,n,H0,g,bs,R,h0,j,rfl,sH,hg,ok,hh0,rep,rest,bal,hj,hn,k⟩:=h;have nd:=aad.nd;refine ⟨_,bF (dB (i:=4) nd rfl (Or.inl rfl) (dG (ax (pv 1) aO)))
   (bF (dB (i:=5) nd rfl (Or.inl rfl) (eB co.G hr rfl co.m co.kp co.b .nil di (ax (cO (gj ia (cO (pv 0) rfl) (pv 1) (fun _ _=>rfl)) rfl) aO)))
   (bF (BY jW (ng uu (pv 5) (pv 2) (mS _))
    (bF (dB (i:=6) nd rfl (Or.inl rfl) (j8 jX PySem.F.slot_list_pop PySem.F.type_list_pop ak7 (gj ia (pv 3) (pv 5) (fun _ _=>rfl)) (ax gg aO)))
    (bF (jv (j8 jX n6 n8 nM (pv 4) (ax (pv 6) aO)))
    (cy (dB (i:=5) nd rfl (Or.inl rfl) (eB co.G hr rfl co.m co.kp co.b .nil di (ax (cO (gj ia (cO (pv 0) rfl) (pv 6) (fun _ _=>rfl)) rfl) aO)))))))
   (cy (eN (pv 4))))),?_⟩
  try dsimp only[fQ,fS,fT,fV]
  obtain ⟨dg,aK,aS,aF,aR,aH,aE,pR,gP,_,_,_,_,pS,_⟩:=hg.ex;obtain ⟨jL,jU,kx⟩:=pS;have afz:∀{m:Nat}{h:Hold},(bh g)[m]? =some h->dD h<g.objs.length+1:=fun {m h} e=>(WK.uZ ok).to (h,m) (WK.tu.mpr e);refine ⟨_,rfl,(by show 1<=cJ;decide),fun wa pk=>?_⟩;have s1:=aC.nw (o:=.lst [V.int (first:Int)]) pk;have UL:H0 wa=none:=sH.free pk;have nwB:wa≠aB:=fun z=>(dw rep.at_ pk) z.symm;obtain ⟨c0,Ht,dh0,auC⟩:=uB kx hh0;have Nb:=sH.trans s1;refine ⟨_,rfl,Nb _ _ gP,T.iT,T.pO,rH _ _ _ _ _ _ _,_,rfl,aH,_,_,_,rfl,rfl,aD.of (Nb _ _ jU),at_of (j:=first) rfl (by rw[gp,Ht];rfl),Nb _ _ auC,T.nP,T.xR,yN _ _ _,(h0.to:Int),rfl,?_⟩;have U3:wa∉bs:=fun z=>by
   obtain ⟨l,e⟩:=rep.all wa z;rw[pk]at e;cases e
  have rep1:Rep g H0 (upd H wa (.lst [V.int (first:Int)])) aB bs R:=⟨s1 _ _ rep.at_,rep.nd,rep.len,rep.new,rep.nB,fun b hb=>let ⟨l,e⟩:=rep.all b hb;⟨l,s1 _ _ e⟩,fun q b U h2=>s1 _ _ (rep.of q b U h2)⟩;have et:((h0.to:Int)+1)=((dD h0:Nat):Int):=rfl;refine ⟨fun m σ H'=>∃(q n1:Nat)(w:List Nat)(R1:List HN)(v6:Option V),σ=[some (.ref ag),some (.int (first:Int)),some (.int ((x+1:Nat):Int)),some (.ref aB),some (.ref wa),some (.int (q:Int)),v6]/\aC H0 H'/\(∀b o,H b=some o->b∉bs->H' b=some o)/\H' wa=some (.lst (nats (first::w)))/\Rep g H0 H' aB bs R1/\Rest g R1/\
    u5 R1 (x+1) j q/\1<=q/\q<g.objs.length+1/\R1.length<n1/\w++(walk x n1 q R1).1=(walk x n (dD h0) R).1/\(walk x n1 q R1).2=(walk x n (dD h0) R).2/\ofPlace R1 0=ofPlace R 0/\w.length+R1.length<=R.length/\m=R1.length,
   ⟨_,dD h0,n,[],R,none,rfl,Nb,fun b o e _=>s1 _ _ e,aJ,rep1,rest,bal,FV (dU _),afz hh0,hn,rfl,rfl,rfl,by simp,rfl⟩,?_⟩
  rintro m σ H' ⟨q,n1,w,R1,v6,rfl,s2,keep,Bn,rep2,Nc,afA,rN,hqN,hn1,e1,e2,e3,e4,rfl⟩;have afB:n1=(n1-1)+1:=by omega
  refine ⟨_,rfl,_,rfl,rfl,_,rfl,?_⟩;refine jq (fun z=>?_) (fun z=>?_)
  .have yc:q≠x+1:=fun y=>by
    rw[y]at z;simp at z
   obtain ⟨h,hm,hf,hb,U4,hof,Nd⟩:=WK.Xr Nc.nd afA hj yc (n1-1);rw[<-afB]at U4;have rS:=Nc.sub h hm;have wl:=WK.Xq hm;refine ⟨_,fun cV iJ hh=>⟨(without R1 h.2).length,wl,hh⟩,?_⟩;obtain ⟨b,sy⟩:∃b,bs[q]? =some b:=⟨_,iN (by rw[rep2.len];exact hqN)⟩;have Ct:=iy sy;have nE:=rep2.of q b rN sy;rw[hof]at nE;have afC:wa≠b:=fun y=>U3 (y▸Ct);have nBb:aB≠b:=fun y=>rep2.nB (y▸Ct);have lle:(nats (h.2::ofPlace (without R1 h.2) q)).length=(ofPlace (without R1 h.2) q).length+1:=by unfold nats;rw[bt,iz]
   refine ⟨_,rfl,_,rfl,aB,_,_,_,rfl,rfl,aD.of rep2.at_,at_of (j:=q) (v:=V.ref b) rfl (by rw[gp,sy];rfl),.inl ⟨rfl,_,aD.of nE⟩,b,_,0,0,_,rfl,rfl,nE,by decide,by decide,?_,rfl,?_⟩
   .rw[lle];unfold seqIndex?;simp
   have ee:(nats (h.2::ofPlace (without R1 h.2) q)).eraseIdx 0=nats (ofPlace (without R1 h.2) q):=rfl;rw[ee];have CO:(upd H' b (.lst (nats (ofPlace (without R1 h.2) q)))) wa=some (.lst (nats (first::w))):=by rw[bC afC];exact Bn
   have s3:aC H0 (upd H' b (.lst (nats (ofPlace (without R1 h.2) q)))):=s2.own (rep2.new b Ct);refine ⟨_,rfl,.inl ⟨rfl,_,aD.of CO⟩,_,rfl,wa,_,_,rfl,rfl,CO,?_,?_⟩
   .have:=rest.le;unfold nats;rw[bt,iz,eE];omega
   have s4:=s3.own (o:=.lst (nats (first::w)++[V.int (h.2:Int)])) UL;obtain ⟨c,hc,dh,oR⟩:=uB kx rS;refine ⟨_,rfl,s4 _ _ gP,T.iT,T.pO,rH _ _ _ _ _ _ _,_,rfl,aH,_,_,_,rfl,rfl,aD.of (s4 _ _ jU),at_of (j:=h.2) rfl (by rw[gp,hc];rfl),s4 _ _ oR,T.nP,T.xR,yN _ _ _,(h.1.to:Int),rfl,?_⟩;refine ⟨dD h.1,n1-1,w++[h.2],without R1 h.2,_,rfl,s4,fun b' o e nb=>?_,?_,?_,Nc.without _,hb,FV (dU _),afz rS,by omega,?_,?_,?_,?_,rfl⟩
   .rw[bC (dw e pk),bC (fun y:b'=b=>nb (by rw[y];exact Ct))];exact keep b' o e nb
   .rw[aJ];unfold nats;simp
   .refine ⟨by rw[bC nwB.symm,bC nBb];exact rep2.at_,rep2.nd,rep2.len,rep2.new,rep2.nB,fun b' iU=>?_,fun q' b' U h2=>?_⟩
    .by_cases y:b'=b
     .rw[y];exact ⟨_,by rw[bC afC.symm,aJ]⟩
     .obtain ⟨l,e⟩:=rep2.all b' iU;exact ⟨l,by rw[bC (fun y':b'=wa=>U3 (by rw[<-y'];exact iU)),bC y];exact e⟩
    .have nb':b'≠wa:=fun y'=>U3 (by rw[<-y'];exact iy h2);rw[bC nb'];by_cases y:q'=q
     .subst y;rw[sy]at h2;cases h2;rw[aJ]
     .have nbb:b'≠b:=fun y'=>y (Hb rep2.nd h2 (by rw[y'];exact sy));rw[bC nbb,Nd q' y];exact rep2.of q' b' U h2
   .rw[<-e1,U4];simp
   .rw[<-e2,U4]
   .rw[Nd 0 (by omega),e3]
   .rw[gR,Dz];omega
  .have yc:q=x+1:=by
    have:¬¬(V.int (q:Int)=V.int ((x+1:Nat):Int)):=fun y=>z (by simpa using y);have:=V.int.inj (ahM.mp this);omega
   subst yc;rw[afB,WK.aiW]at e1 e2;have e1:w=(walk x n (dD h0) R).1:=by simpa using e1
   rw[e1]at Bn;exact ⟨_,rfl,k H' wa R1 keep pk Bn e2.symm rep2 Nc afA.aiZ e3 (by omega) s2⟩
def afE(H:Hp)(a:Addr)(w:List Nat):Prop:=H a=some (.lst (nats w))
def afF(t:fZ):Sp:=fun vs H Q _=>∃(ag:Addr)(g:bp)(x:Nat),vs=[.ref ag,.int (x:Int)]/\i7 t H ag g/\kP g=true/\x<g.objs.length/\
 ∀H' r as,aC H H'->H r=none->H' r=some (.lst (as.map V.ref))->Paired (afE H') as (ow g x)->Q (.ref r) H'
theorem auJ{g:bp}{lf:List Bool}{q:Nat}:(numsOf (bh g) q).filter (fun n=>uf lf n)=ofPlace (gB g lf) q:=by
 unfold numsOf ofPlace gB allOf;rw[JC,w8,w8];congr 1;exact qC fun h _=>NP _ _
theorem auK{f fm fl fr:Addr}{fd CM lO oN:dn}(F:eW K "told_ways" "told_ways" Lh f fd)(T:Txt K mg t)(cm:eY P w K mg base bJ 5 "most_parted" fm CM Lf (UX t))(cl:pP P w K mg base bJ 6 t.cP "let_go" fl lO Q7 (afq t))(cr:eY P w K mg base bJ 2 "read_way" fr oN Rg (afw t)):c8 P w K mg base bJ 7 f fd Rc (afF t):=by
 refine F.ok aac (fun vs H Q E h=>?_) (fun c6 A outer s H vs Q E hr h=>?_)
 .obtain ⟨ag,g,x,rfl,_⟩:=h;rfl
 .obtain ⟨ag,g,x,rfl,hg,good,hx,k⟩:=h;have fit:=nA good;have nd:=aac.nd;have mY:dQ 2 _:=hr.mono (by decide);have hr5:dQ 5 _:=hr.mono (by decide);refine ⟨_,bF (dB (i:=2) nd rfl (Or.inr rfl) (eB cm.G hr5 rfl cm.m cm.kp cm.b .nil di (ax (pv 0) (ax (pv 1) aO))))
   (bF (kW jW rfl (B0 rfl T.range (ax (jR l7 (by rfl) T.len lW (ax (cO (pv 0) rfl) aO)) aO)) (gG (i:=3) nd rfl (Or.inl rfl))
    (cy (jv (uw (pv 2) T.jS cl.mt cl.G hr cl.b .nil di (ax (pv 3) aO)))))
   (bF (dB (i:=4) nd rfl (Or.inl rfl) (dG aO))
   (bF (kW jW rfl (l0 (cO (pv 0) rfl)) (gG (i:=5) nd rfl (Or.inl rfl))
    (cy (jv (j8 jX n6 n8 nM (pv 4) (ax (wm (own:=[("number",3)]) rfl nd (l0 (pv 5)) (sj (by show qQ aab (da Lh) _ _=true;decide +kernel))
     (fun s H C cl fp=>gG (i:=3) nd rfl (Or.inl rfl) (Or.inr rfl)) (fun s H C cl fp=>Cd (tF (gj (Hq (K:=K)) (wz (K:=K) (pv 2)) (pv 3) (fun _ _=>rfl)))) (fun s H C cl fp=>pv 3)) aO)))))
   (bF (dB (i:=6) nd rfl (Or.inl rfl) (Yq YE rfl T.list (by decide +kernel) (ax (gj ia (pv 4) (gY T.Cw) (fun _ _=>rfl)) aO)))
   (bF (dB (i:=7) nd rfl (Or.inl rfl) (dG aO))
   (bF (kW jW rfl (l0 (pv 6)) (gG (i:=8) nd rfl (Or.inl rfl))
    (cy (jv (j8 jX n6 n8 nM (pv 7) (ax (eB cr.G mY rfl cr.m cr.kp cr.b .nil di (ax (pv 0) (ax (pv 8) (ax (cO (pv 2) rfl) (ax (pv 4) aO))))) aO)))))
   (cy (eN (pv 7))))))))),?_⟩
  try dsimp only[fQ,fS,fT,fV]
  obtain ⟨dg,aK,aS,aF,aR,aH,aE,pR,gP,_,_,_,_,pS,UG,_⟩:=hg.ex;obtain ⟨jL,jU,kx⟩:=pS;obtain ⟨UH,EZ,CN⟩:=UG;have lh:(jL.map V.ref).length=(bh g).length:=by rw[bt,kx.length]
  have nh:=fit.nh;have no:=fit.no;refine ⟨_,rfl,_,rfl,ag,g,x,rfl,hg,fit,hx,?_⟩;intro H1 p us kk hP nY fl hk nr;have most:WK.vP g x kk:=WK.JM (WK.Xm nY fl) (fun r=>nr ((WK.OL nY nr _).mp r));have nl:=WK.aiT fit.ok most;refine ⟨_,rfl,hP.same _ _ gP,T.iT,T.pO,rH _ _ _ _ _ _ _,aH,_,rfl,.inl (aD.of (hP.same _ _ jU)),?_⟩;rw[lh];refine ⟨((bh g).length:Int),rfl,by omega,by omega,D0 (n:=((bh g).length:Int).toNat) (fun i σ H'=>∃(v3:Option V)(lf us:List Bool),σ=[some (.ref ag),some (.int (x:Int)),some (.ref p),v3,none,none,none,none,none]/\mx t H H' p g x lf us/\Within us lf/\iQ (gB g lf) (uf us) (x+1) kk/\gB g lf=((allOf g).take i).foldl (WK.jb (x+1) kk) (gB g (j0 g x)))
   ⟨none,_,_,rfl,hP,nY,fl,rfl⟩ ?_ ?_⟩
  .rintro i σ H' hi ⟨v3,lf,us,rfl,lP,I0,Hd,e2⟩;have oJ:i<(bh g).length:=by omega
   have ei:(0:Int)+(i:Int)=(i:Int):=by omega
   rw[ei];obtain ⟨dx,Di,aL,aU,q1,_⟩:=lP.ex;have HA:(bh g)[i]? =some (bh g)[i]:=iN oJ;refine ⟨_,rfl,p,dx,_,rfl,q1,Cs _ _ _ _ (by decide +kernel) (by decide +kernel) (by decide +kernel) (by decide +kernel),_,rfl,p,H,g,x,i,lf,us,(bh g)[i],kk,rfl,lP,⟨fit.ok,fit.nh,fit.no,I0⟩,HA,Hd,hk,?_⟩;intro H3 lf3 M9 Dj U0 e3 Na;refine ⟨_,lf3,M9,rfl,Dj,U0,Na,?_⟩;have ha:(allOf g)[i]? =some ((bh g)[i],i):=by
    unfold allOf;rw[Oa,HA];simp
   rw[e3,e2,take_snoc ha,VF];rfl
  rintro σ H2 ⟨v3,lf,us,rfl,lP,I0,Hd,e2⟩;have eA:(allOf g).take ((bh g).length:Int).toNat=allOf g:=by
   have:((bh g).length:Int).toNat=(allOf g).length:=by unfold allOf;rw[yt];omega
   rw[this,jY]
  rw[eA,<-nl]at e2;have ll2:=lP.ll;refine ⟨dU _,fun aB Nf=>?_⟩;have sB:=aC.nw (o:=.lst []) Nf;have s2:=lP.same;have faB:H aB=none:=s2.free Nf;obtain ⟨dx,Di,aL,aU,q1,q2,q3,q4,q5,q6,q7,q8⟩:=lP.ex;have npB:p≠aB:=dw q1 Nf;have nLB:aL≠aB:=dw q2 Nf;refine ⟨_,rfl,sB _ _ (s2 _ _ gP),T.iT,T.Lx,RI _ _ _ _ _ _ _,aE,rfl,⟨_,aD.of (sB _ _ (s2 _ _ EZ))⟩,qK (K:=K) (a:=aE) (xs:=UH.map V.ref) (fun i σ H'=>∃(v3 v5:Option V)(bs:List Addr),σ=[some (.ref ag),some (.int (x:Int)),some (.ref p),v3,some (.ref aB),v5,none,none,none]/\aC H H'/\
    H' p=some (.ins t.cP dx (qj Di ((x+1:Nat):Int) aL aU))/\H' aL=some (.lst (jg lf))/\H' aB=some (.lst (bs.map V.ref))/\bs.Nodup/\(∀b∈bs,H b=none/\b≠aB)/\bs.length=i/\∀(q:Nat)(b:Addr),bs[q]? =some b->H' b=some (.lst (nats (ofPlace (needed g x) q))))
   ⟨v3,none,[],rfl,s2.trans sB,sB _ _ q1,sB _ _ q2,aJ,Bu,by simp,rfl,by simp⟩ (fun i σ H' _ ⟨_,_,_,_,z,_⟩=>aD.of (z _ _ EZ)) ?_ ?_⟩
  .rintro i v σ H' hv ⟨v3,v5,bs,rfl,s3,p3,l3,b3,U5,A8,Jb,Bp⟩;obtain ⟨eb,UI,rfl⟩:=pd hv;obtain ⟨ln,A4,qv⟩:=lM CN UI;have qv:H eb=some (.lst (nats ln)):=qv;have hiN:i<g.objs.length+1:=by
    have U:=(gq.mp A4).1;unfold heldOf at U;rw[bt,xc]at U;exact U
   have HP:ln=numsOf (bh g) i:=by
    unfold heldOf at A4;rw[gp,BC hiN]at A4;exact (gE A4).symm
   subst HP;have nl1:=numsOf_len (bh g) i;refine ⟨_,rfl,.inl ⟨rfl,_,aD.of b3⟩,_,rfl,eb,rfl,⟨_,aD.of (s3 _ _ qv)⟩,fun D hD=>?_⟩;have fD:H D=none:=s3.free hD;refine wo (K:=K) (a:=eb) (xs:=nats (numsOf (bh g) i)) (fun j iJ=>aC H' iJ/\iJ D=some (.lst (nats (((numsOf (bh g) i).take j).filter fun n=>uf lf n)))) ⟨aC.nw hD,aJ⟩ (fun j iJ _ ⟨s5,_⟩=>aD.of (s5 _ _ (s3 _ _ qv))) ?_ ?_
   .rintro j v iJ hv ⟨s5,iw⟩;obtain ⟨n,hn,rfl⟩:=nQ hv;have hm:=iy hn;rw[LJ,II]at hm;have rf:n<(bh g).length:=by have:=(gq.mp hm).1;simpa using this
    have E8:=(gq.mp hn).1;refine ⟨rfl,_,rfl,s5 _ _ p3,T.jS,T.Hw,Ll _ _ _ _,_,rfl,aL,_,_,_,rfl,rfl,aD.of (s5 _ _ l3),at_of (j:=n) rfl (Bm (by omega)),_,rfl,?_⟩;rw[take_snoc hn,vJ,kO];cases e:uf lf n with
    |true=>
     refine xK ⟨_,rfl,_,iw,?_,s5.own hD,?_⟩
     .have:=mL (fun n=>uf lf n) ((numsOf (bh g) i).take j);rw[mB]at this;unfold nats;rw[bt,eE];omega
     .rw[aJ,if_pos rfl];unfold nats;rw[iO];rfl
    |false=>
     refine wq ⟨s5,?_⟩;rw[if_neg jt]
     simpa using iw
   .rintro H5 ⟨s5,iw⟩;have eT:(numsOf (bh g) i).take (nats (numsOf (bh g) i)).length=numsOf (bh g) i:=by unfold nats;rw[bt,jY]
    rw[eT,auJ,e2]at iw;have b5:=s5 _ _ b3;have nDB:D≠aB:=fun z=>(dw b3 hD) z.symm;have nDb:D∉bs:=fun z=>by
     obtain ⟨q,hq⟩:=rj z;rw[Bp q D hq]at hD;cases hD
    refine ⟨aB,_,V.ref D,rfl,rfl,b5,by rw[bt,Jb,eE];omega,?_⟩;refine ⟨_,_,bs++[D],rfl,(s3.trans s5).own faB,by rw[bC npB];exact s5 _ _ p3,by rw[bC nLB];exact s5 _ _ l3,by rw[aJ,iO];rfl,?_,?_,by rw[gR,Jb];rfl,?_⟩
    .rw[wZ];refine ⟨U5,by simp,fun a ha c hc e=>?_⟩;simp at hc;subst hc;exact nDb (e▸ha)
    .intro b hb;rcases kN.mp hb with z|z
     .exact A8 b z
     .simp at z;subst z;exact ⟨fD,nDB⟩
    .intro q b hq;by_cases z:q<bs.length
     .rw[By z]at hq;rw[bC (A8 b (iy hq)).2];exact s5 _ _ (Bp q b hq)
     .have hqi:q=i:=by
       have:=(gq.mp hq).1;rw[gR,Dz]at this;omega
      subst hqi;rw[NQ (by omega)]at hq;have:b=D:=by
       rw[show q-bs.length=0 by omega]at hq;exact (gE hq).symm
      subst this;rw[bC nDB];exact iw
  rintro σ H3 ⟨v3,v5,bs,rfl,s3,p3,l3,b3,U5,A8,Jb,Bp⟩;have auU:(UH.map V.ref).length=g.objs.length+1:=by
   rw[bt,CN.length];unfold heldOf;rw[bt,xc]
  rw[auU]at Jb;obtain ⟨b0,rR⟩:∃b,bs[0]? =some b:=⟨_,iN (by omega)⟩;have auV:=Bp 0 b0 rR;have auW:=WK.air fit.ok most;have afH:(needed g x).length<=1000:=by
   have:=adP g x;omega
  have auX:Rest g (needed g x):=by
   refine ⟨auW.nd,fun h hh=>?_,afH⟩;rw[<-e2]at hh;exact WK.tu.mp (gT.mp hh).1
  refine ⟨_,rfl,aB,_,_,_,rfl,rfl,aD.of b3,at_of (j:=0) (v:=V.ref b0) rfl (by rw[gp,rR];rfl),b0,_,rfl,.inl (aD.of auV),fun aI haI=>?_⟩;have sI:=aC.nw (o:=.lst (nats (ofPlace (needed g x) 0))) haI;refine ⟨dU _,fun aW Jc=>?_⟩;have sW:=aC.nw (o:=.lst []) Jc;have Jd:=sI.trans sW;have s4:=s3.trans Jd;have fW:H aW=none:=(s3.trans sI).free Jc;have nIW:aI≠aW:=dw aJ Jc;have afJ:∀{a:Addr},H3 a=none->a∉bs:=fun {a} e z=>by
   obtain ⟨q,hq⟩:=rj z;rw[Bp q a hq]at e;cases e
  have nIb:aI∉bs:=afJ haI;have au0:H3 aW=none:=sI.free Jc;have U7:aW∉bs:=afJ au0;have rep0:Rep g H (upd (upd H3 aI (.lst (nats (ofPlace (needed g x) 0)))) aW (.lst [])) aB bs (needed g x):=
   ⟨Jd _ _ b3,U5,Jb,fun b hb=>(A8 b hb).1,fun z=>(A8 aB z).2 rfl,fun b hb=>by
    obtain ⟨q,hq⟩:=rj hb;exact ⟨_,Jd _ _ (Bp q b hq)⟩,fun q b _ hq=>Jd _ _ (Bp q b hq)⟩
  have npb:p∉bs:=fun z=>by
   obtain ⟨q,hq⟩:=rj z;have:=Bp q p hq;rw[p3]at this;cases this
  have lof:(ofPlace (needed g x) 0).length<=1000:=by
   unfold ofPlace;rw[bt];exact gN (mL _ _) afH
  refine ⟨_,rfl,aI,rfl,⟨_,aD.of (sW _ _ aJ)⟩,qK (K:=K) (a:=aI) (xs:=nats (ofPlace (needed g x) 0)) (fun i σ H'=>∃(v8:Option V)(R:List HN)(as:List Addr)(ws:List (List Nat))(n:Nat),σ=[some (.ref ag),some (.int (x:Int)),some (.ref p),v3,some (.ref aB),v5,some (.ref aI),some (.ref aW),v8]/\aC H H'/\
    H' p=some (.ins t.cP dx (qj Di ((x+1:Nat):Int) aL aU))/\H' aI=some (.lst (nats (ofPlace (needed g x) 0)))/\H' aW=some (.lst (as.map V.ref))/\Paired (fun a w=>afE H' a w/\a∉bs/\a≠aW) as ws/\ws.length=i/\Rep g H H' aB bs R/\Rest g R/\iQ R uc (x+1) (kk-(i:Int))/\
    ofPlace R 0=(ofPlace (needed g x) 0).drop i/\R.length<n/\ws++waysIn x n R=ow g x)
   ⟨none,needed g x,[],[],(needed g x).length+1,rfl,s4,Jd _ _ p3,sW _ _ aJ,aJ,.nil,rfl,rep0,auX,by simpa using WK.aip fit.ok most,rfl,FT _,rfl⟩ (fun i σ H' _ ⟨_,_,_,_,_,_,_,_,z,_⟩=>aD.of z) ?_ ?_⟩
  .rintro i v σ H' hv ⟨v8,R,as,ws,n,rfl,s5,p5,i5,w5,Je,lw,yj,Nh,Ex,U9,hn5,Ni⟩;obtain ⟨a,ha,rfl⟩:=nQ hv;have oJ:=(gq.mp ha).1;have Jf:ofPlace R 0=a::(ofPlace (needed g x) 0).drop (i+1):=by
    rw[U9,Jt oJ];congr 1;rw[iN oJ]at ha;exact gE ha
   obtain ⟨h,hm,rfl,hf0,Ef,hb,ho,Nd,hw⟩:=WK.aiX Nh.nd Ex Jf;have rS:=Nh.sub h hm;have wl:=WK.Xq hm;have n1:n=(n-1)+1:=by omega
   have au3:Rep g H H' aB bs (without R h.2):=⟨yj.at_,yj.nd,yj.len,yj.new,yj.nB,yj.all,fun q b U h2=>by rw[Nd q (by omega)];exact yj.of q b U h2⟩;refine ⟨_,rfl,.inl ⟨rfl,_,aD.of w5⟩,_,rfl,_,rfl,_,rfl,p5,T.jS,T.Ly,aa3 _ _ _ _,_,rfl,ag,aB,h.2,x,R.length,H,g,bs,without R h.2,h.1,kk-(i:Int)-1,rfl,s5,hg,fit.ok,rS,au3,Nh.without _,hb,Ef,wl,?_⟩;intro H6 r R' Nj hr6 vz eR Bq au4 P7 of6 ayh s6;have nrb:r∉bs:=fun z=>by
    obtain ⟨l,e⟩:=yj.all r z;rw[hr6]at e;cases e
   have nrW:r≠aW:=fun z=>(dw w5 hr6) z.symm;have w6:=Nj _ _ w5 U7;have i6:=Nj _ _ i5 nIb;have p6:=Nj _ _ p5 npb;have Va:=Je.length;have npW:p≠aW:=iG p6 w6 (by intro z;cases z);refine ⟨aW,_,V.ref r,rfl,rfl,w6,by rw[bt,eE];omega,?_⟩;refine ⟨_,R',as++[r],ws++[h.2::(walk x R.length (dD h.1) (without R h.2)).1],n-1,rfl,s6.own fW,by rw[bC npW];exact p6,by rw[bC nIW];exact i6,by rw[aJ,iO];rfl,?_,by rw[gR,lw];rfl,?_,au4,?_,?_,by omega,?_⟩
   .refine vM (gX Je fun a' w' q=>⟨?_,q.2⟩) ⟨?_,nrb,nrW⟩
    .show _=_;rw[bC q.2.2];exact Nj _ _ q.1 q.2.1
    .show _=_;rw[bC nrW];exact vz
   .refine ⟨?_,Bq.nd,Bq.len,Bq.new,Bq.nB,fun b iU=>?_,fun q b U h2=>?_⟩
    .rw[bC (fun z=>by
      have U:=Bq.at_;have h2:=yj.at_;rw[z]at h2;have:=A8;exact (dw (sI _ _ b3) Jc) z)]
     exact Bq.at_
    .obtain ⟨l,e⟩:=Bq.all b iU;exact ⟨l,by rw[bC (fun z=>U7 (by rw[<-z];exact iU))];exact e⟩
    .rw[bC (fun z=>U7 (by rw[<-z];exact iy h2))];exact Bq.of q b U h2
   .have:kk-((i+1:Nat):Int)=kk-(i:Int)-1:=by push_cast;omega
    rw[this];exact P7
   .rw[of6,ho]
   .rw[<-Ni,n1,hw (n-1),eR];simp
  .rintro σ H' ⟨v8,R,as,ws,n,rfl,s5,p5,i5,w5,Je,lw,yj,Nh,Ex,U9,hn5,Ni⟩;have e0:ofPlace R 0=[]:=by
    rw[U9];unfold nats;rw[bt,agA]
   rw[WK.aiY e0 n,nZ]at Ni;rw[Ni]at Je;exact ⟨_,rfl,k H' aW as s5 fW w5 (gX Je fun a w q=>q.1)⟩
abbrev vC(ws:List (List Nat)):List Nat:=ws.flatMap fun w=>w.length::w
theorem au9{f fc fr:Addr}{fd CW oN:dn}(F:eW K "answer_ways" "answer_ways" Rz f fd)(T:Txt K mg t)(cc:eY P w K mg base bJ 7 "told_ways" fc CW Rc (afF t))(cr:eY P w K mg base bJ 4 "refusal_unless_live" fr oN Hm (MF K t)):c8 P w K mg base bJ 8 f fd aaL (sJ t fun ns _ c=>∃x,ns=[x]/\c=.ways x):=by
 refine F.ok aaM (fun vs H Q E h=>?_) (fun c6 A outer s H vs Q E hr h=>?_)
 .obtain ⟨p,aN,aL,g,past,ns,cS,c,rfl,_⟩:=h;rfl
 .obtain ⟨p,aN,aL,g,past,ns,cS,c,rfl,hD,gs,hN,hL,ll,ln,⟨x,rfl,rfl⟩,k⟩:=h;have nd:=aaM.nd;have rg:dQ 4 _:=hr.mono (by decide);refine ⟨_,bF (dB (i:=3) nd rfl (Or.inl rfl) (eB cr.G rg rfl cr.m cr.kp cr.b .nil di (ax (cO (pv 0) rfl) (ax (gj ia (pv 1) gg (fun _ _=>rfl)) aO))))
   (bF (mQ (ng uu (pv 3) (gY T.lN) (mS _)) (cy (eN (dG (ax (pv 3) aO)))) mP)
   (bF (dB (i:=4) nd rfl (Or.inl rfl) (eB cc.G hr rfl cc.m cc.kp cc.b .nil di (ax (cO (pv 0) rfl) (ax (gj ia (pv 1) gg (fun _ _=>rfl)) aO))))
   (bF (dB (i:=5) nd rfl (Or.inl rfl) (dG (ax (gY T.lN) (ax (jR l7 (by rfl) T.len lW (ax (pv 4) aO)) aO))))
   (bF (kW jW rfl (l0 (pv 4)) (gG (i:=6) nd rfl (Or.inl rfl))
    (bF (jv (j8 jX n6 n8 nM (pv 5) (ax (jR l7 (by rfl) T.len lW (ax (pv 6) aO)) aO)))
    (cy (jv (j8 jX xb zU Az (pv 5) (ax (pv 6) aO))))))
   (cy (eN (pv 5))))))),?_⟩
  try dsimp only[fQ,fS,fT,fV]
  have iE:=hD;obtain ⟨dx,ag,ab,gM,hp,hg,hb,mJ⟩:=hD;have fit:=nA gs.now;have mK:mf [V.int x] 0=some (V.int x):=at_of (j:=0) rfl rfl;refine ⟨_,rfl,hp,T.iI,T.jE,j9 _ _,_,rfl,aN,_,_,_,rfl,rfl,aD.of hN,mK,ag,g,x,rfl,hg,fit,?_⟩;intro H1 s2;have st:lp ⟨g,past⟩ (.ways x)=(⟨g,past⟩,if px g x=0 then 0::toInts ((ow g x.toNat).length::vC (ow g x.toNat)) else [px g x]):=by
   show (_,Vasnpb.onLive ⟨g,past⟩ x fun n=>0::toInts ((ow g n).length::vC (ow g n)))=_;rw[T3]
  rw[st]at k;refine ⟨_,rfl,rfl,_,rfl,?_⟩;by_cases z:px g x=0
  .rw[if_pos z]at k;refine yJ (by rw[z]) ?_;obtain ⟨z1,z2⟩:=T4 z;have nx:0<=x:=by
    unfold nU at z1;rw[jN,decide_eq_true_iff]at z1;exact z1.1
   have ex:x=((x.toNat:Nat):Int):=(FY nx).symm;have U2:=Iw fit [] [] x.toNat z2;obtain ⟨wl1,wl2⟩:=adQ gs.now x.toNat;have fl:∀i,(vC ((ow g x.toNat).take i)).length<=40000:=fun i=>by
    refine gN ?_ wl2;have e:vC (ow g x.toNat)=vC ((ow g x.toNat).take i)++vC ((ow g x.toNat).drop i):=by
     unfold vC;rw[<-sZ,FP]
    show _<=(vC (ow g x.toNat)).length;rw[e,gR];omega
   refine ⟨_,rfl,s2 _ _ hp,T.iI,T.jE,j9 _ _,_,rfl,aN,_,_,_,rfl,rfl,aD.of (s2 _ _ hN),mK,ag,g,x.toNat,congrArg (fun z=>[V.ref ag,V.int z]) ex,hg.same s2,gs.now,U2,?_⟩;intro H2 aW as s4 hW2 Nk pr;have sA:=s2.trans s4;have Va:=pr.length;refine ⟨_,rfl,aW,_,rfl,.inl (aD.of Nk),(by show 2<=cJ;decide),fun o ho=>?_⟩;have s5:=sA.trans (aC.nw (o:=.lst [V.int 0,V.int ((as.map V.ref).length:Int)]) ho);have fo:=sA.free ho;have nWo:aW≠o:=dw Nk ho;refine ⟨_,rfl,aW,rfl,⟨_,aD.of (by rw[bC nWo];exact Nk)⟩,?_⟩;refine qK (K:=K) (a:=aW) (xs:=as.map V.ref) (fun i σ H'=>∃v6:Option V,σ=[some (.ref p),some (.ref aN),some (.ref aL),some (.int (px g x)),some (.ref aW),some (.ref o),v6]/\aC H H'/\aC H2 H'/\H' o=some (.lst ((0::toInts ((ow g x.toNat).length::vC ((ow g x.toNat).take i))).map V.int)))
    ⟨none,rfl,s5,aC.nw ho,?_⟩ (fun i σ H' _ ⟨_,_,_,s1,_⟩=>aD.of (s1 _ _ Nk)) ?_ ?_
   .rw[aJ,bt,Va];rfl
   .rintro i v σ H' hx ⟨v6,rfl,s6,s7,Jg⟩;obtain ⟨c,hc,rfl⟩:=pd hx;obtain ⟨w1,hw,Jh⟩:=lM pr hc;have Jh:H2 c=some (.lst (nats w1)):=Jh;have hc7:=s7 _ _ Jh;have nco:o≠c:=fun z=>by rw[<-z,ho]at Jh;cases Jh
    have fi:=fl i;have fi1:=fl (i+1);have esn:vC ((ow g x.toNat).take (i+1))=vC ((ow g x.toNat).take i)++(w1.length::w1):=by
     rw[take_snoc hw];unfold vC;rw[sZ,JD,List.flatMap_nil,nZ]
    rw[esn,gR,iz]at fi1;refine ⟨_,rfl,.inl ⟨rfl,_,aD.of Jg⟩,_,rfl,c,_,rfl,.inl (aD.of hc7),o,_,_,rfl,rfl,Jg,?_,?_⟩
    .rw[bt,iz,Me,iz,eE];omega
    refine ⟨_,rfl,.inl ⟨rfl,_,aD.of aJ⟩,_,rfl,o,c,_,_,rfl,rfl,aJ,by rw[bC (fun z=>nco z.symm)];exact hc7,?_,?_⟩
    .unfold nats;rw[gR,bt,bt,iz,Me,iz,eE];show _+1+_<=_;omega
    .refine ⟨_,rfl,(s6.own fo).own fo,(s7.own ho).own ho,?_⟩;rw[aJ,esn];simp[toInts,nats]
   .rintro σ H3 ⟨v6,rfl,s6,s7,Jg⟩;refine ⟨_,rfl,?_⟩;have e:(ow g x.toNat).take (as.map V.ref).length=ow g x.toNat:=by rw[bt,Va,jY]
    rw[e]at Jg;exact k H3 o s6.but fo (iE.same s6) Jg
  .rw[if_neg z]at k;refine jq (fun _=>?_) (fun y'=>absurd ?_ y')
   .refine ⟨_,rfl,(by show 1<=cJ;decide),fun r eD=>?_⟩;have sB:=s2.trans (aC.nw (o:=.lst [V.int (px g x)]) eD);exact k _ r sB.but (s2.free eD) (iE.same sB) aJ
   .rw[rh,decide_eq_false_iff_not];intro e;exact z (V.int.inj e)
structure afQ(P:eS)(w:eJ)(K:cB)(mg:Str->Option aq)(base:Heap)(t:fZ)(es:Array qD):Prop where
 at_:∀(n:Int)(a b:Nat),uV n=some (a,b)->∃(tp f:Addr)(k:Nat)(fd:dn),findBy rY es (Sum.inl n)=some (.ref tp)/\(∀H,kj K H tp [V.int (a:Int),V.int (b:Int),V.ref f])/\pZ K (.ref f)=true/\k<=10/\
  c8 P w K mg base bJ k f fd CY (Bg t fun ns cS c=>m6 ((n::ns)::cS)=some c)/\Binds K fd CY []
def afR(K:cB)(t:fZ):Sp:=fun vs H Q _=>∃p q a xs rest qr g past call c,vs=[.ref p,.ref q]/\p≠q/\mq t H p g past/\l9 t H/\uK g past/\aD K H a (xs.map V.int)/\mX t H q a xs rest/\
 PyFlat.call uV rest=some (call,qr)/\m6 call=some c/\(∀l∈call.tail,l.length<=1000)/\
 ∀H' r,(∀b o,H b=some o->b≠p->b≠q->(∀ps,o≠.kU ps)->H' b=some o)->l9 t H'->H r=none->mq t H' p (lp ⟨g,past⟩ c).1.graph (lp ⟨g,past⟩ c).1.past->mX t H' q a xs qr->H' r=some (.lst ((lp ⟨g,past⟩ c).2.map V.int))->Q (.ref r) H'
theorem ave{f ft fm:Addr}{fd HG CM:dn}{d:Addr}{es:Array qD}(F:eW K "answer_next" "answer_next" RD f fd)(T:Txt K mg t)(hm:mg "CALLS"=some (.ref d))(tab:KTab K d es)(dp:afQ P w K mg base t es)(ct:pP P w K mg base bJ 1 t.cR "take" ft HG K3 (R0 K t))(cm:pP P w K mg base bJ 1 t.cR "take_many" fm CM Qc (acD K t)):
  c8 P w K mg base bJ 11 f fd RE (afR K t):=by
 refine F.ok aaS (fun vs H Q E h=>?_) (fun c6 A outer s H vs Q E hr h=>?_)
 .obtain ⟨p,q,a,xs,rest,qr,g,past,call,c,rfl,_⟩:=h;rfl
 .obtain ⟨p,q,a,xs,rest,qr,g,past,call,c,rfl,Nl,hD,Vb,gs,hS,hR,hc,J5,IJ,k⟩:=h;have nd:=aaS.nd;have ig:dQ 1 _:=hr.mono (by decide);refine ⟨_,bF (dB (i:=2) nd rfl (Or.inl rfl) (aod rfl hm tab (B8 (pv 1) T.pN ct.mt ct.G ig ct.b .nil di) (fun _ _=>rfl)))
   (bF (dB (i:=3) nd rfl (Or.inl rfl) (uw (pv 1) T.pN cm.mt cm.G ig cm.b .nil di (ax (gj Kx (pv 2) gg (fun _ _=>rfl)) aO)))
   (bF (dB (i:=4) nd rfl (Or.inl rfl) (dG aO))
   (bF (kW jW rfl (B0 rfl T.range (ax (gj Kx (pv 2) gg (fun _ _=>rfl)) aO)) (gG (i:=5) nd rfl (Or.inl rfl))
    (bF (dB (i:=6) nd rfl (Or.inl rfl) (B8 (pv 1) T.pN ct.mt ct.G ig ct.b .nil di))
    (cy (jv (j8 jX n6 n8 nM (pv 4) (ax (uw (pv 1) T.pN cm.mt cm.G ig cm.b .nil di (ax (pv 6) aO)) aO))))))
   (cy (eN (aof (gj Kx (pv 2) gg (fun _ _=>rfl)) (ax (pv 0) (ax (pv 3) (ax (pv 4) aO))))))))),?_⟩
  try dsimp only[fQ,fS,fT,fV]
  cases rest with
  |nil=>cases hc
  |cons n r=>
  have hc:(match uV n with|none=>none|some (m,kk)=>if r.length<m then none else match PyFlat.rows kk (r.drop m) with|none=>none|some (xs,t)=>some ((n::r.take m)::xs,t))=some (call,qr):=hc;cases Nm:uV n with
  |none=>rw[Nm]at hc;cases hc
  |some mk=>
  obtain ⟨m,kk⟩:=mk;rw[Nm]at hc;simp only at hc;by_cases z1:r.length<m
  .rw[if_pos z1]at hc;cases hc
  rw[if_neg z1]at hc;cases Nn:PyFlat.rows kk (r.drop m) with
  |none=>rw[Nn]at hc;cases hc
  |some xt=>
  obtain ⟨cS,tt⟩:=xt;rw[Nn]at hc;cases hc;obtain ⟨hm2,zd⟩:=aqH Nm;obtain ⟨tp,fa,kf,Sq,US,Vc,avg,hkf,hFn,MH⟩:=dp.at_ n m kk Nm;obtain ⟨dq,i,hq,hi,hd⟩:=hR;have Np:∀{j:Int}{m:Str},(¬m="numbers")->(¬m="at")->(il a j).lookup m=none:=fun U h2=>Lk _ _ U h2;have hli:i<xs.length:=by
   rcases zO i xs.length with z|z
   .exact z
   .rw[zT z]at hd;cases hd
  have Nq:xs[i]=n/\xs.drop (i+1)=r:=by
   rw[Jt hli]at hd;exact ⟨(Bz hd).1,(Bz hd).2⟩
  refine ⟨_,rfl,q,dq,_,rfl,hq,Np (by decide +kernel) (by decide +kernel),q,a,dq,(i:Int),_,V.int n,rfl,hq,hS,at_of (j:=i) rfl (by rw[gp,iN hli,Nq.1];rfl),?_⟩;refine ⟨n,V.ref tp,_,rfl,US,rfl,?_⟩;have b1:bY q H (upd H q (.ins t.cR dq (il a ((i:Int)+1)))):=(bY.refl q H).upd;have Uk:=aD.but hS b1 hq;have i01:mf [V.int (m:Int),V.int (kk:Int),V.ref fa] 0=some (V.int (m:Int)):=at_of (j:=0) rfl rfl;have i11:mf [V.int (m:Int),V.int (kk:Int),V.ref fa] 1=some (V.int (kk:Int)):=at_of (j:=1) rfl rfl;have i21:mf [V.int (m:Int),V.int (kk:Int),V.ref fa] 2=some (V.ref fa):=at_of (j:=2) rfl rfl;refine ⟨_,rfl,q,dq,_,rfl,aJ,Np (by decide +kernel) (by decide +kernel),_,rfl,tp,_,_,_,rfl,rfl,Vc _,i01,q,a,dq,(i:Int)+1,(m:Int),_,rfl,aJ,Uk,?_⟩;intro aN hN;have afT:∀(j c:Nat),nj (xs.map V.int) (some ((j:Nat):Int)) (some (((j:Nat):Int)+((c:Nat):Int)))=((xs.drop j).take c).map V.int:=by
   intro j c;rw[apP,<-List.map_drop,<-ahw]
  have ec1:nj (xs.map V.int) (some ((i:Int)+1)) (some ((i:Int)+1+(m:Int)))=(r.take m).map V.int:=by
   have:=afT (i+1) m;rw[Nq.2]at this;exact this
  rw[ec1];have Ji:aN≠q:=fun z=>by rw[z,aJ]at hN;cases hN
  have fN:H aN=none:=xX b1 ⟨_,aJ⟩ hN;refine ⟨dU _,fun aL hL=>?_⟩;have Nr:aL≠q:=fun z=>by rw[z,aJ]at hL;cases hL
  have nLN:aL≠aN:=fun z=>by rw[z,bC Ji,aJ]at hL;cases hL
  have b2:bY q H (upd (upd (upd (upd H q (.ins t.cR dq (il a ((i:Int)+1)))) aN (.lst ((r.take m).map V.int))) q (.ins t.cR dq (il a ((i:Int)+1+(m:Int))))) aL (.lst [])):=by
   have bb:bY q H (upd (upd (upd H q (.ins t.cR dq (il a ((i:Int)+1)))) aN (.lst ((r.take m).map V.int))) q (.ins t.cR dq (il a ((i:Int)+1+(m:Int))))):=(b1.new fN).upd;exact bb.new (xX bb ⟨_,aJ⟩ hL)
  have fL:H aL=none:=by
   have bb:bY q H (upd (upd (upd H q (.ins t.cR dq (il a ((i:Int)+1)))) aN (.lst ((r.take m).map V.int))) q (.ins t.cR dq (il a ((i:Int)+1+(m:Int))))):=(b1.new fN).upd;exact xX bb ⟨_,aJ⟩ hL
  have aym:r.length=xs.length-(i+1):=by rw[<-Nq.2,Jz]
  refine ⟨_,rfl,tp,_,_,_,rfl,rfl,Vc _,i11,(kk:Int),rfl,by omega,by omega,D0 (n:=(kk:Int).toNat) (fun j σ H'=>∃(v5 v6:Option V)(done todo:List (List Int))(rs:List Int)(bs:List Addr),σ=[some (.ref p),some (.ref q),some (.ref tp),some (.ref aN),some (.ref aL),v5,v6]/\bY q H H'/\
    done++todo=cS/\PyFlat.rows (kk-j) rs=some (todo,qr)/\mX t H' q a xs rs/\H' aN=some (.lst ((r.take m).map V.int))/\H' aL=some (.lst (bs.map V.ref))/\Paired (fun b l=>H' b=some (.lst (l.map V.int))/\b≠aL) bs done)
   ⟨none,none,[],cS,r.drop m,[],rfl,b2,rfl,Nn,⟨dq,i+1+m,?_,?_,?_⟩,?_,aJ,.nil⟩ ?_ ?_⟩
  .rw[bC (fun z=>Nr z.symm),aJ];rfl
  .omega
  .rw[<-Nq.2,ahN]
  .rw[bC (fun z=>nLN z.symm),bC Ji,aJ]
  .rintro j σ H' hj ⟨v5,v6,done,todo,rs,bs,rfl,b3,Jj,rT,⟨d3,i3,ra,HL,mj⟩,Nu,Il,pb⟩;have ej:kk-j=(kk-(j+1))+1:=by omega
   rw[ej]at rT;have rT:(match PyFlat.row rs with|none=>none|some (x,s)=>match PyFlat.rows (kk-(j+1)) s with|none=>none|some (xs,t)=>some (x::xs,t))=some (todo,qr):=rT;cases e1:PyFlat.row rs with
   |none=>rw[e1]at rT;cases rT
   |some xs1=>
   obtain ⟨x1,s1⟩:=xs1;rw[e1]at rT;simp only at rT;cases e2:PyFlat.rows (kk-(j+1)) s1 with
   |none=>rw[e2]at rT;cases rT
   |some xs2=>
   obtain ⟨avp,tt'⟩:=xs2;rw[e2]at rT;cases rT;obtain ⟨c1,t1,rfl,Ht,mG,rfl,rfl⟩:=aqG e1;have mn:i3<xs.length:=by
    rcases zO i3 xs.length with z|z
    .exact z
    .rw[zT z]at mj;cases mj
   have Nv:xs[i3]=c1/\xs.drop (i3+1)=t1:=by
    rw[Jt mn]at mj;exact ⟨(Bz mj).1,(Bz mj).2⟩
   have hS3:=aD.but hS b3 hq;refine ⟨_,rfl,q,d3,_,rfl,ra,Np (by decide +kernel) (by decide +kernel),q,a,d3,(i3:Int),_,V.int c1,rfl,ra,hS3,at_of (j:=i3) rfl (by rw[gp,iN mn,Nv.1];rfl),?_⟩;have b4:bY q H (upd H' q (.ins t.cR d3 (il a ((i3:Int)+1)))):=b3.upd;have Vd:(upd H' q (.ins t.cR d3 (il a ((i3:Int)+1)))) aL=some (.lst (bs.map V.ref)):=by rw[bC Nr];exact Il
   refine ⟨_,rfl,.inl ⟨rfl,_,aD.of Vd⟩,_,rfl,q,d3,_,rfl,aJ,Np (by decide +kernel) (by decide +kernel),_,rfl,q,a,d3,(i3:Int)+1,c1,_,rfl,aJ,aD.but hS b4 hq,?_⟩;intro l5 h5;have ec3:nj (xs.map V.int) (some ((i3:Int)+1)) (some ((i3:Int)+1+c1))=(t1.take c1.toNat).map V.int:=by
    have:=afT (i3+1) c1.toNat;rw[Nv.2]at this;have ec:((c1.toNat:Nat):Int)=c1:=by omega
    rw[ec]at this;exact this
   rw[ec3];have n5q:l5≠q:=fun z=>by rw[z,aJ]at h5;cases h5
   have Ve:l5≠aL:=fun z=>by rw[z,Vd]at h5;cases h5
   have f5:H l5=none:=xX b4 ⟨_,aJ⟩ h5;have b5:bY q H (upd (upd (upd H' q (.ins t.cR d3 (il a ((i3:Int)+1)))) l5 (.lst ((t1.take c1.toNat).map V.int))) q (.ins t.cR d3 (il a ((i3:Int)+1+c1)))):=(b4.new f5).upd;have hL5:(upd (upd (upd H' q (.ins t.cR d3 (il a ((i3:Int)+1)))) l5 (.lst ((t1.take c1.toNat).map V.int))) q (.ins t.cR d3 (il a ((i3:Int)+1+c1)))) aL=some (.lst (bs.map V.ref)):=by
    rw[bC Nr,bC (fun z=>Ve z.symm)];exact Vd
   have M0:=pb.length;have ldn:done.length<=cS.length:=by rw[<-Jj,gR];omega
   have llk:cS.length<=2:=by
    have gen:∀(n:Nat)(r:List Int)(l:List (List Int))(t:List Int),PyFlat.rows n r=some (l,t)->l.length=n:=by
     intro n
     induction n with
     |zero=>intro r l t h;cases h;rfl
     |succ n ih=>
      intro r l t h;have h:(match PyFlat.row r with|none=>none|some (x,s)=>match PyFlat.rows n s with|none=>none|some (xs,t)=>some (x::xs,t))=some (l,t):=h;cases e1:PyFlat.row r with
      |none=>rw[e1]at h;cases h
      |some y=>
       rw[e1]at h;simp only at h;cases e2:PyFlat.rows n y.2 with
       |none=>rw[e2]at h;cases h
       |some y2=>
        rw[e2]at h;cases h;simp[ih _ _ _ e2]
    have:=gen _ _ _ _ Nn;omega
   refine ⟨aL,_,V.ref l5,rfl,rfl,hL5,by rw[bt,eE];omega,?_⟩;have bL:bY aL (upd (upd (upd H' q (.ins t.cR d3 (il a ((i3:Int)+1)))) l5 (.lst ((t1.take c1.toNat).map V.int))) q (.ins t.cR d3 (il a ((i3:Int)+1+c1)))) (upd (upd (upd (upd H' q (.ins t.cR d3 (il a ((i3:Int)+1)))) l5 (.lst ((t1.take c1.toNat).map V.int))) q (.ins t.cR d3 (il a ((i3:Int)+1+c1)))) aL (.lst (bs.map V.ref++[V.ref l5]))):=(bY.refl aL _).upd;have ayq:t1.length=xs.length-(i3+1):=by rw[<-Nv.2,Jz]
   have q3l:∀{b:Addr}{u:HO},b≠q->H' b=some u->b≠l5:=fun {b u} nb e z=>by
    rw[z]at e;rw[bC n5q]at h5;rw[h5]at e;cases e
   refine ⟨_,_,done++[t1.take c1.toNat],avp,t1.drop c1.toNat,bs++[l5],rfl,b5.new fL,by rw[uS];exact Jj,e2,⟨d3,i3+1+c1.toNat,?_,by omega,by rw[<-Nv.2,ahN]⟩,?_,by rw[aJ,iO];rfl,?_⟩
   .rw[bC (fun z=>Nr z.symm),aJ];have:((i3+1+c1.toNat:Nat):Int)=(i3:Int)+1+c1:=by omega
    rw[this]
   .rw[bC (fun z=>nLN z.symm),bC Ji,bC (q3l Ji Nu),bC Ji];exact Nu
   .refine vM (gX pb ?_) ⟨?_,Ve⟩
    .rintro b l ⟨e,nb⟩;have Vf:b≠q:=oM e ra;refine ⟨?_,nb⟩;rw[bC nb,bC Vf,bC (q3l Vf e),bC Vf];exact e
    .rw[bC Ve,bC n5q,aJ]
  .rintro σ H1 ⟨v5,v6,done,todo,rs,bs,rfl,b3,Jj,rT,vq,Nu,Il,pb⟩;have e0:kk-(kk:Int).toNat=0:=by omega
   rw[e0]at rT;have rT:some (([]:List (List Int)),rs)=some (todo,qr):=rT;cases rT;rw[nZ]at Jj;subst Jj;refine ⟨_,rfl,tp,_,_,_,rfl,rfl,Vc _,i21,fa,kf,Sq,CY,_,rfl,avg,hr.mono hkf,hFn,MH,?_⟩;refine ⟨_,rfl,_,rfl,_,rfl,?_⟩;have x9:=hD.aqF b3 hq (by simp[il]) (by simp[il]) Nl;refine ⟨p,aN,aL,g,past,r.take m,done,c,rfl,x9,gs,Nu,⟨bs,Il,gX pb fun _ _ z=>z.1⟩,IJ,?_,Vb.but b3 hq,J5,?_⟩
   .rw[mB];omega
   .intro H2 rr b4 Vg De nv Nw;have ra:=vq.ins;refine k H2 rr (fun b o e n1 n2 n3=>b4 b o (b3 b o e n2) n1 n3) Vg ?_ nv ?_ Nw
    .obtain ⟨_,_,ra⟩:=ra;exact xX b3 ⟨_,ra⟩ De
    .obtain ⟨d3,i3,ra,HL,mj⟩:=vq;exact ⟨d3,i3,b4 _ _ ra (fun z=>Nl z.symm) (by intro _ y;cases y),HL,mj⟩
theorem iC.seq{H H':Hp}{a:Addr}{xs:List V}(s:iC H H')(h:aD K H a xs):aD K H' a xs:=by
 rcases h with (h|⟨o,h⟩)|h
 .exact .inl (.inl (s _ _ h (by intro _ y;cases y)))
 .exact .inl (.inr ⟨o,s _ _ h (by intro _ y;cases y)⟩)
 .exact .inr h
theorem avt{f fD fR fe fn:Addr}{fd fdD So wH R9:dn}(F:eW K "answers" "answers" RC f fd)(T:Txt K mg t)(sok:adL)(cD:xT P w K mg base bJ 7 t.cD fD fdD Qz (ada t))(RX:mg "Desk"=some (.ref t.cD))(cR:xT P w K mg base bJ 1 t.cR fR So K2 (RZ t))(ce:pP P w K mg base bJ 1 t.cR "ended" fe wH He (LG K t))(cn:eY P w K mg base bJ 11 "answer_next" fn R9 RE (afR K t)):
  c8 P w K mg base bJ 12 f fd Co (LF K t):=by
 refine F.ok aaR (fun vs H Q E h=>?_) (fun c6 A outer s H vs Q E hr h=>?_)
 .obtain ⟨a,xs,rfl,_⟩:=h;rfl
 .obtain ⟨a,xs,rfl,hS,Vb,zM,k⟩:=h;have nd:=aaR.nd;have ig:dQ 1 _:=hr.mono (by decide);have mY:dQ 2 _:=hr.mono (by decide);have hr8:dQ 8 _:=hr.mono (by decide);refine ⟨_,bF (dB (i:=1) nd rfl (Or.inl rfl) (aks cD.M cD.G hr8 rfl RX cD.b .nil di))
   (bF (dB (i:=2) nd rfl (Or.inl rfl) (yG cR.M cR.G mY rfl T.mgR cR.b .nil di (ax (pv 0) aO)))
   (bF (dB (i:=3) nd rfl (Or.inl rfl) (dG aO))
   (bF (BY jW (DW (tF (B8 (pv 2) T.pN ce.mt ce.G ig ce.b .nil di)))
    (bF (amk (dB (i:=4) nd rfl (Or.inl rfl) (eB cn.G hr rfl cn.m cn.kp cn.b .nil di (ax (pv 1) (ax (pv 2) aO)))))
    (bF (jv (j8 jX n6 n8 nM (pv 3) (ax (jR l7 (by rfl) T.len lW (ax (pv 4) aO)) aO)))
    (cy (jv (j8 jX xb zU Az (pv 3) (ax (pv 4) aO)))))))
   (cy (eN (pv 3)))))),?_⟩
  try dsimp only[fQ,fS,fT,fV]
  unfold PyVasnpb.answers_asked at zM;unfold PyVasnpb.answers at k;cases Jf:PyFlat.calls uV xs.length xs with
  |none=>
   have e0:PyVasnpb.calls xs=none:=by unfold PyVasnpb.calls;rw[Jf]
   rw[e0]at zM;cases zM
  |some yk=>
  have e0:PyVasnpb.calls xs=some yk:=by
   unfold PyVasnpb.calls;rw[Jf];show some (yk.map PyVasnpb.whole)=some yk;congr 1;rw[yo (g:=id) (fun c _=>aqN c),Wa]
  rw[e0]at zM k;simp only at zM k;rw[jN]at zM;obtain ⟨afY,Vh⟩:=zM;have afY:yk.length<=60:=by simpa[PyFlat.atMost]using afY
  unfold VasnpbNeutral.asked at Vh;rw[jN]at Vh;have qR:∀c∈yk,VasnpbNeutral.asked1 c=true:=tZ.mp Vh.1;intro p d1 np SU ne1;refine ⟨p,d1,rfl,aJ,?_⟩;intro H1 b1 x9;have Uu:aC H (upd (upd H d1 (.own p)) p (.ins t.cD d1 [])):=(aC.nw SU).own np;have s1:aC H H1:=b1.same Uu np;refine ⟨rfl,?_⟩;refine ⟨_,rfl,?_⟩;intro q d2 nq vt ne2;refine ⟨q,d2,a,rfl,aJ,?_⟩;rw[oz];have s2:aC H1 (upd (upd H1 d2 (.own q)) q (.ins t.cR d2 (il a 0))):=(aC.nw vt).own nq;have Nl:p≠q:=by
   obtain ⟨_,_,_,_,e,_⟩:=x9;exact dw e nq
  have nv:=x9.same s2;have yy:(upd (upd H1 d2 (.own q)) q (.ins t.cR d2 (il a 0))) q=some (.ins t.cR d2 (il a 0)):=aJ;refine ⟨rfl,dU _,fun pt Dl=>?_⟩;have fq:H q=none:=s1.free nq;have Vi:H pt=none:=(s1.trans s2).free Dl;have Vj:q≠pt:=dw yy Dl;have npt:p≠pt:=by
   obtain ⟨_,_,_,_,e,_⟩:=nv;exact dw e Dl
  refine ⟨fun m σ H'=>∃(v4:Option V)(fuel:Nat)(rest:List Int)(cs:List (List (List Int)))(g:bp)(past:List bp)(told:List Int),σ=[some (.ref a),some (.ref p),some (.ref q),some (.ref pt),v4]/\iC H H'/\l9 t H'/\H' pt=some (.lst (told.map V.int))/\
    mq t (upd H' pt (.tup [])) p g past/\mX t H' q a xs rest/\uK g past/\PyFlat.calls uV fuel rest=some cs/\(∀c∈cs,VasnpbNeutral.asked1 c=true)/\
    told++PyFlat.told (PyFlat.played VasnpbNeutral.step ⟨g,past⟩ cs)=PyFlat.told (PyFlat.played VasnpbNeutral.step VasnpbNeutral.start yk)/\told.length+cs.length*100001<=60*100001/\m=cs.length,
   ⟨yk.length,none,xs.length,xs,yk,LM,[],[],rfl,((s1.trans s2).new Dl).tt,Vb.same ((s1.trans s2).new Dl),aJ,?_,?_,⟨by decide +kernel,by simp,by simp⟩,Jf,qR,rfl,by simp;omega,rfl⟩,?_⟩
  .rw[oz];exact nv.same (aC.nw Dl)
  .exact ⟨d2,0,(aC.nw Dl) _ _ yy,dU _,rfl⟩
  .rintro m σ H' ⟨v4,fuel,rest,cs,g,past,told,rfl,s3,Bi,Vk,sP,vq,gs,vE,ha,afZ,hlen,rfl⟩;obtain ⟨d3,i3,ra,HL,mj⟩:=vq;refine ⟨_,rfl,q,d3,_,rfl,ra,Lk _ _ (by decide +kernel) (by decide +kernel),q,a,(i3:Int),_,rfl,⟨d3,ra⟩,s3.seq hS,?_⟩;refine ⟨_,rfl,?_⟩;rw[bt];cases rest with
   |nil=>
    have hle:xs.length<=i3:=List.drop_eq_nil_iff.mp mj;have ed:decide ((xs.length:Int)<=(i3:Int))=true:=by simpa using hle
    have avz:cs=[]:=by
     cases fuel<;>(cases vE;rfl)
    subst avz;rw[ed];have et:told=PyFlat.told (PyFlat.played VasnpbNeutral.step VasnpbNeutral.start yk):=by
     rw[<-afZ];show told=told++[];rw[nZ]
    refine ⟨_,rfl,k H' pt s3 Bi Vi ?_⟩;rw[Vk,et]
   |cons n r=>
    have eU:i3<xs.length:=by
     rcases zO i3 xs.length with z|z
     .exact z
     .rw[zT z]at mj;cases mj
    have ed:decide ((xs.length:Int)<=(i3:Int))=false:=by simpa using eU
    rw[ed];cases fuel with
    |zero=>cases vE
    |succ fuel=>
    have vE:(match PyFlat.call uV (n::r) with|none=>none|some (c,t)=>match PyFlat.calls uV fuel t with|none=>none|some cs=>some (c::cs))=some cs:=vE;cases e1:PyFlat.call uV (n::r) with
    |none=>rw[e1]at vE;cases vE
    |some ct=>
    obtain ⟨c1,qr⟩:=ct;rw[e1]at vE;simp only at vE;cases e2:PyFlat.calls uV fuel qr with
    |none=>rw[e2]at vE;cases vE
    |some yX=>
    rw[e2]at vE;cases vE;have ha1:=ha c1 (by simp);obtain ⟨⟨c,hc⟩,IJ⟩:=aqM ha1;obtain ⟨gs',hal⟩:=sok g past c1 c gs ha1 hc;refine ⟨fun cV H'=>∃(v4:Option V)(fuel:Nat)(rest:List Int)(cs:List (List (List Int)))(g:bp)(past:List bp)(told:List Int),cV=[some (.ref a),some (.ref p),some (.ref q),some (.ref pt),v4]/\iC H H'/\l9 t H'/\H' pt=some (.lst (told.map V.int))/\
     mq t (upd H' pt (.tup [])) p g past/\mX t H' q a xs rest/\uK g past/\PyFlat.calls uV fuel rest=some cs/\(∀c∈cs,VasnpbNeutral.asked1 c=true)/\
     told++PyFlat.told (PyFlat.played VasnpbNeutral.step ⟨g,past⟩ cs)=PyFlat.told (PyFlat.played VasnpbNeutral.step VasnpbNeutral.start yk)/\told.length+cs.length*100001<=60*100001/\yX.length=cs.length,
     fun cV H' hN=>⟨yX.length,by simp,hN⟩,?_⟩
    refine ⟨pt,_,Vk,trivial,fun od=>?_⟩;refine ⟨_,rfl,_,rfl,?_⟩;have hq4:(upd H' pt (.gU od (.lst (told.map V.int)))) q=some (.ins t.cR d3 (il a (i3:Int))):=by rw[bC Vj];exact ra
    have uD:mq t (upd H' pt (.gU od (.lst (told.map V.int)))) p g past:=by
     refine sP.tU (z:=pt) (fun b o e nb=>?_) ⟨fun _ z=>(by rw[aJ]at z;cases z),fun _ _ _ z=>(by rw[aJ]at z;cases z)⟩;rw[bC nb]at e ⊢;exact e
    have Vg:l9 t (upd H' pt (.gU od (.lst (told.map V.int)))):=Bi.Iv (bY.refl pt H').upd Vk (by intro φ y;cases y) (by intro ps y;cases y);refine ⟨p,q,a,xs,n::r,qr,g,past,c1,c,rfl,Nl,uD,Vg,gs,(s3.own Vi).seq hS,⟨d3,i3,hq4,HL,mj⟩,e1,hc,IJ,?_⟩;intro H5 rr keep tb5 De iw CD Nw;have Ny:H5 pt=some (.gU od (.lst (told.map V.int))):=keep _ _ aJ (fun z=>npt z.symm) (fun z=>Vj z.symm) (by intro _ y;cases y);have nrt:rr≠pt:=fun z=>by rw[z,aJ]at De;cases De
    refine ⟨Ny,?_⟩;have avD:(upd H5 pt (.lst (told.map V.int))) rr=some (.lst ((lp ⟨g,past⟩ c).2.map V.int)):=by rw[bC nrt];exact Nw
    have lle:told.length+(yX.length+1)*100001<=60*100001:=by simpa using hlen
    refine ⟨_,rfl,.inl ⟨rfl,_,aD.of aJ⟩,_,rfl,rr,_,rfl,.inl (aD.of avD),pt,_,_,rfl,rfl,aJ,by rw[bt,eE];omega,?_⟩;rw[oz];have avE:∀o,(upd H5 pt o) rr=some (.lst ((lp ⟨g,past⟩ c).2.map V.int)):=fun o=>by rw[bC nrt];exact Nw
    refine ⟨_,rfl,.inl ⟨rfl,_,aD.of aJ⟩,_,rfl,pt,rr,_,_,rfl,rfl,aJ,avE _,by simp only[gR,bt,iz,zS];rw[eE];omega,?_⟩;rw[oz];refine ⟨_,fuel,qr,yX,_,_,told++((lp ⟨g,past⟩ c).2.length:Int)::(lp ⟨g,past⟩ c).2,rfl,?_,tb5.Iv (bY.refl pt H5).upd Ny (by intro φ y;cases y) (by intro ps y;cases y),?_,?_,?_,gs',e2,fun x hx=>ha x (by simp[hx]),?_,?_,rfl⟩
    .intro b o e nt;have n1:b≠p:=dw e np;have n2:b≠q:=dw e fq;have n3:b≠pt:=dw e Vi;rw[bC n3];refine keep _ _ ?_ n1 n2 nt;rw[bC n3];exact s3 _ _ e nt
    .rw[aJ];simp
    .rw[oz];exact iw.tU (z:=pt) (bY.refl pt H5).upd ⟨fun _ z=>(by rw[Ny]at z;cases z),fun _ _ _ z=>(by rw[Ny]at z;cases z)⟩
    .obtain ⟨d5,i5,h5,h6⟩:=CD;exact ⟨d5,i5,by rw[bC Vj];exact h5,h6⟩
    .rw[<-afZ];have est:VasnpbNeutral.step ⟨g,past⟩ c1=((lp ⟨g,past⟩ c).1,(lp ⟨g,past⟩ c).2):=by
      unfold VasnpbNeutral.step;rw[hc];rfl
     show _=told++PyFlat.told ((VasnpbNeutral.step ⟨g,past⟩ c1).2::PyFlat.played VasnpbNeutral.step (VasnpbNeutral.step ⟨g,past⟩ c1).1 yX);rw[est];unfold PyFlat.told;rw[JD];simp
    .simp only[gR,iz];omega
end WD
namespace L2
open PySem.W (WData Codec OpenSpec Well WellAll ReadsW ReadsAllW)
mutual
inductive Dw(K:cB)(H:Hp):V->WData->Prop
 |eM:Dw K H .eM .none
 |bl (b:Bool):Dw K H (.bl b) (.bool b)
 |int (i:Int):Dw K H (.int i) (.int i)
 |str (x:Str):Dw K H (.str x) (.str x)
 |qG (b:Array UInt8):Dw K H (.qG b) (.bytes b.toList)
 |lst {a:Addr} {xs:List V} {ds:List WData}:aD K H a xs->uQ K H xs ds->Dw K H (.ref a) (.list ds)
 |tup {a:Addr} {xs:List V} {ds:List WData}:kj K H a xs->uQ K H xs ds->Dw K H (.ref a) (.tuple ds)
inductive uQ(K:cB)(H:Hp):List V->List WData->Prop
 |nil:uQ K H [] []
 |cons {v:V} {vs:List V} {d:WData} {ds:List WData}:Dw K H v d->uQ K H vs ds->uQ K H (v::vs) (d::ds)
end
theorem af2{K:cB}{H:Hp}:∀ns:List Int,uQ K H (ns.map V.int) (ns.map WData.int)
 | []=>.nil
 |n::r=>.cons (.int n) (af2 r)
theorem af3{K:cB}{H:Hp}:∀(ns:List Int)(xs:List V),uQ K H xs (ns.map WData.int)->xs=ns.map V.int
 | [],xs,h=>by
  cases h;rfl
 |n::r,xs,h=>by
  cases h with
  |cons U h2=>
   cases U;rw[af3 r _ h2]<;>rfl
section
variable{P:eS}{w:eJ}{K:cB}{H:Hp}{h:Heap}{R:PySem.W.WRecords}{cl:Str->Option Addr}
theorem avH{a:Addr}{xs:List V}(bS:iS P w H h)(KX:K.In h)(q:aD K H a xs):∃(bD:List aq)(o:Obj)(n:Nat),Vals xs bD/\h.get? a=some o/\o.cls=.type "list"/\o.data=.seq bD.toArray n:=by
 rcases q with q|⟨o,bD,n,e,hc,_,hd,_,hv⟩
 .obtain ⟨_,bD,n,hv,e⟩:=(show j5 P w H h a (.lst xs) from q.ok bS);exact ⟨bD,_,n,hv,e,rfl,rfl⟩
 .exact ⟨bD.toList,o,n,hv,KX _ _ e,hc,by simp[hd]⟩
theorem avI{a:Addr}{xs:List V}(bS:iS P w H h)(KX:K.In h)(q:kj K H a xs):∃(bD:List aq)(o:Obj)(n:Nat),Vals xs bD/\h.get? a=some o/\o.cls=.type "tuple"/\o.data=.seq bD.toArray n:=by
 rcases q with q|⟨o,bD,n,e,hc,hd,_,hv⟩
 .obtain ⟨_,bD,hv,o,e,hc,n,hd⟩:=(show j5 P w H h a (.tup xs) from q.ok bS);exact ⟨bD,o,n,hv,e,hc,hd⟩
 .exact ⟨bD.toList,o,n,hv,KX _ _ e,hc,by simp[hd]⟩
mutual
theorem Dw.reads(bS:iS P w H h)(KX:K.In h):∀(d:WData)(v:V)(u:aq),Dw K H v d->RelV v u->∃as,ReadsW R cl h u d as
 | .none,_,_,x,r=>by
  cases x;cases r;exact ⟨_,ReadsW.none⟩
 | .bool b,_,_,x,r=>by
  cases x;cases r;exact ⟨_,ReadsW.bool b⟩
 | .int i,_,_,x,r=>by
  cases x;obtain ⟨t,rfl⟩:=r;exact ⟨_,ReadsW.int i t⟩
 | .str s,_,_,x,r=>by
  cases x;obtain ⟨t,rfl⟩:=r;exact ⟨_,ReadsW.str s t⟩
 | .bytes b,_,_,x,r=>by
  cases x;obtain ⟨t,rfl⟩:=r;exact ⟨_,ReadsW.bytes _ t⟩
 | .list ds,_,_,x,r=>by
  cases x with
  |lst hs ha=>
   cases r;obtain ⟨bD,o,n,rv,ho,hc,hd⟩:=avH bS KX hs;obtain ⟨as,hr⟩:=Dw.readsAll bS KX ds _ bD ha rv;exact ⟨_,ReadsW.list ho hc hd hr⟩
 | .tuple ds,_,_,x,r=>by
  cases x with
  |tup hs ha=>
   cases r;obtain ⟨bD,o,n,rv,ho,hc,hd⟩:=avI bS KX hs;obtain ⟨as,hr⟩:=Dw.readsAll bS KX ds _ bD ha rv;exact ⟨_,ReadsW.tuple ho hc hd hr⟩
 | .float _,_,_,x,_=>by cases x
 | .dict _,_,_,x,_=>by cases x
 | .bytearray _,_,_,x,_=>by cases x
 | .set _,_,_,x,_=>by cases x
 | .frozenset _,_,_,x,_=>by cases x
 | .obj _ _,_,_,x,_=>by cases x
theorem Dw.readsAll(bS:iS P w H h)(KX:K.In h):∀(ds:List WData)(vs:List V)(us:List aq),uQ K H vs ds->Vals vs us->∃as,ReadsAllW R cl h us ds as
 | [],_,_,x,r=>by
  cases x;cases r;exact ⟨_,ReadsAllW.nil⟩
 |d::ds,_,_,x,r=>by
  cases x with
  |cons U h2=>
   cases r with
   |cons r1 r2=>
    obtain ⟨as,q1⟩:=Dw.reads bS KX d _ _ U r1;obtain ⟨bs,q2⟩:=Dw.readsAll bS KX ds _ _ h2 r2;exact ⟨_,ReadsAllW.cons q1 q2⟩
end
end
mutual
def tY:WData->Bool
 | .none=>true
 | .bool _=>true
 | .int _=>true
 | .str _=>true
 | .bytes _=>true
 | .list xs=>vF xs
 | .tuple xs=>vF xs
 |_=>false
def vF:List WData->Bool
 | []=>true
 |x::r=>tY x&&vF r
end
theorem af4{α:Type}{f:α->WData}(h:∀a,tY (f a)=true):∀l:List α,vF (l.map f)=true
 | []=>rfl
 |x::r=>by
  show (tY (f x)&&vF (r.map f))=true;rw[h x,af4 h r]<;>rfl
theorem Br:∀(c:Codec)(a:c.denote),tY (c.enc a)=true
 | .unit,_=>rfl
 | .bool,_=>rfl
 | .int _ _,_=>rfl
 | .nat _ _,_=>rfl
 | .u8,_=>rfl
 | .bytes _ _,_=>rfl
 | .text _ _ _ _,_=>rfl
 | .list _ _ c,a=>af4 (fun x=>Br c x) a
 | .pair c d,a=>by
  show (tY (c.enc a.1)&&(tY (d.enc a.2)&&true))=true;rw[Br c a.1,Br d a.2]<;>rfl
 | .triple c d e,a=>by
  show (tY (c.enc a.1)&&(tY (d.enc a.2.1)&&(tY (e.enc a.2.2)&&true)))=true;rw[Br c a.1,Br d a.2.1,Br e a.2.2]<;>rfl
 | .option c,none=>rfl
 | .option c,some x=>Br c x
theorem af5:∀(cs:List Codec)(a:Codec.denoteAll cs),vF (Codec.encAll cs a)=true
 | [],_=>rfl
 |c::cs,a=>by
  show (tY (c.enc a.1)&&vF (Codec.encAll cs a.2))=true;rw[Br c a.1,af5 cs a.2]<;>rfl
theorem Vm:∀{xs:List WData}{d:WData},d∈xs->d.weight<=WData.weightAll xs
 | [],d,h=>absurd h (by simp)
 |x::r,d,h=>by
  show d.weight<=x.weight+1+WData.weightAll r;rcases f6.mp h with e|m
  .rw[e];omega
  .have z:=Vm m;omega
def toV:aq->V
 | .none=>.eM
 | .bool b=>.bl b
 | .int i _=>.int i
 | .str x _=>.str x
 | .bytes b _=>.qG b
 | .ref a=>.ref a
 |_=>.eM
def uR(A:List Addr):aq->Prop
 | .none=>True
 | .bool _=>True
 | .int _ _=>True
 | .str _ _=>True
 | .bytes _ _=>True
 | .ref a=>a∈A
 |_=>False
theorem uR.mono{A B:List Addr}(h:∀a∈A,a∈B):∀{u:aq},uR A u->uR B u:=fun {u} x=>by
 cases u with
 |ref a=>exact h a x
 |none=>trivial
 |bool b=>trivial
 |int i t=>trivial
 |str s t=>trivial
 |bytes b t=>trivial
 |_=>exact False.elim x
theorem avJ{A:List Addr}{u:aq}(x:uR A u):RelV (toV u) u:=by
 cases u with
 |ref a=>rfl
 |none=>rfl
 |bool b=>rfl
 |int i t=>exact ⟨t,rfl⟩
 |str s t=>exact ⟨t,rfl⟩
 |bytes b t=>exact ⟨t,rfl⟩
 |_=>exact False.elim x
theorem Fz{A:List Addr}:∀{vs:List aq},(∀u∈vs,uR A u)->Vals (vs.map toV) vs
 | [],_=>.nil
 |u::r,h=>.cons (avJ (h u (m4 ..))) (Fz fun x hx=>h x (lU _ hx))
def yl(h:Heap)(A:List Addr)(a:Addr):Prop:=∃vs:List aq,vs.length<=cJ/\(∀u∈vs,uR A u)/\
 (h.get? a=some {cls:=.type "list",data:=.seq vs.toArray}∨h.get? a=some {cls:=.type "tuple",data:=.seq vs.toArray})
theorem yl.mono{h:Heap}{A B:List Addr}{a:Addr}(k:∀a∈A,a∈B)(x:yl h A a):yl h B a:=by
 obtain ⟨vs,U,h2,h3⟩:=x;exact ⟨vs,U,fun u hu=>(h2 u hu).mono k,h3⟩
theorem NA{P:Params}{h:Heap}:∀{vs:List aq}{ds:List WData},WellAll P h vs ds->vs.length=ds.length
 |_,_,.nil=>rfl
 |_,_,.cons _ b=>by
  show _+1=_+1;rw[NA b]
theorem af6{P:Params}{h:Heap}{v:aq}{ds:List WData}(x:Well P h v (.list ds)):∃(a:Addr)(vs:List aq),v=.ref a/\h.get? a=some {cls:=.type "list",data:=.seq vs.toArray}/\WellAll P h vs ds:=by
 cases x with
 |list ho qR=>exact ⟨_,_,rfl,ho,qR⟩
theorem af7{P:Params}{h:Heap}{v:aq}{ds:List WData}(x:Well P h v (.tuple ds)):∃(a:Addr)(vs:List aq),v=.ref a/\h.get? a=some {cls:=.type "tuple",data:=.seq vs.toArray}/\WellAll P h vs ds:=by
 cases x with
 |tuple ho qR=>exact ⟨_,_,rfl,ho,qR⟩
theorem af8{P:Params}{h:Heap}{us:List aq}{d:WData}{ds:List WData}(x:WellAll P h us (d::ds)):∃(v:aq)(vs:List aq),us=v::vs/\Well P h v d/\WellAll P h vs ds:=by
 cases x with
 |cons a b=>exact ⟨_,_,rfl,a,b⟩
theorem af9{n:Nat}(h:n<=1048576):n<=cJ:=gN h (by decide)
section
variable{P:Params}{h:Heap}
mutual
theorem avK:∀(d:WData)(v:aq),Well P h v d->tY d=true->d.weight<=1048576->∃A:List Addr,uR A v/\∀a∈A,yl h A a
 | .none,_,x,_,_=>by
  cases x;exact ⟨[],trivial,fun a m=>absurd m (by simp)⟩
 | .bool b,_,x,_,_=>by
  cases x;exact ⟨[],trivial,fun a m=>absurd m (by simp)⟩
 | .int i,_,x,_,_=>by
  cases x;exact ⟨[],trivial,fun a m=>absurd m (by simp)⟩
 | .str s,_,x,_,_=>by
  cases x;exact ⟨[],trivial,fun a m=>absurd m (by simp)⟩
 | .bytes b,_,x,_,_=>by
  cases x;exact ⟨[],trivial,fun a m=>absurd m (by simp)⟩
 | .list ds,_,x,p,z=>by
  obtain ⟨a,vs,rfl,ho,qR⟩:=af6 x;have z2:WData.weightAll ds<=1048576:=z;obtain ⟨A,U,h2⟩:=NB ds _ qR p fun d hd=>gN (Vm hd) z2;have k:∀b∈A,b∈a::A:=fun b hb=>lU _ hb;refine ⟨a::A,m4 ..,fun b hb=>?_⟩;rcases f6.mp hb with e|m
  .rw[e];exact ⟨vs,af9 (by rw[NA qR];exact gN (ahO ds) z2),fun u hu=>(U u hu).mono k,.inl ho⟩
  .exact (h2 b m).mono k
 | .tuple ds,_,x,p,z=>by
  obtain ⟨a,vs,rfl,ho,qR⟩:=af7 x;have z2:WData.weightAll ds<=1048576:=z;obtain ⟨A,U,h2⟩:=NB ds _ qR p fun d hd=>gN (Vm hd) z2;have k:∀b∈A,b∈a::A:=fun b hb=>lU _ hb;refine ⟨a::A,m4 ..,fun b hb=>?_⟩;rcases f6.mp hb with e|m
  .rw[e];exact ⟨vs,af9 (by rw[NA qR];exact gN (ahO ds) z2),fun u hu=>(U u hu).mono k,.inr ho⟩
  .exact (h2 b m).mono k
 | .float _,_,_,p,_=>Bool.noConfusion (show false=true from p)
 | .dict _,_,_,p,_=>Bool.noConfusion (show false=true from p)
 | .bytearray _,_,_,p,_=>Bool.noConfusion (show false=true from p)
 | .set _,_,_,p,_=>Bool.noConfusion (show false=true from p)
 | .frozenset _,_,_,p,_=>Bool.noConfusion (show false=true from p)
 | .obj _ _,_,_,p,_=>Bool.noConfusion (show false=true from p)
theorem NB:∀(ds:List WData)(vs:List aq),WellAll P h vs ds->vF ds=true->(∀d∈ds,d.weight<=1048576)->∃A:List Addr,(∀u∈vs,uR A u)/\∀a∈A,yl h A a
 | [],_,x,_,_=>by
  cases x;exact ⟨[],fun u m=>absurd m (by simp),fun a m=>absurd m (by simp)⟩
 |d::ds,_,x,p,z=>by
  obtain ⟨v,vs,rfl,x1,x2⟩:=af8 x;have q:tY d=true/\vF ds=true:=ahP.mp p;obtain ⟨A,a1,a2⟩:=avK d v x1 q.1 (z d (m4 ..));obtain ⟨B,b1,b2⟩:=NB ds vs x2 q.2 fun e he=>z e (lU _ he);have kA:∀b∈A,b∈A++B:=fun b hb=>kN.mpr (.inl hb);have kB:∀b∈B,b∈A++B:=fun b hb=>kN.mpr (.inr hb);refine ⟨A++B,fun u hu=>?_,fun b hb=>?_⟩
  .rcases f6.mp hu with e|m
   .rw[e];exact a1.mono kA
   .exact (b1 u m).mono kB
  .rcases kN.mp hb with m|m
   .exact (a2 b m).mono kA
   .exact (b2 b m).mono kB
end
end
def NC(o:Obj):Option HO:=match o.data with
 | .seq vs _=>if (o.cls==Value.type "list")=true then some (.gU o (.lst (vs.toList.map toV))) else some (.gU o (.tup (vs.toList.map toV)))
 |_=>none
def ot(K:cB)(h:Heap)(A:List Addr):Hp:=fun b=>if b∈A then (if (K.lookup b).isNone=true then (h.get? b).bind NC else none) else none
theorem agc(vs:List aq):NC {cls:=.type "list",data:=.seq vs.toArray}=some (.gU {cls:=.type "list",data:=.seq vs.toArray} (.lst (vs.map toV))):=by
 show (if (Value.type "list"==Value.type "list")=true then some (HO.gU {cls:=.type "list",data:=.seq vs.toArray} (.lst (vs.toArray.toList.map toV))) else some (HO.gU {cls:=.type "list",data:=.seq vs.toArray} (.tup (vs.toArray.toList.map toV))))=_;rw[if_pos (beq_self_eq_true _)]
theorem agd(vs:List aq):NC {cls:=.type "tuple",data:=.seq vs.toArray}=some (.gU {cls:=.type "tuple",data:=.seq vs.toArray} (.tup (vs.map toV))):=by
 show (if (Value.type "tuple"==Value.type "list")=true then some (HO.gU {cls:=.type "tuple",data:=.seq vs.toArray} (.lst (vs.toArray.toList.map toV))) else some (HO.gU {cls:=.type "tuple",data:=.seq vs.toArray} (.tup (vs.toArray.toList.map toV))))=_;rw[if_neg (by decide)]
section
variable{P:eS}{w:eJ}{K:cB}{h:Heap}{A:List Addr}
theorem ND{b:Addr}{o:Obj}(hb:b∈A)(hk:K.lookup b=none)(e:h.get? b=some o):ot K h A b=NC o:=by
 unfold ot;rw[if_pos hb,hk,if_pos (show (none:Option Obj).isNone=true from rfl),e]<;>rfl
theorem avL{b:Addr}{u:HO}(q:ot K h A b=some u):b∈A/\K.lookup b=none:=by
 unfold ot at q;by_cases hb:b∈A
 .rw[if_pos hb]at q;cases hk:K.lookup b with
  |none=>exact ⟨hb,rfl⟩
  |some o=>
   rw[hk,if_neg (by simp)]at q;cases q
 .rw[if_neg hb]at q;cases q
theorem Jk(ar:∀a∈A,yl h A a){b:Addr}{u:HO}(q:ot K h A b=some u):K.lookup b=none/\∃vs:List aq,vs.length<=cJ/\(∀u∈vs,uR A u)/\
    ((h.get? b=some {cls:=.type "list",data:=.seq vs.toArray}/\u=.gU {cls:=.type "list",data:=.seq vs.toArray} (.lst (vs.map toV)))∨
     (h.get? b=some {cls:=.type "tuple",data:=.seq vs.toArray}/\u=.gU {cls:=.type "tuple",data:=.seq vs.toArray} (.tup (vs.map toV)))):=by
  obtain ⟨hb,hk⟩:=avL q
  obtain ⟨vs,U,h2,h3⟩:=ar b hb
  refine ⟨hk,vs,U,h2,?_⟩
  rcases h3 with e|e
  · rw[ND hb hk e,agc]at q
    exact .inl ⟨e,(gE q).symm⟩
  · rw[ND hb hk e,agd]at q
    exact .inr ⟨e,(gE q).symm⟩
theorem NF{c c':aq}{vs us:List aq}(e:(some {cls:=c,data:=.seq vs.toArray}:Option Obj)=some {cls:=c',data:=.seq us.toArray}):c=c'/\vs=us:=by
 have e1:=gE e;have e2:c=c':=congrArg Obj.cls e1;have e3:Data.seq vs.toArray=Data.seq us.toArray:=congrArg Obj.data e1;injection e3 with e4
 refine ⟨e2,?_⟩;have e5:=congrArg Array.toList e4
 simpa using e5
theorem avM(KX:K.In h)(ar:∀a∈A,yl h A a){a:Addr}{vs:List aq}(ha:a∈A)(e:h.get? a=some {cls:=.type "list",data:=.seq vs.toArray}):(∀u∈vs,uR A u)/\aD K (ot K h A) a (vs.map toV):=by
 obtain ⟨us,U,h2,h3⟩:=ar a ha;have hu:us=vs:=by
  rcases h3 with q|q
  .rw[e]at q;exact (NF q).2.symm
  .rw[e]at q;exact absurd (ahQ (NF q).1) (by decide)
 subst hu;refine ⟨h2,?_⟩;cases hk:K.lookup a with
 |none=>exact .inl (.inr ⟨_,by rw[ND ha hk e,agc]⟩)
 |some o=>
  have e2:=KX a o hk;rw[e]at e2;obtain rfl:=gE e2;exact .inr ⟨_,us.toArray,_,hk,rfl,rfl,rfl,by rw[i9];exact U,by simpa using Fz h2⟩
theorem avN(KX:K.In h)(ar:∀a∈A,yl h A a){a:Addr}{vs:List aq}(ha:a∈A)(e:h.get? a=some {cls:=.type "tuple",data:=.seq vs.toArray}):(∀u∈vs,uR A u)/\kj K (ot K h A) a (vs.map toV):=by
 obtain ⟨us,U,h2,h3⟩:=ar a ha;have hu:us=vs:=by
  rcases h3 with q|q
  .rw[e]at q;exact absurd (ahQ (NF q).1) (by decide)
  .rw[e]at q;exact (NF q).2.symm
 subst hu;refine ⟨h2,?_⟩;cases hk:K.lookup a with
 |none=>exact .inl (.inr ⟨_,by rw[ND ha hk e,agd]⟩)
 |some o=>
  have e2:=KX a o hk;rw[e]at e2;obtain rfl:=gE e2;exact .inr ⟨_,us.toArray,_,hk,rfl,rfl,by rw[i9];exact U,by simpa using Fz h2⟩
mutual
theorem avO{Pm:Params}(KX:K.In h)(ar:∀a∈A,yl h A a):∀(d:WData)(v:aq),Well Pm h v d->tY d=true->uR A v->Dw K (ot K h A) (toV v) d
 | .none,_,x,_,_=>by
  cases x;exact .eM
 | .bool b,_,x,_,_=>by
  cases x;exact .bl b
 | .int i,_,x,_,_=>by
  cases x;exact .int i
 | .str s,_,x,_,_=>by
  cases x;exact .str s
 | .bytes b,_,x,_,_=>by
  cases x;have z:=Dw.qG (K:=K) (H:=ot K h A) b.toArray;exact z
 | .list ds,_,x,p,hu=>by
  obtain ⟨a,vs,rfl,ho,qR⟩:=af6 x;obtain ⟨h2,hs⟩:=avM KX ar hu ho;exact .lst hs (NG KX ar ds _ qR p h2)
 | .tuple ds,_,x,p,hu=>by
  obtain ⟨a,vs,rfl,ho,qR⟩:=af7 x;obtain ⟨h2,hs⟩:=avN KX ar hu ho;exact .tup hs (NG KX ar ds _ qR p h2)
 | .float _,_,_,p,_=>Bool.noConfusion (show false=true from p)
 | .dict _,_,_,p,_=>Bool.noConfusion (show false=true from p)
 | .bytearray _,_,_,p,_=>Bool.noConfusion (show false=true from p)
 | .set _,_,_,p,_=>Bool.noConfusion (show false=true from p)
 | .frozenset _,_,_,p,_=>Bool.noConfusion (show false=true from p)
 | .obj _ _,_,_,p,_=>Bool.noConfusion (show false=true from p)
theorem NG{Pm:Params}(KX:K.In h)(ar:∀a∈A,yl h A a):∀(ds:List WData)(vs:List aq),WellAll Pm h vs ds->vF ds=true->(∀u∈vs,uR A u)->uQ K (ot K h A) (vs.map toV) ds
 | [],_,x,_,_=>by
  cases x;exact .nil
 |d::ds,_,x,p,hu=>by
  obtain ⟨v,vs,rfl,x1,x2⟩:=af8 x;have q:tY d=true/\vF ds=true:=ahP.mp p;exact .cons (avO KX ar d v x1 q.1 (hu _ (m4 ..))) (NG KX ar ds vs x2 q.2 fun u m=>hu u (lU _ m))
end
end
theorem avP{ds:List WData}(h:WData.layableAll ds=true):∀d∈ds,d.weight<=1048576:=fun d hd=>
 (PySem.W.layableW_iff.mp (tZ.mp h d hd)).2.2
theorem age:∀(cs:List Codec)(a:Codec.denoteAll cs),(Codec.encAll cs a).length=cs.length
 | [],_=>rfl
 |c::cs,a=>by
  show (Codec.encAll cs a.2).length+1=cs.length+1;rw[age cs a.2]
end L2
namespace L2
open PySem.W (WData Codec OpenSpec Well WellAll ReadsW ReadsAllW)
mutual
theorem Dw.same{K:cB}{H H':Hp}(s:aC H H'):∀(d:WData)(v:V),Dw K H v d->Dw K H' v d
 | .none,_,x=>by cases x;exact .eM
 | .bool b,_,x=>by cases x;exact .bl b
 | .int i,_,x=>by cases x;exact .int i
 | .str x,_,q=>by cases q;exact .str x
 | .bytes b,_,q=>by cases q;exact .qG _
 | .list ds,_,x=>by
  cases x with
  |lst U h2=>exact .lst (s.seq U) (Dw.sameAll s ds _ h2)
 | .tuple ds,_,x=>by
  cases x with
  |tup U h2=>
   refine .tup ?_ (Dw.sameAll s ds _ h2);rcases U with (h|⟨o,h⟩)|h
   .exact .inl (.inl (s _ _ h))
   .exact .inl (.inr ⟨o,s _ _ h⟩)
   .exact .inr h
 | .float _,_,x=>by cases x
 | .dict _,_,x=>by cases x
 | .bytearray _,_,x=>by cases x
 | .set _,_,x=>by cases x
 | .frozenset _,_,x=>by cases x
 | .obj _ _,_,x=>by cases x
theorem Dw.sameAll{K:cB}{H H':Hp}(s:aC H H'):∀(ds:List WData)(vs:List V),uQ K H vs ds->uQ K H' vs ds
 | [],_,x=>by cases x;exact .nil
 |d::ds,_,x=>by
  cases x with
  |cons U h2=>exact .cons (Dw.same s d _ U) (Dw.sameAll s ds _ h2)
end
abbrev NH:Obj:={cls:=.none,data:=.fields #[]}
def vG(ts:List Addr)(H:Hp):Hp:=fun b=>if b∈ts then some (.kU #[]) else H b
theorem avQ{P:eS}{w:eJ}{K:cB}{mg mb:Str->Option aq}{CX:o7}{k:Nat}{fa:Addr}{fd:dn}{ps:List Str}{sp:Sp}{gO:a9}{vals:List aq}{ds:List WData}{R:PySem.W.WRecords}{cl:Str->Option Addr}{d0:WData}{ts:List Addr}(KX:K.In gO.heap)(Lr:gO.heap.Ns nG mg)(hb:gO.heap.Ns builtinsNs mb)(hbb:∀x:Str,x≠"__name__"->mb x=bootBuiltins x)(avS:gO.heap.NoLimit)(hg:gO.gens=#[])(NI:∀p∈ts,K.lookup p=none)(NJ:∀p∈ts,gO.heap.get? p=some NH/\isCodeTable gO.heap p)(hB:wB gO.heap mg)(Jl:WellAll w.params gO.heap vals ds)(l6:vF ds=true)(hwt:∀d∈ds,d.weight<=1048576)(hr:dQ k callerA)(F:∀base:Heap,K.In base->base.Ns nG mg->wB base mg->c8 P w K mg base CX k fa fd ps sp)(avU:∀(s:a9) (us:List aq),us.length=ps.length->BindsTo s fd ⟨us,[]⟩ (ps.zip us))(hlen:ds.length=ps.length)(vd:∀(H:Hp) (xs:List V),(∀p∈ts,H p=some (.kU #[]))->uQ K H xs ds->sp xs H (fun v H'=>Dw K H' v d0) fun _ _ _=>False)(Vn:∀H e s',CX [] H gO (fun _ _ _=>False) e s'->False):
  codeAny (model P w) callerA (.call (.ref fa) ⟨vals,[]⟩) (fun r s'=>∃u as,r=.ok (.ret u)/\ReadsW R cl s'.heap u d0 as/\OldK gO.heap s'.heap/\s'.os=gO.os/\AllBare s'.gens) gO:=by
 obtain ⟨A,ho,ar⟩:=NB ds vals Jl l6 hwt;have hV:=Fz ho;have nt:∀{b:Addr}{u:HO},ot K gO.heap A b=some u->b∉ts:=fun {b u} q m=>by
  have z:=(NJ b m).1;obtain ⟨_,vs,_,_,⟨e,_⟩|⟨e,_⟩⟩:=Jk ar q
  .rw[z]at e;cases e
  .rw[z]at e;cases e
 have sm:aC (ot K gO.heap A) (vG ts (ot K gO.heap A)):=fun b o e=>by
  unfold vG;rw[if_neg (nt e)];exact e
 have hS:=Dw.sameAll sm ds _ (NG KX ar ds vals Jl l6 ho);have is:∀{b:Addr}{u:HO},vG ts (ot K gO.heap A) b=some u->(b∈ts/\u=.kU #[])∨(b∉ts/\ot K gO.heap A b=some u):=fun {b u} q=>by
  unfold vG at q;by_cases m:b∈ts
  .rw[if_pos m]at q;exact .inl ⟨m,(gE q).symm⟩
  .rw[if_neg m]at q;exact .inr ⟨m,q⟩
 have bS:iS P w (vG ts (ot K gO.heap A)) gO.heap:=fun b u q=>by
  rcases is q with ⟨m,rfl⟩|⟨m,q⟩
  .exact (NJ b m).1
  .obtain ⟨_,vs,U,h2,⟨e,rfl⟩|⟨e,rfl⟩⟩:=Jk ar q
   .exact ⟨e,by rw[bt];exact U,vs,_,Fz h2,e⟩
   .exact ⟨e,by rw[bt];exact U,vs,Fz h2,_,e,rfl,_,rfl⟩
 have hK:∀b u,vG ts (ot K gO.heap A) b=some u->K.lookup b=none:=fun b u q=>by
  rcases is q with ⟨m,rfl⟩|⟨m,q⟩
  .exact NI b m
  .exact (Jk ar q).1
 have hT:∀p∈ts,vG ts (ot K gO.heap A) p=some (.kU #[]):=fun p m=>by
  unfold vG;rw[if_pos m]
 have hO:∀{b:Addr}{u:HO},vG ts (ot K gO.heap A) b=some u->(∃o u',u=.gU o u')∨(b∈ts/\u=.kU #[]):=fun {b u} q=>by
  rcases is q with z|⟨m,q⟩
  .exact .inr z
  .obtain ⟨_,vs,_,_,⟨_,e⟩|⟨_,e⟩⟩:=Jk ar q
   .exact .inl ⟨_,_,e⟩
   .exact .inl ⟨_,_,e⟩
 have wg:∀{b:Addr}{o:Obj},gO.heap.get? b=some o->(∀vs n,o.data≠.seq vs n)->(∀vs,o.data≠.fields vs)->vG ts (ot K gO.heap A) b=none:=fun {b o} e d1 d2=>by
  cases q:vG ts (ot K gO.heap A) b with
  |none=>rfl
  |some u=>
   rcases is q with ⟨m,rfl⟩|⟨m,q⟩
   .have z:=(NJ b m).1;rw[e]at z;cases z;exact absurd rfl (d2 _)
   .obtain ⟨_,vs,_,_,⟨e2,_⟩|⟨e2,_⟩⟩:=Jk ar q
    .rw[e2]at e;cases e;exact absurd rfl (d1 _ _)
    .rw[e2]at e;cases e;exact absurd rfl (d1 _ _)
 generalize vG ts (ot K gO.heap A)=H at hO bS hS hK wg hT;have Vo:∀{b:Addr}{o:Obj},gO.heap.get? b=some o->H b=none->(xm gO.heap H).get? b=some o:=fun e n=>aja e n;have NK:∀{b:Addr}{m:Str->Option aq},gO.heap.Ns b m->(xm gO.heap H).Ns b m:=fun {b m} ⟨o,es,ep,e,d,r⟩=>⟨o,es,ep,Vo e (wg e (by intro _ _ z;rw[d]at z;cases z) (by intro _ z;rw[d]at z;cases z)),d,r⟩;have nK:∀b o,K.lookup b=some o->H b=none:=fun b o e=>by
  cases q:H b with
  |none=>rfl
  |some u=>
   rw[hK b u q]at e;cases e
 have hKb:K.In (xm gO.heap H):=fun b o e=>Vo (KX b o e) (nK b o e);have hM:Mod K mg (xm gO.heap H):=⟨hKb,NK Lr,⟨mb,NK hb,hbb⟩,let ⟨mc,U,h2⟩:=avS;⟨mc,NK U,h2⟩⟩;have hBb:wB (xm gO.heap H) mg:=by
  obtain ⟨bm,ob,b1,b2,b3,b4,b5,b6⟩:=hB.ex;exact ⟨bm,ob,b1,b2,Vo b3 (wg b3 (by intro _ _ z;rw[b6]at z;cases z) (by intro _ z;rw[b6]at z;cases z)),b4,b5,b6⟩
 have e0:xC P w K mg (xm gO.heap H) callerA [] gO H:=⟨rfl,hM,fun b o e=>ajb e,NV (ai9 _ _),trivial,fun b hb=>absurd (show b∈([]:List Addr) from hb) (by simp),bS,.of_eq hg⟩;have hl:vals.length=ps.length:=by rw[NA Jl];exact hlen
 refine Dx ((F _ hKb (NK Lr) hBb).run callerA [] gO H ⟨vals,[]⟩ vals (vals.map toV) _ _ hr e0 (avU gO vals hl) hV (vd H _ hT hS)) fun r s' x=>?_;cases r with
 |error e=>exact (Vn H e s' x).elim
 |ok fl=>
  cases fl with
  |next=>exact False.elim x
  |brk=>exact False.elim x
  |cont=>exact False.elim x
  |ret u=>
   obtain ⟨v,H',os,bare,un,Hu,r',q⟩:=x;have kept:∀b o,gO.heap.get? b=some o->b∉ts->s'.heap.get? b=some o:=fun b o e m=>by
    cases q2:H b with
    |none=>exact un.keep b o e q2 (by intro z;exact absurd (show b∈([]:List Addr) from z) (by simp)) (by simp)
    |some u2=>
     rcases hO q2 with ⟨ob,u3,rfl⟩|⟨z,_⟩
     .have z2:=un.qd b ob _ q2;obtain ⟨e1,_⟩:=bS b _ q2;obtain ⟨e2,_⟩:=Hu b _ z2;rw[e]at e1;cases e1;exact e2
     .exact absurd z m
   have grown:∀p∈ts,∃more:Array aq,s'.heap.get? p=some {cls:=.none,data:=.fields (#[]++more)}:=fun p m=>by
    obtain ⟨more,z⟩:=un.rA p _ (hT p m);exact ⟨more,Hu p _ z⟩
   have KX':K.In s'.heap:=fun b o e=>kept b o (KX b o e) fun m=>by
    rw[NI b m]at e;cases e
   obtain ⟨as,hrd⟩:=Dw.reads (R:=R) (cl:=cl) Hu KX' d0 v u q r';refine ⟨u,as,rfl,hrd,⟨fun b o e=>?_,fun b o e=>?_⟩,os,bare⟩
   .by_cases m:b∈ts
    .obtain ⟨more,z⟩:=grown b m;obtain ⟨e2,ct⟩:=NJ b m;rw[e]at e2;cases e2;exact .inr (.inl ⟨ct,rfl,_,more,rfl,z⟩)
    .exact .inl (kept b o e m)
   .by_cases m:b∈ts
    .obtain ⟨more,z⟩:=grown b m;exact ⟨_,z⟩
    .exact ⟨o,kept b o e m⟩
theorem tab_of{q:eS}{loose:List Str}{FC:ExcName->Option aq}{mg mb:Str->Option aq}{h:Heap}{x:Str}{f c Pt:Addr}{of oc:Obj}{fd:dn}{vs:Array aq}(T:Top q loose FC mg mb h)(hn:((recsOf q).any fun d=>d.name==x)=true)(hm:mg x=some (.ref f))(hf:h.get? f=some of)(hd:of.data=.func fd)(hc:fd.code=.ref c)(ho:h.get? c=some oc)(hv:oc.data=.fields vs)(Bs:vs[11]? =some (.ref Pt)):h.get? Pt=some NH/\isCodeTable h Pt:=by
 obtain ⟨d,dm,de⟩:=sY.mp hn;have en:d.name=x:=eq_of_beq de;obtain ⟨a,o,fd',c',P',U,h2,h3,h4,h5,h6⟩:=T.tab d dm;rw[en,hm]at U;cases U;rw[hf]at h2;cases h2;rw[hd]at h3;cases h3;rw[hc]at h4;cases h4;have ic:=h6.isCodeTable;obtain ⟨⟨o2,vs2,g1,g2,g3,g4⟩,g5⟩:=h6;rw[ho]at g1;cases g1;rw[hv]at g3;cases g3;rw[Bs]at g4;cases g4;exact ⟨g5,ic⟩
theorem av1{r:OpenSpec}{k:Nat}{q:eS}{loose:List Str}{XP:(Str->Option aq)->Heap->Prop}{YP:eJ->Heap->Prop}{d:DefRec}{K:Params->cB}{CX:o7}{ps:List Str}{sp:cB->Sp}(ts:List Addr)(av3:r.wellSaid=true)(hdf:d.params.defaults=[])(hlen:r.args.length=ps.length)(hr:dQ k callerA)(hY:∀(w:eJ) (h:Heap),YP w h->(K w.params).In h)(NI:∀Pm:Params,∀p∈ts,(K Pm).lookup p=none)(F:∀(w:eJ) (mg mb:Str->Option aq) (FC:ExcName->Option aq) (fa:Addr) (h:Heap),(K w.params).In h->h.Ns nG mg->Top q (PySem.W.looseW q loose) FC mg mb h->mg d.name=some (.ref fa)->
   (∀p∈ts,h.get? p=some NH/\isCodeTable h p)/\∃fd:dn,(∀(s:a9) (us:List aq),us.length=ps.length->BindsTo s fd ⟨us,[]⟩ (ps.zip us))/\
    ∀base:Heap,(K w.params).In base->base.Ns nG mg->wB base mg->c8 r.prog w (K w.params) mg base CX k fa fd ps (sp (K w.params)))(vd:∀(K:cB) (H:Hp) (xs:List V) (a:Codec.denoteAll r.args),(∀p∈ts,H p=some (.kU #[]))->Codec.withinAll r.args a=true->Codec.app r.args r.asked a=true->uQ K H xs (Codec.encAll r.args a)->
   sp K xs H (fun v H'=>Dw K H' v (r.ret.enc (Codec.app r.args r.f a))) fun _ _ _=>False)(Vn:∀(H:Hp) (s:a9) (e:aq) (s':a9),CX [] H s (fun _ _ _=>False) e s'->False):
  PySem.W.WalkOS q loose XP YP r d [] (fun f vs=>PySem.call f vs):=by
 intro w kG gO mg mb G Y fa o pm cd doc dV kV ho hd qJ hD Vp hg args vals as av5 av6 hrd Jl hlo;obtain ⟨a,e1,e2⟩:=PySem.W.os_pre_some av5;obtain ⟨e3,Au⟩:=Codec.encAll_of_decAll r.args args a e1;subst e3;have KX:=hY w _ Y;obtain ⟨hT,fd,hb,hF⟩:=F w mg mb _ fa _ KX G.T.g G.T Vp;refine PySem.W.enter_call (Dx (avQ (R:=[]) (cl:=classAt kG.heap) (d0:=r.ret.enc (Codec.app r.args r.f a)) KX G.T.g G.T.b G.T.builtins G.T.nolimit hg (NI _) hT ⟨G.T.bmain⟩ Jl (af5 _ _) (avP av6) hr hF hb (by rw[age];exact hlen)
  (fun H xs hO hS=>vd (K w.params) H xs a hO Au e2 hS) fun H e s'=>Vn H gO e s') fun r' s' hq=>?_)
 obtain ⟨u,as',rfl,U,h2,h3,h4⟩:=hq;exact ⟨.inl ⟨u,_,as',rfl,fun _=>rfl,U,(OpenSpec.post_iff av3 Au _ _).mpr rfl,fun z=>Bool.noConfusion (show false=true from z)⟩,h2,h3,h4⟩
end L2
namespace WD
def vH(x qual:Str)(st:Stmt)(ps:List Str):Prop:=∀(kV doc pm:aq)(an:Option Addr)(c6 ct:aq)(us:List aq),us.length=ps.length->bindArgs (ua x qual (vj st) (sk st) (da st) .none kV doc pm an c6 ct) ⟨us,[]⟩=pure (ps.zip us)
abbrev FD(x qual:Str)(st:Stmt)(ps:List Str)(us:List aq)(z:aq×aq×aq×Option Addr×aq×aq):Prop:=bindArgs (ua x qual (vj st) (sk st) (da st) .none z.1 z.2.1 z.2.2.1 z.2.2.2.1 z.2.2.2.2.1 z.2.2.2.2.2) ⟨us,[]⟩=pure (ps.zip us)
section
variable{x qual p0 p1 p2 p3 p4:Str}{st:Stmt}
theorem b0(h:∀z,FD x qual st [] [] z:=by intros;kernel_rfl):vH x qual st []:=fun a b c d e f us hl=>match us,hl with| [],_=>h ⟨a,b,c,d,e,f⟩
theorem b1(h:∀z y,FD x qual st [p0] [y] z:=by intros;kernel_rfl):vH x qual st [p0]:=fun a b c d e f us hl=>match us,hl with| [u],_=>h ⟨a,b,c,d,e,f⟩ u
theorem b2(h:∀z (y:aq×aq),FD x qual st [p0,p1] [y.1,y.2] z:=by intros;kernel_rfl):vH x qual st [p0,p1]:=fun a b c d e f us hl=>match us,hl with| [u0,u1],_=>h ⟨a,b,c,d,e,f⟩ ⟨u0,u1⟩
theorem b3(h:∀z (y:aq×aq×aq),FD x qual st [p0,p1,p2] [y.1,y.2.1,y.2.2] z:=by intros;kernel_rfl):vH x qual st [p0,p1,p2]:=fun a b c d e f us hl=>match us,hl with| [u0,u1,u2],_=>h ⟨a,b,c,d,e,f⟩ ⟨u0,u1,u2⟩
theorem b4(h:∀z (y:aq×aq×aq×aq),FD x qual st [p0,p1,p2,p3] [y.1,y.2.1,y.2.2.1,y.2.2.2] z:=by intros;kernel_rfl):vH x qual st [p0,p1,p2,p3]:=fun a b c d e f us hl=>match us,hl with| [u0,u1,u2,u3],_=>h ⟨a,b,c,d,e,f⟩ ⟨u0,u1,u2,u3⟩
theorem b5(h:∀z (y:aq×aq×aq×aq×aq),FD x qual st [p0,p1,p2,p3,p4] [y.1,y.2.1,y.2.2.1,y.2.2.2.1,y.2.2.2.2] z:=by intros;kernel_rfl):vH x qual st [p0,p1,p2,p3,p4]:=fun a b c d e f us hl=>match us,hl with| [u0,u1,u2,u3,u4],_=>h ⟨a,b,c,d,e,f⟩ ⟨u0,u1,u2,u3,u4⟩
end
section
variable{x qual:Str}{st:Stmt}{f c Pt tp:Addr}{fd:dn}{ps:List Str}{CX:o7}{k:Nat}{sp:Sp}{es:Array qD}{C:List Int->List (List Int)->DC->Prop}{n m:Int}{a b a' b':Nat}
def NL(es:Array qD)(n:Int)(a b:Nat):Prop:=∃(tp f:Addr)(k:Nat)(fd:dn),findBy rY es (Sum.inl n)=some (.ref tp)/\(∀H,kj K H tp [V.int (a:Int),V.int (b:Int),V.ref f])/\pZ K (.ref f)=true/\k<=10/\
  c8 P w K mg base bJ k f fd CY (Bg t fun ns cS c=>m6 ((n::ns)::cS)=some c)/\Binds K fd CY []
theorem qz{o:Option (Nat×Nat)}(h:(if n=m then some (a',b') else o)=some (a,b))(U:NL es m a' b')(h2:o=some (a,b)->NL es n a b):NL es n a b:=by
 by_cases z:n=m
 .rw[if_pos z]at h;cases h;rw[z];exact U
 .rw[if_neg z]at h;exact h2 h
theorem AV.binds(F:AV K x qual st f fd c Pt)(h:vH x qual st ps):Binds K fd ps []:=by
 obtain ⟨oc,od,kV,doc,pm,an,ct,oi,rfl,lk,qJ⟩:=F.ex;exact .all (h kV doc pm an _ ct)
theorem my(e:kZ K mg x st)(G:c8 P w K mg base CX k e.f e.fd ps sp)(h:vH x x st ps):eY P w K mg base CX k x e.f e.fd ps sp:=⟨G,e.F.binds h,e.m,e.F.kp⟩
theorem Vq(e:Hx K mg x st Pt)(G:c8 P w K mg base CX k e.f e.fd ps sp)(h:vH x x st ps):eY P w K mg base CX k x e.f e.fd ps sp:=⟨G,e.F.binds h,e.m,e.F.kp⟩
theorem vI(e:tM K c x qual st)(G:c8 P w K mg base CX k e.f e.fd ps sp)(h:vH x qual st ps):pP P w K mg base CX k c x e.f e.fd ps sp:=⟨G,e.F.binds h,e.m⟩
theorem FE(e:AW K c qual st)(G:c8 P w K mg base CX k e.f e.fd ps sp)(h:vH "__init__" qual st ps):xT P w K mg base CX k c e.f e.fd ps sp:=⟨G,e.F.binds h,e.m⟩
theorem dr(e:o9 K es n a b x st)(g:c8 P w K mg base bJ k e.f e.fd CY (Bg t C))(bd:vH x x st CY)(h:∀{ns cS c},m6 ((n::ns)::cS)=some c->C ns cS c)(hk:k<=10:=by decide):NL es n a b:=by
 refine ⟨e.tp,e.f,k,e.fd,e.e.1,e.e.2,e.F.kp,hk,g.imp ?_,e.F.binds bd⟩;rintro vs H Q E ⟨p,aN,aL,g,past,ns,cS,c,e,hD,gs,hN,hL,ll,ln,tb,hC,k⟩;exact ⟨p,aN,aL,g,past,ns,cS,c,e,hD,gs,hN,hL,ll,ln,tb,h hC,k⟩
variable{ns:List Int}{cS:List (List Int)}{c:DC}
theorem qA{G:Prop}(h:none=some c):G:=nomatch h
theorem av9(h:m6 ((0::ns)::cS)=some c):∃xs,cS=[xs]/\c=.load xs:=by
 rcases ns with _|⟨x,_|⟨y,_|⟨z,ns⟩⟩⟩<;>rcases cS with _|⟨u,_|⟨v,_|⟨d,l⟩⟩⟩<;>first|exact qA h|(obtain rfl:=gE (show some _=some c from h);first|rfl|exact ⟨_,rfl,rfl⟩|exact ⟨_,_,rfl,rfl⟩|exact ⟨_,_,_,rfl,rfl,rfl⟩)
theorem awa(h:m6 ((1::ns)::cS)=some c):c=.row:=by
 rcases ns with _|⟨x,_|⟨y,_|⟨z,ns⟩⟩⟩<;>rcases cS with _|⟨u,_|⟨v,_|⟨d,l⟩⟩⟩<;>first|exact qA h|(obtain rfl:=gE (show some _=some c from h);first|rfl|exact ⟨_,rfl,rfl⟩|exact ⟨_,_,rfl,rfl⟩|exact ⟨_,_,_,rfl,rfl,rfl⟩)
theorem call2(h:m6 ((2::ns)::cS)=some c):c=.holds:=by
 rcases ns with _|⟨x,_|⟨y,_|⟨z,ns⟩⟩⟩<;>rcases cS with _|⟨u,_|⟨v,_|⟨d,l⟩⟩⟩<;>first|exact qA h|(obtain rfl:=gE (show some _=some c from h);first|rfl|exact ⟨_,rfl,rfl⟩|exact ⟨_,_,rfl,rfl⟩|exact ⟨_,_,_,rfl,rfl,rfl⟩)
theorem awb(h:m6 ((3::ns)::cS)=some c):c=.live:=by
 rcases ns with _|⟨x,_|⟨y,_|⟨z,ns⟩⟩⟩<;>rcases cS with _|⟨u,_|⟨v,_|⟨d,l⟩⟩⟩<;>first|exact qA h|(obtain rfl:=gE (show some _=some c from h);first|rfl|exact ⟨_,rfl,rfl⟩|exact ⟨_,_,rfl,rfl⟩|exact ⟨_,_,_,rfl,rfl,rfl⟩)
theorem awc(h:m6 ((4::ns)::cS)=some c):∃xs ys,cS=[xs,ys]/\c=.without xs ys:=by
 rcases ns with _|⟨x,_|⟨y,_|⟨z,ns⟩⟩⟩<;>rcases cS with _|⟨u,_|⟨v,_|⟨d,l⟩⟩⟩<;>first|exact qA h|(obtain rfl:=gE (show some _=some c from h);first|rfl|exact ⟨_,rfl,rfl⟩|exact ⟨_,_,rfl,rfl⟩|exact ⟨_,_,_,rfl,rfl,rfl⟩)
theorem awd(h:m6 ((5::ns)::cS)=some c):∃x xs ys,ns=[x]/\cS=[xs,ys]/\c=.around x xs ys:=by
 rcases ns with _|⟨x,_|⟨y,_|⟨z,ns⟩⟩⟩<;>rcases cS with _|⟨u,_|⟨v,_|⟨d,l⟩⟩⟩<;>first|exact qA h|(obtain rfl:=gE (show some _=some c from h);first|rfl|exact ⟨_,rfl,rfl⟩|exact ⟨_,_,rfl,rfl⟩|exact ⟨_,_,_,rfl,rfl,rfl⟩)
theorem awe(h:m6 ((6::ns)::cS)=some c):∃x y,ns=[x,y]/\c=.keeps x y:=by
 rcases ns with _|⟨x,_|⟨y,_|⟨z,ns⟩⟩⟩<;>rcases cS with _|⟨u,_|⟨v,_|⟨d,l⟩⟩⟩<;>first|exact qA h|(obtain rfl:=gE (show some _=some c from h);first|rfl|exact ⟨_,rfl,rfl⟩|exact ⟨_,_,rfl,rfl⟩|exact ⟨_,_,_,rfl,rfl,rfl⟩)
theorem awf(h:m6 ((7::ns)::cS)=some c):∃x,ns=[x]/\c=.keepers x:=by
 rcases ns with _|⟨x,_|⟨y,_|⟨z,ns⟩⟩⟩<;>rcases cS with _|⟨u,_|⟨v,_|⟨d,l⟩⟩⟩<;>first|exact qA h|(obtain rfl:=gE (show some _=some c from h);first|rfl|exact ⟨_,rfl,rfl⟩|exact ⟨_,_,rfl,rfl⟩|exact ⟨_,_,_,rfl,rfl,rfl⟩)
theorem awg(h:m6 ((8::ns)::cS)=some c):c=.tree:=by
 rcases ns with _|⟨x,_|⟨y,_|⟨z,ns⟩⟩⟩<;>rcases cS with _|⟨u,_|⟨v,_|⟨d,l⟩⟩⟩<;>first|exact qA h|(obtain rfl:=gE (show some _=some c from h);first|rfl|exact ⟨_,rfl,rfl⟩|exact ⟨_,_,rfl,rfl⟩|exact ⟨_,_,_,rfl,rfl,rfl⟩)
theorem awh(h:m6 ((9::ns)::cS)=some c):∃xs,cS=[xs]/\c=.kept xs:=by
 rcases ns with _|⟨x,_|⟨y,_|⟨z,ns⟩⟩⟩<;>rcases cS with _|⟨u,_|⟨v,_|⟨d,l⟩⟩⟩<;>first|exact qA h|(obtain rfl:=gE (show some _=some c from h);first|rfl|exact ⟨_,rfl,rfl⟩|exact ⟨_,_,rfl,rfl⟩|exact ⟨_,_,_,rfl,rfl,rfl⟩)
theorem awi(h:m6 ((10::ns)::cS)=some c):c=.sizes:=by
 rcases ns with _|⟨x,_|⟨y,_|⟨z,ns⟩⟩⟩<;>rcases cS with _|⟨u,_|⟨v,_|⟨d,l⟩⟩⟩<;>first|exact qA h|(obtain rfl:=gE (show some _=some c from h);first|rfl|exact ⟨_,rfl,rfl⟩|exact ⟨_,_,rfl,rfl⟩|exact ⟨_,_,_,rfl,rfl,rfl⟩)
theorem awj(h:m6 ((11::ns)::cS)=some c):c=.kinds:=by
 rcases ns with _|⟨x,_|⟨y,_|⟨z,ns⟩⟩⟩<;>rcases cS with _|⟨u,_|⟨v,_|⟨d,l⟩⟩⟩<;>first|exact qA h|(obtain rfl:=gE (show some _=some c from h);first|rfl|exact ⟨_,rfl,rfl⟩|exact ⟨_,_,rfl,rfl⟩|exact ⟨_,_,_,rfl,rfl,rfl⟩)
theorem awk(h:m6 ((12::ns)::cS)=some c):∃xs,cS=[xs]/\c=.frees xs:=by
 rcases ns with _|⟨x,_|⟨y,_|⟨z,ns⟩⟩⟩<;>rcases cS with _|⟨u,_|⟨v,_|⟨d,l⟩⟩⟩<;>first|exact qA h|(obtain rfl:=gE (show some _=some c from h);first|rfl|exact ⟨_,rfl,rfl⟩|exact ⟨_,_,rfl,rfl⟩|exact ⟨_,_,_,rfl,rfl,rfl⟩)
theorem awl(h:m6 ((13::ns)::cS)=some c):c=.best:=by
 rcases ns with _|⟨x,_|⟨y,_|⟨z,ns⟩⟩⟩<;>rcases cS with _|⟨u,_|⟨v,_|⟨d,l⟩⟩⟩<;>first|exact qA h|(obtain rfl:=gE (show some _=some c from h);first|rfl|exact ⟨_,rfl,rfl⟩|exact ⟨_,_,rfl,rfl⟩|exact ⟨_,_,_,rfl,rfl,rfl⟩)
theorem awm(h:m6 ((14::ns)::cS)=some c):∃x,ns=[x]/\c=.cut x:=by
 rcases ns with _|⟨x,_|⟨y,_|⟨z,ns⟩⟩⟩<;>rcases cS with _|⟨u,_|⟨v,_|⟨d,l⟩⟩⟩<;>first|exact qA h|(obtain rfl:=gE (show some _=some c from h);first|rfl|exact ⟨_,rfl,rfl⟩|exact ⟨_,_,rfl,rfl⟩|exact ⟨_,_,_,rfl,rfl,rfl⟩)
theorem awn(h:m6 ((15::ns)::cS)=some c):∃x,ns=[x]/\c=.ways x:=by
 rcases ns with _|⟨x,_|⟨y,_|⟨z,ns⟩⟩⟩<;>rcases cS with _|⟨u,_|⟨v,_|⟨d,l⟩⟩⟩<;>first|exact qA h|(obtain rfl:=gE (show some _=some c from h);first|rfl|exact ⟨_,rfl,rfl⟩|exact ⟨_,_,rfl,rfl⟩|exact ⟨_,_,_,rfl,rfl,rfl⟩)
theorem awo(h:m6 ((16::ns)::cS)=some c):∃xs,cS=[xs]/\c=.release xs:=by
 rcases ns with _|⟨x,_|⟨y,_|⟨z,ns⟩⟩⟩<;>rcases cS with _|⟨u,_|⟨v,_|⟨d,l⟩⟩⟩<;>first|exact qA h|(obtain rfl:=gE (show some _=some c from h);first|rfl|exact ⟨_,rfl,rfl⟩|exact ⟨_,_,rfl,rfl⟩|exact ⟨_,_,_,rfl,rfl,rfl⟩)
theorem awp(h:m6 ((17::ns)::cS)=some c):c=.undo:=by
 rcases ns with _|⟨x,_|⟨y,_|⟨z,ns⟩⟩⟩<;>rcases cS with _|⟨u,_|⟨v,_|⟨d,l⟩⟩⟩<;>first|exact qA h|(obtain rfl:=gE (show some _=some c from h);first|rfl|exact ⟨_,rfl,rfl⟩|exact ⟨_,_,rfl,rfl⟩|exact ⟨_,_,_,rfl,rfl,rfl⟩)
theorem awq:Goal yT:=by
 intro d es W T hC tab kb gb B;have agj:=FE W.abA (aoJ W.abA.F T) b2;have Vr:=vI W.abK (aoK W.abK.F T) b1;have agk:=vI W.abL (aoL W.abL.F T) b1;have awr:=vI W.abM (aoM W.abM.F T) b2;have aws:=FE W.abw (aoN W.abw.F T) b4;have awt:=FE W.aby (aoO W.aby.F T) b4;have wY:=my W.abN (aoP W.abN.F) b1;have awu:=my W.abO (aoS W.abO.F T awt wY) b2;have awv:=my W.abP (aoW W.abP.F T) b2;have Vs:=FE W.abx (ao1 W.abx.F T awu awv wY) b5;have aww:=my W.abQ (apc W.abQ.F T Vs) b0;have Vt:=my W.abR (apd W.abR.F T Vr agk) b2;have awx:=my W.abS (ape W.abS.F T Vt aws) b2;have awy:=my W.abT (apm W.abT.F T Vt) b2;have awz:=my W.abU (apt W.abU.F T agj Vt awx awy Vr Vs) b1;have awA:=FE W.abv (apQ W.abv.F T aww) b1;have agl:=vI W.abB (apR W.abB.F T) b2;have awB:=vI W.abC (apT W.abC.F T) b1;have awC:=my W.abV (apY W.abV.F) b1;have Vu:=my W.abW (apZ W.abW.F T awC wY) b3;have Dn:=my W.abX (aqe W.abX.F T Vu) b3;have Bt:=my W.abY (aqg W.abY.F Vu Dn) b3;have awD:=my W.abZ (aqh W.abZ.F T Vu wY) b4;have agm:=my W.ab0 (aqs W.ab0.F T) b2;have FF:=my W.ab1 (aqt W.ab1.F T agm) b3;have awE:=my W.ab2 (aqU W.ab2.F T Bt) b3;have awF:=my W.ab3 (arz W.ab3.F T) b1;have FG:=my W.ab4 (ar5 W.ab4.F T) b2;have Vv:=my W.ab5 (ar6 W.ab5.F T agm Dn) b2;have agn:=Vq W.acz (asw W.acz.F T kb B Dn Bt) b1;have awG:=Vq W.acA (asO W.acA.F T kb B Dn Bt FG) b1;have awH:=my W.ab6 (asZ W.ab6.F T Bt FG) b1;have awI:=Vq W.acB (as0 W.acB.F T kb B) b1;have awJ:=my W.ab7 (ata W.ab7.F T Dn) b1;have awK:=my W.ab8 (att W.ab8.F T Vs wY) b2;have awL:=FE W.abz (atH W.abz.F T wY) b3;have awM:=vI W.abD (atO W.abD.F T wY) b2;have awN:=vI W.abE (atP W.abE.F T wY) b2;have awO:=vI W.abF (atR W.abF.F T) b2;have ago:=vI W.abG (atZ W.abG.F T awO awN) b2;have agp:=vI W.abH (aua W.abH.F T ago awM) b3;have awP:=vI W.abI (auf W.abI.F T agp wY) b2;have awQ:=vI W.abJ (auk W.abJ.F T awP) b2;have agq:=my W.ab9 (auo W.ab9.F T awL agp) b2;have awR:=my W.aca (auw W.aca.F T agq ago wY) b2;have awS:=my W.acb (auz W.acb.F T wY) b4;have awT:=my W.acd (auK W.acd.F T agq awQ awS) b2;have dp:afQ P w K mg base t es:=by
  refine ⟨fun n a b h=>?_⟩;unfold uV at h;refine qz h (dr W.acf (tV (aqC W.acf.F T awz agl)) b3 av9) fun h=>?_;refine qz h (dr W.acg (tV (arF W.acg.F T awF)) b3 awa) fun h=>?_;refine qz h (dr W.ach (tV (aqT W.ach.F T)) b3 call2) fun h=>?_;refine qz h (dr W.aci (tV (aqv W.aci.F T Dn)) b3 awb) fun h=>?_;refine qz h (dr W.acj (tV (aqw W.acj.F T Dn FF)) b3 awc) fun h=>?_;refine qz h (dr W.ack (tV (aqx W.ack.F T awD FF)) b3 awd) fun h=>?_;refine qz h (dr W.acm (tV (aqV W.acm.F T awE FF)) b3 awe) fun h=>?_;refine qz h (dr W.acn (ar9 W.acn.F T agn Vv) b3 awf) fun h=>?_;refine qz h (dr W.aco (asm W.aco.F T agn) b3 awg) fun h=>?_;refine qz h (dr W.acp (tV (ar7 W.acp.F T Bt FF FG)) b3 awh) fun h=>?_;refine qz h (dr W.acq (asS W.acq.F T awG) b3 awi) fun h=>?_;refine qz h (dr W.acr (tV (atg W.acr.F T awJ Bt FG)) b3 awj) fun h=>?_;refine qz h (dr W.acs (tV (ar8 W.acs.F T Bt FF FG)) b3 awk) fun h=>?_;refine qz h (dr W.acu (as3 W.acu.F T awH awI) b3 awl) fun h=>?_;refine qz h (dr W.acv (tV (auy W.acv.F T awR Vv)) b3 awm) fun h=>?_;refine qz h (dr W.acw (tV (au9 W.acw.F T awT Vv)) b3 awn) fun h=>?_;refine qz h (dr W.acx (tV (atF W.acx.F T Bt FF FG awK agl)) b3 awo) fun h=>?_;refine qz h (dr W.acy (tV (aqB W.acy.F T awB)) b3 awp) fun h=>?_;cases h
 have awU:=my W.ace (ave W.ace.F T hC tab dp agk awr) b2;exact avt W.ED.F T aqS awA T.RX agj Vr awU
end
theorem awV{P:eS}{w:eJ}{K:cB}{mg:Str->Option aq}{t:fZ}{fa d:Addr}{es:Array qD}(W:Wr K mg t es)(T:Txt K mg t)(UC:mg "answers"=some (.ref fa))(hC:mg "CALLS"=some (.ref d))(tab:KTab K d es):
  ∃fd:dn,(∀(s:a9)(us:List aq),us.length=Co.length->BindsTo s fd ⟨us,[]⟩ (Co.zip us))/\∀base:Heap,K.In base->base.Ns nG mg->wB base mg->c8 P w K mg base bJ 12 fa fd Co (LF K t):=by
 cases UC.symm.trans W.ED.m;refine ⟨W.ED.fd,fun s us hu=>?_,fun base kb gb B=>aoH awq ⟨P,w,K,mg,base,t⟩ _ _ W T hC tab kb gb B⟩;obtain ⟨oc,od,kV,doc,pm,an,c6,ct,oi,e,lk,qJ⟩:=W.ED.F.ex;rw[e];exact .of_eq (b1 (fun _ _=>rfl) kV doc pm an c6 ct us hu)
section
variable{K:cB}{h:Heap}{mg:Str->Option aq}{f c:Addr}{x qual m:Str}{st:Stmt}{oc kV doc pm c6 ct:aq}{od an:Option Addr}{oi:Array (Option aq)}
def awW(X:K.In h)(G:h.Ns nG mg)(a:PySem.W.nsIn K nG x=some (some (.ref f)):=by k_is)(l:K.lookup f=some ⟨oc,od,.func (ua x x (vj st) (sk st) (da st) .none kV doc pm an c6 ct),oi⟩:=by k_is)(cd:PySem.W.codeIn K c6 x=true:=by k_is)(k:pZ K (.ref f)=true:=by k_is):kZ K mg x st:=
 ⟨f,_,KS l cd k,F0 X G a⟩
theorem awX{Pt:Addr}{Vw:Option Addr}{vs:Array aq}{Vx:Array (Option aq)}{file:Str}{tf tg tt:Tok}{flags text:Int}{AU:Bool}(l:K.lookup c=some ⟨.type "code",Vw,.fields vs,Vx⟩)(Bs:vs[11]? =some (.ref Pt))(Vy:vs.getD 18 .none=.str file tf)(h7:vs.getD 7 .none=.int flags tg)(h9:vs.getD 9 .none=.bool AU)(CL:vs.getD 10 .none=.int text tt)(ne:c≠Pt):LD K c Pt:=
 ⟨_,vs,file,tf,flags,tg,AU,text,tt,l,rfl,rfl,Bs,by rw[Array.getD_eq_getD_getElem?,Bs];rfl,Vy,h7,h9,CL,ne⟩
def awY{Pt:Addr}(X:K.In h)(G:h.Ns nG mg)(a:PySem.W.nsIn K nG x=some (some (.ref f)):=by k_is)(l:K.lookup f=some ⟨oc,od,.func (ua x x (vj st) (sk st) (da st) .none kV doc pm an (.ref c) ct),oi⟩:=by k_is)(cd:PySem.W.codeIn K (.ref c) x=true:=by k_is)(k:pZ K (.ref f)=true:=by k_is){Vw:Option Addr}{vs:Array aq}{Vx:Array (Option aq)}{file:Str}{tf tg tt:Tok}{flags text:Int}{AU:Bool}(lc:K.lookup c=some ⟨.type "code",Vw,.fields vs,Vx⟩:=by k_is)(Bs:vs[11]? =some (.ref Pt):=by rfl)(Vy:vs.getD 18 .none=.str file tf:=by rfl)(h7:vs.getD 7 .none=.int flags tg:=by rfl)(h9:vs.getD 9 .none=.bool AU:=by rfl)(CL:vs.getD 10 .none=.int text tt:=by rfl)(ne:c≠Pt:=by decide):Hx K mg x st Pt:=
 ⟨f,_,c,⟨⟨oc,od,kV,doc,pm,an,ct,oi,rfl,l,cd⟩,k,awX lc Bs Vy h7 h9 CL ne⟩,F0 X G a⟩
def Vz{C:Addr}(a:uU K (.ref C) m=some (some (.ref f)):=by k_is)(i:PySem.W.isFn K (.ref f)=true:=by k_is)(l:K.lookup f=some ⟨oc,od,.func (ua m qual (vj st) (sk st) (da st) .none kV doc pm an c6 ct),oi⟩:=by k_is)(cd:PySem.W.codeIn K c6 qual=true:=by k_is)(k:pZ K (.ref f)=true:=by k_is):tM K C m qual st:=
 ⟨f,_,KS l cd k,⟨a,i,k⟩⟩
def FH{C:Addr}(mk:PySem.W.makesIn K C=true:=by k_is)(kc:pZ K (.ref C)=true:=by k_is)(a:uU K (.ref C) "__init__"=some (some (.ref f)):=by k_is)(i:PySem.W.isFn K (.ref f)=true:=by k_is)(l:K.lookup f=some ⟨oc,od,.func (ua "__init__" qual (vj st) (sk st) (da st) .none kV doc pm an c6 ct),oi⟩:=by k_is)(cd:PySem.W.codeIn K c6 qual=true:=by k_is)(k:pZ K (.ref f)=true:=by k_is):AW K C qual st:=
 ⟨f,_,KS l cd k,⟨mk,a,i,kc⟩⟩
def qB{es:Array qD}{n:Int}{a b:Nat}{tp:Addr}{ta tb:Tok}{tod:Option Addr}{tn:Nat}{tsl:Array (Option aq)}(e:findBy rY es (Sum.inl n)=some (.ref tp):=by kernel_rfl)(lt:K.lookup tp=some ⟨.type "tuple",tod,.seq #[.int (a:Int) ta,.int (b:Int) tb,.ref f] tn,tsl⟩:=by k_is)(l:K.lookup f=some ⟨oc,od,.func (ua x x (vj st) (sk st) (da st) .none kV doc pm an c6 ct),oi⟩:=by k_is)(cd:PySem.W.codeIn K c6 x=true:=by k_is)(k:pZ K (.ref f)=true:=by k_is):o9 K es n a b x st:=
 ⟨tp,f,_,⟨e,fun H=>.inr ⟨_,_,_,lt,rfl,rfl,by show 3<=cJ;decide,.cons ⟨ta,rfl⟩ (.cons ⟨tb,rfl⟩ (.cons rfl .nil))⟩⟩,KS l cd k⟩
theorem aw1{d:Addr}{es:Array qD}{ep:Nat}(l:K.lookup d=some {cls:=.type "dict",dict:=none,data:=.dict es ep,slots:=#[]})(ok:abb es.toList=true):KTab K d es:=⟨⟨ep,l⟩,ok⟩
theorem FI{C:Addr}(a:PySem.W.plainGet K C Str.empty=true:=by k_is)(b:PySem.W.hasDictIn K C=true:=by k_is)(d:PySem.W.plainOver K C=true:=by k_is)(e:uU K (.ref C) "__setattr__"=some (some (.builtin "object.__setattr__")):=by k_is):qL K C:=⟨a,b,d,e⟩
theorem aw2{C N:Addr}{nm q:Str}{bs:List aq}{hdct:Bool}{sn:List Str}{sub:List aq}{ab:Bool}{col:Option Bool}{dd:Option Addr}{k0 k1 k2 k3 k5:Option aq}(l:K.lookup C=some (excClassObj nm q C N bs PY hdct sn sub ab col dd k0 k1 k2 k3 k5 "ValueError.__new__"))(o:PySem.W.nsOkIn K N=true)(i:PySem.W.nsIn K N "__init__"=some none):KU K C:=
 ⟨nm,q,N,bs,hdct,sn,sub,ab,col,dd,k0,k1,k2,k3,k5,l,o,i⟩
theorem FJ{C:Addr}(a:uU K (.ref C) x=some none:=by k_is):lE K C x:=a
theorem agr{i:Int}{u:Tok}(X:K.In h)(G:h.Ns nG mg)(a:PySem.W.nsIn K nG x=some (some (.int i u)):=by k_is):∃u,mg x=some (.int i u):=⟨u,F0 X G a⟩
theorem VA{q:eS}{loose:List Str}{FC:ExcName->Option aq}{mb:Str->Option aq}{fd:dn}{occ:aq}{odc:Option Addr}{slc:Array (Option aq)}{vs:Array aq}{Pt:Addr}(X:K.In h)(G:h.Ns nG mg)(T:Top q loose FC mg mb h)(hn:((recsOf q).any fun d=>d.name==x)=true:=by decide +kernel)(a:PySem.W.nsIn K nG x=some (some (.ref f)):=by k_is)(l:K.lookup f=some ⟨oc,od,.func fd,oi⟩:=by k_is)(hc:fd.code=.ref c:=by rfl)(lc:K.lookup c=some ⟨occ,odc,.fields vs,slc⟩:=by k_is)(Bs:vs[11]? =some (.ref Pt):=by rfl):h.get? Pt=some NH/\isCodeTable h Pt:=
 tab_of T hn (F0 X G a) (X _ _ l) rfl hc (X _ _ lc) rfl Bs
theorem ags{R:Addr->Prop}{a b c:Addr}(U:R a)(h2:R b)(h3:R c):∀p∈[a,b,c],R p:=fun p hp=>by
 simp only[f6,NN,or_false]at hp;rcases hp with rfl|rfl|rfl
 .exact U
 .exact h2
 .exact h3
theorem aw6{t:fZ}{H:Hp}(hT:∀p∈[t.tK,t.tS,t.tB],H p=some (.kU #[])):l9 t H:=
 ⟨⟨_,hT _ (by simp),.inl rfl⟩,⟨_,hT _ (by simp),.inl rfl⟩,⟨_,hT _ (by simp),.inl rfl⟩⟩
theorem mgN(X:K.In h)(G:h.Ns nG mg)(a:PySem.W.nsIn K nG x=some none:=by k_is):mg x=none:=PySem.W.mg_none_of X G a
theorem Dq{v:aq}(X:K.In h)(G:h.Ns nG mg)(a:PySem.W.nsIn K nG x=some (some v):=by k_is):mg x=some v:=F0 X G a
end
abbrev adr:fZ:=⟨52,86,107,126,225,371,66,290,297,271⟩
end WD
namespace PySem.W.Fast
def tw5929871644033419040:=0
def tw78382211562095394:=0
def tw796419603983287363:=0
def tw6703557478668532229:=0
def tw18345164992612895431:=0
def tw1766017631250344424:=0
def tw2303905590680093384:=0
def tw11622678758939882825:=0
def tw6389252665959634186:=0
def tw7274069338629514762:=0
def tw3276907647246743915:=0
def tw10748503196655195627:=0
def tw14423017576296467884:=0
def tw1378249990086085484:=0
def tw4940631530540584109:=0
def tw15771885896703355597:=0
def tw13961391892885279470:=0
def tw3936192854941826543:=0
def tw11268863723237189551:=0
def tw322405492643057906:=0
def tw10076798438456607444:=0
def tw16598646571969608597:=0
def tw14381582227629824598:=0
def tw8988158519401862199:=0
def tw9900816894883225335:=0
def tw13184610231879807000:=0
def tw13333838424205116827:=0
def tw9829610985230948763:=0
def tw17610522186159889979:=0
def tw10677403662203420508:=0
def tw11553442186785623421:=0
def tw3532524235129175166:=0
def tw6982463923433307231:=0
def tw2605934713022667306:=0
def tw5521904377219230845:=0
def tw14335789079255668930:=0
def tw2730695650694689215:=0
def tw6484033156837126613:=0
def tw6866914010091911461:=0
def tw1420973766027313573:=0
def tw12409816976409832115:=0
def tw9465623137999795785:=0
def tw15418251370379963176:=0
def tw9911508154028711020:=0
def tw17488194217830268959:=0
def tw11867836738255338834:=0
def tw8616000538643679479:=0
def tw10296548094511056843:=0
def tw6359050427712070413:=0
def tw2669168197294913787:=0
def tw9639622823749798849:=0
def tw15744515135112188019:=0
def tw11551382164912946098:=0
def tw9111987673892350528:=0
def tw1889416104881380042:=0
def tw17895133635126739835:=0
def tw9658243180071034783:=0
def tw11002941968225494175:=0
def tw10244240199472205003:=0
def tw8353196664967885086:=0
def tw18255656115471116962:=0
def tw10928192458989447457:=0
def tw12736991609213345131:=0
def tw16118314866722625563:=0
def tw12656636009045093377:=0
def tw14843918829517650626:=0
def tw3261762419960805050:=0
def tw6224756117695535500:=0
def tw2258424272851316016:=0
def tw6719046852458618512:=0
def tw8250564736474786920:=0
def tw4141993512697359352:=0
def tw6088634819599242378:=0
def tw7321679972033685012:=0
def tw9766783715230299282:=0
def tw15766366120186659839:=0
def tw11597508417991670545:=0
def tw7028847175525064159:=0
def tw6909362460738745581:=0
def tw14999620132576397403:=0
def tw17162826590296076686:=0
def tw17008052347455856930:=0
def tw15654239347415573454:=0
def tw35984812832166363:=0
def tw9229247030179032136:=0
def tw17236511772663537756:=0
def tw5181253292409349247:=0
def tw8287888862245336550:=0
def tw10698883150245654319:=0
def tw16273444239802565860:=0
def tw16724534077273010442:=0
def tw12657244891556537459:=0
def tw15645467577859250433:=0
def tw10275097068647588806:=0
def tw18355355257842287429:=0
def tw4313837103444749006:=0
def tw3109760992566522391:=0
def tw669933279616208489:=0
def tw9751115935574786198:=0
def tw6086140293680451164:=0
def tw5076142230095087635:=0
def tw12016648676444882140:=0
def tw11341346768907530317:=0
def tw6271968457911182116:=0
def tw11024546979974201284:=0
def tw11109324610458764469:=0
def tw7437653280042651322:=0
def tw1658781850620763479:=0
def tw5931490600386200703:=0
def tw11399854102473081598:=0
def tw6241391208384483979:=0
def tw2418867253483968077:=0
def tw12898978348733988590:=0
def tw12717879306692504001:=0
def tw802909579171570117:=0
def tw13894489195596194524:=0
def tw5304479086529432048:=0
def tw5091585257677315299:=0
def tw13752321809359541569:=0
def tw5016316271997292303:=0
def tw8355120952961012326:=0
def tw16509660040464062432:=0
def tw8996303168491899324:=0
def tw15461041741641836479:=0
def tw11564271684706509300:=0
def tw2371747617007419006:=0
def tw9958454181134861678:=0
def tw16528198554300237843:=0
def tw1838110876935073778:=0
def tw6712658480722819798:=0
def tw15077934443213157653:=0
def tw1354514124700506040:=0
def tw15063057428392192346:=0
def tw18166194111553700403:=0
def tw6986651567461331860:=0
def tw11245969981872482576:=0
def tw6859749883055986730:=0
def tw2716639263107947071:=0
def tw8084656435307526224:=0
def tw3838603967837671825:=0
def tw8155014197900046997:=0
def tw1558581177029294658:=0
def tw9780083435705784317:=0
def tw14296379113687415489:=0
def tw12465615997850565850:=0
def tw15831177970034839015:=0
def tw16253844103064543485:=0
def tw18181017138321606171:=0
def tw11637668193342630746:=0
def tw9868621263127102425:=0
def tw2512822384051303300:=0
def tw15001074784301187155:=0
def tw2780885601947011805:=0
def tw10728839706803522908:=0
def tw9198455953467897923:=0
def tw9328574413664629484:=0
def tw18189673169308231360:=0
def tw8989253509881606529:=0
def tw2400965263594132367:=0
def tw7019336669721754115:=0
def tw4389855339583946976:=0
def tw13555070501106023603:=0
def tw4791722457586227322:=0
def tw13170013829384211603:=0
def tw9512150276703187760:=0
def tw10936260388419867940:=0
def tw5498857198778463759:=0
def tw16900127020052721175:=0
def tw16943228269658132174:=0
def tw13366214673301547638:=0
def tw1187235006453095457:=0
def tw14122842860425617266:=0
def tw18308406527481179206:=0
def tw5991435098995725576:=0
def tw3091474138204194371:=0
def tw4685461441899896490:=0
def tw4449513975910643988:=0
def tw4529094335034676858:=0
def tw13543301575314323349:=0
def tw13122473776972200608:=0
def tw5127792825934443351:=0
def tw7453441074803588756:=0
def tw10308813040210807569:=0
def tw14709152431557277937:=0
end PySem.W.Fast
open PySem.W
set_option maxRecDepth 100000 in
set_option maxHeartbeats 0 in
theorem PySem.Challenge.cw_whokeepsdesk_s01_answers_holds : PySem.Challenge.rw_whokeepsdesk_s01_answers.Holds := by
 w_on;k_headS;(case hw=>exact ⟨[.list [.int 1]],by decide +kernel,by decide +kernel⟩)
 k_fillS;refine L2.av1 (r:=PySem.Challenge.rw_whokeepsdesk_s01_answers) (k:=12) (CX:=L2.bJ) (ps:=WD.Co) (sp:=fun K=>WD.LF K WD.adr) [290,297,271] (by decide +kernel) rfl rfl ⟨rfl,by decide,by decide⟩ (fun w h Y=>PySem.W.kIn_of Y) (fun Pm=>WD.ags (by kernel_rfl) (by kernel_rfl) (by kernel_rfl)) ?F ?S (fun _ _ _ _ z=>z)
 case F=>
  intro w mg mb FC fa h KX G TT Vp;refine ⟨WD.ags ?t1 ?t2 ?t3,?_⟩
  case t1=>
   exact WD.VA (x:="keepers_by_object") KX G TT
  case t2=>
   exact WD.VA (x:="kept_sizes") KX G TT
  case t3=>
   exact WD.VA (x:="best_hold") KX G TT
  refine' WD.awV (t:=WD.adr) (d:=545) ?W ?T Vp (F0 KX G (by k_is)) ?tab
  case tab=>
   refine' WD.aw1 ?l ?o
   (case l=>k_is);(case o=>kernel_rfl)
  case T=>
   constructor;exact WD.FI (C:=52);exact WD.FI (C:=86);exact WD.FI (C:=107);exact WD.FI (C:=126);exact WD.FI (C:=225)
   iterate 2 exact WD.FJ (C:=52)
   iterate 3 exact WD.FJ (C:=86)
   iterate 3 exact WD.FJ (C:=107)
   iterate 7 exact WD.FJ (C:=126)
   exact WD.FI (C:=371)
   iterate 3 exact by decide
   iterate 4 exact WD.FJ (C:=371)
   exact WD.Dq KX G (v:=.ref 371)
   iterate 2 exact WD.mgN KX G
   exact WD.agr KX G
   iterate 2 exact WD.FJ (C:=225)
   exact WD.Dq KX G (v:=.ref 52);exact WD.Dq KX G (v:=.ref 86);exact WD.Dq KX G (v:=.ref 107);exact WD.Dq KX G (v:=.ref 126);exact WD.Dq KX G (v:=.ref 225);exact WD.Dq KX G (v:=.ref 66)
   (refine' WD.aw2 (C:=66) ?xl ?xo ?xn;(case xl=>k_is);(case xo=>kernel_rfl);(case xn=>k_is))
   iterate 7 exact WD.mgN KX G
   iterate 16 exact WD.agr KX G
  case W=>
   constructor;exact WD.FH (C:=225);exact WD.FH (C:=86);exact WD.FH (C:=126);exact WD.FH (C:=107);exact WD.FH (C:=371);exact WD.FH (C:=52)
   iterate 2 exact WD.Vz (C:=225)
   iterate 7 exact WD.Vz (C:=371)
   iterate 3 exact WD.Vz (C:=52)
   iterate 28 exact WD.awW KX G
   exact WD.qB (f:=425) (tp:=546);exact WD.qB (f:=432) (tp:=547);exact WD.qB (f:=439) (tp:=548);exact WD.qB (f:=446) (tp:=549);exact WD.qB (f:=453) (tp:=550);exact WD.qB (f:=460) (tp:=551);exact WD.qB (f:=467) (tp:=552);exact WD.qB (f:=474) (tp:=553);exact WD.qB (f:=481) (tp:=554);exact WD.qB (f:=488) (tp:=555);exact WD.qB (f:=495) (tp:=556);exact WD.qB (f:=502) (tp:=557);exact WD.qB (f:=509) (tp:=558);exact WD.qB (f:=516) (tp:=559);exact WD.qB (f:=523) (tp:=560);exact WD.qB (f:=530) (tp:=561);exact WD.qB (f:=537) (tp:=562);exact WD.qB (f:=544) (tp:=564)
   iterate 3 exact WD.awY KX G
 case S=>
  intro K H xs a hT Au zM hx;cases hx with
  |cons U h2=>
   cases h2;cases U with
   |lst hs ha=>
    have e:=L2.af3 a.1 _ ha;subst e;exact ⟨_,a.1,rfl,hs,WD.aw6 hT,zM,fun H' p _ _ _ hp=>.lst (L2.aD.of hp) (L2.af2 _)⟩
