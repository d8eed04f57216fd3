import PyProof.Rows.All
import Wide.All
import OpenK.AllK
import Wide.FinOn
import PyProof.EqAt
import PyProof.EqKinds
import PyProof.TupleCall
import PyProof.Rows.EqDataRows
import PyProof.ReprRoads
import KE.KIsAll
import KE.KTryMore
import HandS.ForMost
import HandS.ForExc
import HandS.ExcInit
import HandS.ExcIs
import HandS.IsInst
import HandS.More
import HandS.Defaults
import HandS.MakeKw
import HandS.MakeKwOnly
import HandS.ExcValue
import HandS.ExcField
import HandS.Wide
import HandS.WideBits
import PyProof.ReprLen
import PySem.Challenge.RW_latesums_k01_errors
set_option Elab.async false
set_option linter.all false
set_option maxRecDepth 100000
set_option maxHeartbeats 8000000
/-! # What the laws' proofs lean on, 1: data that is shown and compared as a whole; errors held as values; defs whose frame knows that no repr runs around them. -/
namespace L2.Vf
open PySem PySem.Spec PyProof.Rows

/-! ## data, read off the abstract heap -/
def keyD : Key → PyData
  | .inl i => .int i
  | .inr x => .str x
mutual
/-- the value v is the data d; as: the lists in it -/
inductive Sh (K : PySem.W.Frag) (H : Hp) : V → PyData → List Addr → Prop
  | non : Sh K H .non .none []
  | bl (b : Bool) : Sh K H (.bl b) (.bool b) []
  | int (i : Int) : Sh K H (.int i) (.int i) []
  | str (x : Str) : Sh K H (.str x) (.str x) []
  | lst {a : Addr} {xs : List V} {ds : List PyData} {as : List Addr} : SqL K H a xs → Shs K H xs ds as → Sh K H (.ref a) (.list ds) (a :: as)
  | tup {a : Addr} {xs : List V} {ds : List PyData} {as : List Addr} : SqT K H a xs → Shs K H xs ds as → Sh K H (.ref a) (.tuple ds) as
  | dK {a : Addr} {kvs : List (Key × V)} {ds : List PyData} {as : List Addr} : Rd H a (.dK kvs) → Shs K H (kvs.map (·.2)) ds as → Sh K H (.ref a) (.dict ((kvs.map fun p => keyD p.1).zip ds)) as
inductive Shs (K : PySem.W.Frag) (H : Hp) : List V → List PyData → List Addr → Prop
  | nil : Shs K H [] [] []
  | cons {x : V} {xs : List V} {d : PyData} {ds : List PyData} {as bs : List Addr} : Sh K H x d as → Shs K H xs ds bs → Shs K H (x :: xs) (d :: ds) (as ++ bs)
end
theorem Shs.length {K : PySem.W.Frag} {H : Hp} : ∀ {xs : List V} {ds : List PyData} {as : List Addr}, Shs K H xs ds as → xs.length = ds.length
  | _, _, _, .nil => rfl
  | _, _, _, .cons _ t => by simp [Shs.length t]

theorem reads_keys {P : Program} {w : World} {h : Heap} : ∀ {es : List DictEntry} {vs : List (Key × Value)}, PySem.Pairs (mixKind P w) es vs → ReadsAll h (es.map (·.key)) (vs.map fun p => keyD p.1) []
  | _, _, .nil => .nil
  | _, _, .cons (e := e) (kv := kv) h1 _ t => by
    have ih := reads_keys (h := h) t
    have k : Reads h e.key (keyD kv.1) [] := by
      rcases keyIs_shape (show keyIs kv.1 e.key = true from h1) with ⟨i, u, e1, e2⟩ | ⟨x, u, e1, e2⟩
      · rw [e1, e2]; exact .int i u
      · rw [e1, e2]; exact .str x u
    exact ReadsAll.cons (as := []) (bs := []) k ih
theorem pairs_vals {P : Program} {w : World} : ∀ {es : List DictEntry} {vs : List (Key × Value)}, PySem.Pairs (mixKind P w) es vs → es.map (·.val) = vs.map (·.2)
  | _, _, .nil => rfl
  | _, _, .cons _ h2 t => by
    rw [List.map_cons, List.map_cons, pairs_vals t, h2]
theorem kv_keys : ∀ {ks : List (Key × V)} {vs : List (Key × Value)}, KV ks vs → (ks.map fun p => keyD p.1) = vs.map fun p => keyD p.1
  | _, _, .nil => rfl
  | _, _, .cons h t => by
    rw [List.map_cons, List.map_cons, kv_keys t, h.1]
theorem kv_vals : ∀ {ks : List (Key × V)} {vs : List (Key × Value)}, KV ks vs → Vals (ks.map (·.2)) (vs.map (·.2))
  | _, _, .nil => .nil
  | _, _, .cons h t => .cons h.2 (kv_vals t)

section
variable {X : Cx} {pins : List (Addr × Obj)} {σ : St} {H : Hp} {s : Shared}
mutual
theorem Sh.reads (I : Inv X pins σ H s) : ∀ {v : V} {d : PyData} {as : List Addr} {u : Value}, Sh X.K H v d as → RelV v u → ∃ bs, Reads s.heap u d bs ∧ ∀ b ∈ bs, b ∈ as ∨ b ≠ sysModules
  | _, _, _, _, .non, r => by cases r; exact ⟨[], .none, fun _ h => nomatch h⟩
  | _, _, _, _, .bl b, r => by cases r; exact ⟨[], .bool b, fun _ h => nomatch h⟩
  | _, _, _, _, .int i, r => by obtain ⟨t, rfl⟩ := r; exact ⟨[], .int i t, fun _ h => nomatch h⟩
  | _, _, _, _, .str x, r => by obtain ⟨t, rfl⟩ := r; exact ⟨[], .str x t, fun _ h => nomatch h⟩
  | _, _, _, _, .lst (a := a) h hs, r => by
    cases r
    obtain ⟨us, rv, ⟨o, n, e, hc, _, hd⟩, _⟩ := I.list h
    obtain ⟨bs, q, hb⟩ := Shs.reads I hs rv
    exact ⟨_, .list e hc hd q, fun b m => (List.mem_cons.mp m).elim (fun z => .inl (z ▸ List.mem_cons_self)) fun z => (hb b z).imp (List.mem_cons_of_mem _) id⟩
  | _, _, _, _, .tup (a := a) h hs, r => by
    cases r
    obtain ⟨us, rv, ⟨o, e, hc, n, hd⟩, _⟩ := I.tuple h
    obtain ⟨bs, q, hb⟩ := Shs.reads I hs rv
    exact ⟨_, .tuple e hc hd q, hb⟩
  | _, _, _, _, .dK (a := a) (kvs := kvs) (ds := ds) h hs, r => by
    cases r
    obtain ⟨_, hm, vs, kv, o, es, ep, e, hc, hd, _, pr, _⟩ := dk_rd I.hok h
    have l1 := hs.length
    rw [List.length_map] at l1
    have k1 : (((kvs.map fun p => keyD p.1).zip ds).map (·.1)) = vs.map fun p => keyD p.1 := by
      rw [← kv_keys kv, List.map_fst_zip]
      rw [List.length_map]; omega
    have k2 : (((kvs.map fun p => keyD p.1).zip ds).map (·.2)) = ds := by
      rw [List.map_snd_zip]
      rw [List.length_map]; omega
    obtain ⟨bs, q, hb⟩ := Shs.reads I hs (kv_vals kv)
    refine ⟨_, Reads.dict (as := []) (bs := bs) e hc.1 hd ?_ ?_, fun b m => ?_⟩
    · rw [k1]; exact reads_keys pr
    · rw [k2, pairs_vals pr]; exact q
    · rcases List.mem_cons.mp (show b ∈ a :: bs from m) with z | z
      · exact .inr (by rw [z]; exact beq_eq_false_iff_ne.mp hm)
      · exact hb b z
theorem Shs.reads (I : Inv X pins σ H s) : ∀ {vs : List V} {ds : List PyData} {as : List Addr} {us : List Value}, Shs X.K H vs ds as → Vals vs us → ∃ bs, ReadsAll s.heap us ds bs ∧ ∀ b ∈ bs, b ∈ as ∨ b ≠ sysModules
  | _, _, _, _, .nil, r => by cases r; exact ⟨[], .nil, fun _ h => nomatch h⟩
  | _, _, _, _, .cons h t, r => by
    cases r with
    | cons r1 r2 =>
      obtain ⟨b1, q1, m1⟩ := Sh.reads I h r1
      obtain ⟨b2, q2, m2⟩ := Shs.reads I t r2
      exact ⟨_, .cons q1 q2, fun b m => (List.mem_append.mp m).elim (fun z => (m1 b z).imp (List.mem_append_left _) id) fun z => (m2 b z).imp (List.mem_append_right _) id⟩
end
end

/-- data that may be written out: ints not too long, not too deep, short enough; no table of modules in a dict -/
structure Wr (d : PyData) (as : List Addr) : Prop where
  show_ : d.showable = true
  deep : d.depth ≤ 50
  len : d.shown.length ≤ sizeLine
  nom : d.hasDict = true → sysModules ∉ as
/-- repr(x) -/
def rRepr (K : PySem.W.Frag) : List V → Hp → VK → Prop := fun xs H Q => ∃ (v : V) (d : PyData) (as : List Addr), xs = [v] ∧ Sh K H v d as ∧ Wr d as ∧ Q (.str d.shown) H
section
variable {X : Cx}
theorem call_reprD (hg : X.A.guards = some []) (hu : X.A.units + 64 < cLine) : CallR X (.builtin "repr") (rRepr X.K) := by
  intro pins s σ H xs us Q I r h
  obtain ⟨v, d, as, rfl, hs, hw, q⟩ := h
  obtain ⟨u, rfl, r1⟩ := vals1 r
  obtain ⟨bs, rd, hb⟩ := hs.reads I r1
  have nom : d.hasDict = true → sysModules ∉ bs := fun h m => (hb _ m).elim (hw.nom h) fun z => z rfl
  have fin : ∀ h' t tk, (∀ b o, s.heap.get? b = some o → h'.get? b = some o) → EP X pins σ Q (.str d.shown t) { s with heap := h', toks := tk } := fun h' t tk k => ⟨.str d.shown, H, I.kept k, ⟨t, rfl⟩, q⟩
  cases rd with
  | none => exact PySem.P.repr_of_none (fin s.heap _ _ fun _ _ e => e)
  | bool b => exact PySem.P.repr_of_bool (fin s.heap _ _ fun _ _ e => e)
  | int i t => exact PySem.P.repr_of_int (by simpa [PyData.showable] using hw.show_) (fin s.heap _ _ fun _ _ e => e)
  | str x t => exact PySem.P.repr_of_str (fin s.heap _ _ fun _ _ e => e) (by simpa only [PyData.shown] using hw.len)
  | list h1 h2 h3 h4 => exact repr_of_reads' (.list h1 h2 h3 h4) hw.show_ nom hg (by have := hw.deep; omega) (fun _ _ e => e) fin hw.len
  | tuple h1 h2 h3 h4 => exact repr_of_reads' (.tuple h1 h2 h3 h4) hw.show_ nom hg (by have := hw.deep; omega) (fun _ _ e => e) fin hw.len
  | dict h1 h2 h3 h4 h5 => exact repr_of_reads' (.dict h1 h2 h3 h4 h5) hw.show_ nom hg (by have := hw.deep; omega) (fun _ _ e => e) fin hw.len
/-- a == b, a != b of data without dicts -/
def rEqD (K : PySem.W.Frag) (neg : Bool) : R2 := fun x y H Q => ∃ (d e : PyData) (as bs : List Addr), Sh K H x d as ∧ Sh K H y e bs ∧ SeqAt.shaped d = true ∧ SeqAt.shaped e = true ∧ Q (.bl (if neg then !PyData.eqv d e else PyData.eqv d e)) H
theorem op_eqD (hu : X.A.units + 64 < cLine) : OpR X (compareOp .Eq) (rEqD X.K false) := by
  intro pins s σ H x y v u Q I rx ry h
  obtain ⟨d, e, as, bs, h1, h2, s1, s2, q⟩ := h
  obtain ⟨_, q1, _⟩ := h1.reads I rx
  obtain ⟨_, q2, _⟩ := h2.reads I ry
  exact eq_dataH q1 q2 s1 s2 hu ⟨.bl _, H, I, rfl, q⟩
theorem op_neD (hu : X.A.units + 64 < cLine) : OpR X (compareOp .NotEq) (rEqD X.K true) := by
  intro pins s σ H x y v u Q I rx ry h
  obtain ⟨d, e, as, bs, h1, h2, s1, s2, q⟩ := h
  obtain ⟨_, q1, _⟩ := h1.reads I rx
  obtain ⟨_, q2, _⟩ := h2.reads I ry
  exact ne_dataH q1 q2 s1 s2 hu ⟨.bl _, H, I, rfl, q⟩
end
end L2.Vf

/-! # 2: errors of the program's own made by a call with keywords -/
namespace PySem
namespace VfK
open PySem.W PySem.Calls PyProof.Rows PySem.HandSPX
open Builtin Builtin.ObjectAttr
section
variable {prog : Program} {w : World} {A : Around} {E : Value → Shared → Prop} {R : Result → Shared → Prop} {h : Heap} {g : Array GenState} {d : Drawn} {t : Nat} {os : OsState} {kw : List (Str × Value)}
variable {nm q : Str} {C N : Addr} {bs bm bmB : List Value} {hdct : Bool} {sn : List Str} {sub : List Value} {ab : Bool} {col : Option Bool} {dd : Option Addr} {k0 k1 k2 k3 k5 : Option Value} {B newId initId : String}
theorem kw_check {M : Model} (F : ExcBaseFacts B newId initId bmB) (hT : ∀ X : String, bm.contains (.type X) = bmB.contains (.type X)) {rest : List Value} {Q : Unit → Shared → Prop}
    (hC : h.get? C = some (excClassObj nm q C N bs bm hdct sn sub ab col dd k0 k1 k2 k3 k5 newId)) (hq : Q () ⟨h, g, d, t, os⟩) : wpAny M A (checkBuiltinCall newId ⟨.ref C :: rest, kw⟩) Q E ⟨h, g, d, t, os⟩ := by
  have hstar := F.noStar; have hcont : (Value.ref C :: bm).contains (.type B) = true := by rw [List.contains_cons, hT, F.hasB, Bool.or_true]
  simp only [checkBuiltinCall, F.newKind, F.newSplit, F.newRow] <;> repeat (first | refine wpAny_loadPart_at hC ?_ | (refine wpAny_isSubtype_exc hC ?_; rw [hcont]) | refine wpAny_staticBase_exc hC ?_ | refine wpAny_madeBy_exc hC ?_ | simp only [bne_self_eq_false, Bool.false_eq_true, if_false] | wp_step)
  exact hq
theorem kw_new (F : ExcBaseFacts B newId initId bmB) (hT : ∀ X : String, bm.contains (.type X) = bmB.contains (.type X)) {rest : List Value}
    (hC : h.get? C = some (excClassObj nm q C N bs bm hdct sn sub ab col dd k0 k1 k2 k3 k5 newId)) (hrest : rest.length ≤ sizeLine)
    (hq : R (.ok (.ret (.ref (h.objs.size + 1)))) ⟨(h.push (W.kdv_tup rest)).push (excO C h.objs.size), g, d, t, os⟩) : codeAny (model prog w) A (.builtin newId ⟨.ref C :: rest, kw⟩) R ⟨h, g, d, t, os⟩ := by
  have hends := F.ends; have hcB : (Value.ref C :: bm).contains (.type B) = true := by rw [List.contains_cons, hT, F.hasB, Bool.or_true]
  have hcA : (Value.ref C :: bm).contains (.type "AttributeError") = false ∧ (Value.ref C :: bm).contains (.type "NameError") = false := ⟨by rw [List.contains_cons, hT, F.noAttr]; rfl, by rw [List.contains_cons, hT, F.noName]; rfl⟩
  refine codeAny_builtinAt F.entry ?_; unfold Builtin.«BaseException.__new__»
  refine wpAt_bind ?_; show wpAt _ _ _ (stack >>= _) _ _ _
  refine wpAt_bind (wpAt_stack fun p below => wpAt_of_wpAny ?_); wp_walk
  refine wpAt_of_wpAny ?_; rw [F.owner]; repeat (first | with_reducible refine wpAny_madeHere_exc F.canon hC ?_ | with_reducible refine wpAny_loadPart_at hC ?_ | (with_reducible refine wpAny_isSubtype_exc hC ?_; first | rw [hcB] | rw [hcA.1] | rw [hcA.2]) | wp_step)
  show R _ _; rw [Heap.size_push]; exact hq
theorem kw_type (F : ExcBaseFacts B newId initId bmB) (hT : ∀ X : String, bm.contains (.type X) = bmB.contains (.type X)) {rest : List Value} {fI : Addr} {Q : Fin → Shared → Prop}
    (hC : h.get? C = some (excClassObj nm q C N bs bm hdct sn sub ab col dd k0 k1 k2 k3 k5 newId)) (hrest : rest.length ≤ sizeLine)
    (hi : W.Looks (model prog w) h (typeLookup (.ref C) "__init__") (some (.ref fI))) (hb : ∀ self, W.Looks (model prog w) h (bindSpecial (.ref fI) self) (.ref fI, [self]))
    (hq : codeAny (model prog w) A (.call (.ref fI) ⟨.ref (h.objs.size + 1) :: rest, kw⟩) (fun r s' => match r with | .ok (.ret v) => v = .none ∧ Q (.done (.ret (.ref (h.objs.size + 1)))) s' | .ok _ => False | .error e => E e s')
      ⟨(h.push (W.kdv_tup rest)).push (excO C h.objs.size), g, d, t, os⟩) : wpAny (model prog w) A (Builtin.«type.__call__» ⟨.ref C :: rest, kw⟩) Q E ⟨h, g, d, t, os⟩ := by
  repeat (first | with_reducible refine wpAny_loadPart_at hC ?_ | with_reducible refine wpAny_madeBy_exc hC ?_ | wp_step)
  refine codeAny_call_builtin_code (Code.quiet_builtin _ F.quiet) (kw_check F hT hC ?_); refine kw_new F hT hC hrest ?_
  show wpAny _ _ _ _ _ _
  have k : ∀ b o, h.get? b = some o → ((h.push (W.kdv_tup rest)).push (excO C h.objs.size)).get? b = some o := fun b o e => Heap.get?_push_of_some _ (Heap.get?_push_of_some _ e)
  have i1 := hi.keeps k; have b1 := (hb (.ref (h.objs.size + 1))).keeps k; have hC₁ := k _ _ hC
  have hcC : (Value.ref C :: bm).contains (.ref C) = true ∧ ((h.push (W.kdv_tup rest)).push (excO C h.objs.size)).get? (h.objs.size + 1) = some (excO C h.objs.size) := ⟨by simp, by heap_get⟩
  have hget := hcC.2
  unfold isInstance; repeat (first | with_reducible refine wpAny_loadPart_at hget ?_ | (with_reducible refine wpAny_isSubtype_exc hC₁ ?_; rw [hcC.1]) | wp_step)
  show wpAny _ _ (typeLookup (.ref C) _) _ _ _; refine i1.at ?_; refine wpAny_holding (wpAny_bind (b1.at ?_))
  refine wpAny_bind (wpAny_call (codeAny_mono hq fun r s' z => ?_)); rcases r with e | (v | _ | _ | _) <;> first | exact z | exact z.elim | skip
  obtain ⟨rfl, z⟩ := z; first | exact wpAny_pure (wpAny_pure z) | (wp_walk; exact z)
theorem kw_call (F : ExcBaseFacts B newId initId bmB) (hT : ∀ X : String, bm.contains (.type X) = bmB.contains (.type X)) {rest : List Value} {fI : Addr}
    (hC : h.get? C = some (excClassObj nm q C N bs bm hdct sn sub ab col dd k0 k1 k2 k3 k5 newId)) (hrest : rest.length ≤ sizeLine)
    (hi : W.Looks (model prog w) h (typeLookup (.ref C) "__init__") (some (.ref fI))) (hb : ∀ self, W.Looks (model prog w) h (bindSpecial (.ref fI) self) (.ref fI, [self]))
    (hq : codeAny (model prog w) (A.under (.builtin "type.__call__" ⟨.ref C :: rest, kw⟩)) (.call (.ref fI) ⟨.ref (h.objs.size + 1) :: rest, kw⟩) (W.InitBack (h.objs.size + 1) R) ⟨(h.push (W.kdv_tup rest)).push (excO C h.objs.size), g, d, t, os⟩) :
    codeAny (model prog w) A (.call (.ref C) ⟨rest, kw⟩) R ⟨h, g, d, t, os⟩ := by
  have f1 := tc_lookup; have f2 := tc_bind (.ref C); have hTy : (⟨h, g, d, t, os⟩ : Shared).TypeIs (.ref C) "type" := ⟨_, hC, rfl⟩
  refine codeAny_of_tree ?_; show wpAny _ _ (callAny (.ref C) _) _ _ _
  repeat (any_goals (first | assumption | with_reducible refine wpAny_loadPart_at hC ?_ | wp_step))
  refine ⟨rfl, ?_⟩; refine codeAny_call_builtin_at (Code.quiet_builtin _ (by decide +kernel)) entry_typeCall (wpAny_check_type_call_sub hC (kw_type F hT hC hrest hi hb ?_))
  refine codeAny_mono hq fun r s' z => ?_; rcases r with e | (v | _ | _ | _) <;> exact z
end
end VfK
end PySem

/-! # 3: errors of the program's own, held as values: made, read, asked for their class -/
namespace L2.Vf
open PySem PySem.Spec PyProof.Rows

/-- what the written part says of such a class, its __init__ at fI, its field fld -/
structure ErC (K : PySem.W.Frag) (C fI : Addr) (fld : Str) : Prop where
  ox : OexC K C
  iC : PySem.W.findIn K (.ref C) "__init__" = some (some (.ref fI))
  tI : PySem.W.typeIn K (.ref fI) = some (.type "function")
  no : PySem.W.findIn K (.ref C) fld = some none
  xc : ExcC K C

section
variable {X : Cx} {CX : CXT} {k : Nat} {pins : List (Addr × Obj)} {σ : St} {H : Hp} {s : Shared}
/-- C(..): us positional, kw by name; ws what they bind to behind self -/
theorem run_er {C fI : Addr} {fd : FuncData} {ps : List Str} {sp : Sp} {Q : VK} {us ws : List Value} {kw : List (Str × Value)} {vs : List V} (T : OexC X.K C)
    (iC : PySem.W.findIn X.K (.ref C) "__init__" = some (some (.ref fI))) (tI : PySem.W.typeIn X.K (.ref fI) = some (.type "function"))
    (F1 : FnOk X.prog X.w X.K X.mg X.base CX k fI fd ps sp) (hr : Room (k + 1) X.A) (hz : us.length ≤ 1000)
    (hb : ∀ (s : Shared) (x : Value), X.K.In s.heap → BindsTo s fd ⟨x :: us, kw⟩ (ps.zip (x :: ws))) (hx : Passes CX X E0) (I : Inv X pins σ H s) (r : Vals vs ws)
    (h : ∀ a, H a = none → sp (.ref a :: vs) (upd H a (exo a C none)) (fun v H2 => v = .non ∧ Q (.ref a) H2) E0) :
    wpAny (model X.prog X.w) X.A (call (.ref C) us kw) (EP X pins σ Q) X.xe s := by
  obtain ⟨nm, q, N, bs, bm, sn, sub, ab, col, dd, k0, k1, k2, k3, k5, hC, hbm⟩ := T.cls
  obtain ⟨hp, g, dr, tk, os⟩ := s
  have hsz : hp.objs.size ≤ hp.objs.size + 1 := Nat.le_succ _
  have hn : H (hp.objs.size + 1) = none := I.hok.fresh hsz
  have hq := h (hp.objs.size + 1) hn
  have kk : ∀ b o, hp.get? b = some o → ((hp.push (PySem.W.kdv_tup us)).push (PySem.HandSPX.excO C hp.objs.size)).get? b = some o := fun b o e => by
    exact Heap.get?_push_of_some _ (Heap.get?_push_of_some _ e)
  have hget : ((hp.push (PySem.W.kdv_tup us)).push (PySem.HandSPX.excO C hp.objs.size)).get? (hp.objs.size + 1) = some (PySem.HandSPX.excO C hp.objs.size) := by
    heap_get
  have I2 : Inv X pins σ (upd H (hp.objs.size + 1) (exo (hp.objs.size + 1) C none)) ⟨(hp.push (PySem.W.kdv_tup us)).push (PySem.HandSPX.excO C hp.objs.size), g, dr, tk, os⟩ := by
    exact I.laid (t' := tk) (a := hp.objs.size + 1) (o := exo (hp.objs.size + 1) C none) kk hsz (exo_ok hget)
  have hus : us.length ≤ sizeLine := by rw [sizeLine_eq]; omega
  refine wpAny_call (PySem.VfK.kw_call F.excBase_ValueError (fun Y => PySem.HandSPX.refsVE_contains Y bm hbm) (I.kIn _ _ hC) hus (PySem.W.looks_findIn I.kIn iC) (fun self => PySem.W.bind_fn I.kIn self tI) ?_)
  refine codeAny_mono (F1.run _ X.stack _ _ _ (Value.ref (hp.objs.size + 1) :: ws) (.ref (hp.objs.size + 1) :: vs) _ E0 (hr.make C us kw) (I2.env0.make C us kw) (hb _ _ I2.kIn) (.cons rfl r) hq) fun r s' hq' => ?_
  cases r with
  | error er => exact hx pins σ _ _ er s' I2 hq'
  | ok fl =>
    cases fl with
    | ret u =>
      obtain ⟨v, H', I3, rv, ev, q3⟩ := I2.after hq'
      subst ev
      exact ⟨rv, ⟨V.ref (hp.objs.size + 1), H', I3, rfl, q3⟩⟩
    | next => exact hq'.elim
    | brk => exact hq'.elim
    | cont => exact hq'.elim

/-- an error without __init__ -/
theorem run_er0 {C : Addr} {bmB : List Value} {B newId initId : String} {Q : VK} {us : List Value} (F : ExcBaseFacts B newId initId bmB) (q : PySem.W.excIn X.K C bmB newId = true) (hz : us.length ≤ 1000) (I : Inv X pins σ H s)
    (h : ∀ a, H a = none → Q (.ref a) (upd H a (exo a C none))) : wpAny (model X.prog X.w) X.A (call (.ref C) us) (EP X pins σ Q) X.xe s := by
  obtain ⟨bm, N, nm, qn, bs, hdct, sn, sub, ab, col, dd, k0, k1, k2, k3, k5, mN, hC, hN, hni, T⟩ := exc_obj I.kIn q
  refine wpAny_call_exc_subT F T hC hN hni (fun h' a hm => ?_) (by rw [sizeLine_eq]; omega)
  have hn : H a = none := I.hok.gone hm.new
  obtain ⟨t, ht, _, _⟩ := hm.there
  exact ⟨.ref a, upd H a (exo a C none), I.laidN hm.keeps hm.new hn (exo_ok ht), rfl, h a hn⟩

/-! ### the calls, as expressions -/
/-- C(e), C(f = e), C() -/
def tEr (C : Addr) (sp : Sp) (t : TA) : TE := fun σ H Q => t σ H fun vs H1 => vs.length ≤ 1000 ∧ ∀ a, H1 a = none → sp (.ref a :: vs) (upd H1 a (exo a C none)) (fun v H2 => v = .non ∧ Q (.ref a) H2) E0
def tErD (C : Addr) (sp : Sp) : TE := fun σ H Q => ∀ a, H a = none → sp [.ref a, .non] (upd H a (exo a C none)) (fun v H2 => v = .non ∧ Q (.ref a) H2) E0
variable {C fI : Addr} {fld x : Str} {fd : FuncData} {ps ks : List Str} {sp : Sp} {e : Expr} {es : List Expr} {kws : List Keyword} {t : TA} {p pos : Pos}
theorem pe_er (T : ErC X.K C fI fld) (F1 : FnOk X.prog X.w X.K X.mg X.base CX k fI fd ps sp) (hr : Room (k + 1) X.A) (hb : Binds X.K fd ps []) (hx : Passes CX X E0) (hg : Gl X x) (hm : X.mg x = some (.ref C)) (ha : PA X (e :: es) t)
    (hdb : (x == ("__debug__" : Str)) = false := by decide) (he : starEach (e :: es) X.env = (false, eval e X.env) :: starEach es X.env := by rfl) (hpl : (backTo pos (starEach es X.env)).any (·.1) = false := by rfl) :
    PE X (.Call (.Name x p) (e :: es) [] pos) (tEr C sp t) := by
  refine ⟨fun pins s σ H Q I h => wpAny_Call_Name_kw (ld_glob I hg hm ?_ hdb)⟩
  refine PySem.W.callWith_K (h₀ := X.base) I.ok.mod.kin T.ox.kC (thn (ha.run pos pins s σ H _ I h) fun us s1 hh => ?_) he hpl
  obtain ⟨vs, H1, I1, r, hz, q⟩ := hh
  have hl : us.length ≤ 1000 := by rw [← r.length]; exact hz
  have hn : H1 s1.heap.objs.size = none := I1.hok.fresh (Nat.le_refl _)
  have l2 := F1.len _ _ _ _ (q _ hn)
  refine ⟨I1.kIn, run_er T.ox T.iC T.tI F1 hr hl (fun s x X => ?_) hx I1 r q⟩
  have z := hb s (x :: us) X (by rw [List.append_nil, List.length_cons, ← r.length]; exact l2)
  rw [List.append_nil] at z
  exact z
theorem pe_erK (T : ErC X.K C fI fld) (F1 : FnOk X.prog X.w X.K X.mg X.base CX k fI fd ps sp) (hr : Room (k + 1) X.A) (hb : ∀ (s : Shared) (x : Value) (ws : List Value), X.K.In s.heap → (x :: ws).length = ps.length → BindsTo s fd ⟨[x], ks.zip ws⟩ (ps.zip (x :: ws)))
    (hx : Passes CX X E0) (hg : Gl X x) (hm : X.mg x = some (.ref C)) (hk : PK X kws t) (hall : (backToKw pos (keywordEach kws X.env)).all (·.1.isSome) = true := by rfl) (hks : (backToKw pos (keywordEach kws X.env)).filterMap (·.1) = ks := by rfl)
    (hdb : (x == ("__debug__" : Str)) = false := by decide) (hpl : ((backTo pos (starEach [] X.env)).any (·.1) || (backToKw pos (keywordEach kws X.env)).any (·.1.isNone)) = false := by rfl) :
    PE X (.Call (.Name x p) [] kws pos) (tEr C sp t) := by
  refine ⟨fun pins s σ H Q I h => wpAny_Call_Name_kw (ld_glob I hg hm ?_ hdb)⟩
  refine PySem.W.callWith_KW0 (h₀ := X.base) I.ok.mod.kin T.ox.kC hall ?_ hpl
  refine thn (hk.run pos pins s σ H _ I h) fun ws s1 hh => ?_
  obtain ⟨vs, H1, I1, r, hz, q⟩ := hh
  have hn : H1 s1.heap.objs.size = none := I1.hok.fresh (Nat.le_refl _)
  have l2 := F1.len _ _ _ _ (q _ hn)
  rw [hks]
  refine ⟨I1.kIn, run_er (us := []) T.ox T.iC T.tI F1 hr (by decide) (fun s x X => ?_) hx I1 r q⟩
  exact hb s x ws X (by rw [List.length_cons, ← r.length]; exact l2)
theorem pe_erD (T : ErC X.K C fI fld) (F1 : FnOk X.prog X.w X.K X.mg X.base CX k fI fd ps sp) (hr : Room (k + 1) X.A) (hb : ∀ (s : Shared) (x : Value), X.K.In s.heap → BindsTo s fd ⟨[x], []⟩ (ps.zip [x, .none]))
    (hx : Passes CX X E0) (hg : Gl X x) (hm : X.mg x = some (.ref C)) (hdb : (x == ("__debug__" : Str)) = false := by decide) : PE X (.Call (.Name x p) [] [] pos) (tErD C sp) := by
  refine ⟨fun pins s σ H Q I h => wpAny_Call_Name_kw (ld_glob I hg hm ?_ hdb)⟩
  exact PySem.W.callWith_K0 I.kIn T.ox.kC (run_er (us := []) (ws := [.none]) (vs := [.non]) T.ox T.iC T.tI F1 hr (by decide) (fun s x X => hb s x X) hx I (.cons rfl .nil) h)
theorem pe_er0 {bmB : List Value} {B newId initId : String} (F : ExcBaseFacts B newId initId bmB) (q : PySem.W.excIn X.K C bmB newId = true) (kC : PySem.W.keepIn X.K (.ref C) = true) (hg : Gl X x) (hm : X.mg x = some (.ref C))
    (hdb : (x == ("__debug__" : Str)) = false := by decide) : PE X (.Call (.Name x p) [] [] pos) (fun σ H Q => ∀ a, H a = none → Q (.ref a) (upd H a (exo a C none))) := by
  refine ⟨fun pins s σ H Q I h => wpAny_Call_Name_kw (ld_glob I hg hm ?_ hdb)⟩
  exact PySem.W.callWith_K0 I.kIn kC (run_er0 (us := []) F q (by decide) I h)

/-! ### the field -/
/-- e.f of such an error -/
def tErF (K : PySem.W.Frag) (f : Str) (te : TE) : TE := fun σ H Q => te σ H fun x H1 => ∃ (a C d : Addr) (fs : List (Str × V)) (v : V), x = .ref a ∧ H1 a = some (exo a C (some d)) ∧ H1 d = some (exd d fs) ∧ fs.lookup f = some v ∧
  ExcC K C ∧ PySem.W.findIn K (.ref C) f = some none ∧ Q v H1
theorem pe_erF {te : TE} {f : Str} (he : PE X e te) (hb : attributeBase e f X.env (eval e X.env) = eval e X.env := by rfl) : PE X (.Attribute e f pos) (tErF X.K f te) := by
  refine ⟨fun pins s σ H Q I h => attr_of hb (thn (he.run pins s σ H _ I h) fun u s1 hh => ?_)⟩
  obtain ⟨x, H1, I1, rx, a, C, d, fs, v, ex, ea, ed, l, T, no, q⟩ := hh
  subst ex
  obtain rfl : u = Value.ref a := rx
  obtain ⟨t1, ho⟩ := exo_at I1.hok ea
  obtain ⟨mA, hns, hr⟩ := exd_at I1.hok ed
  obtain ⟨od, hod, hl⟩ := lookIn_ns hns
  obtain ⟨u, hu, ru⟩ := RelO.some_of (v := v) (o := mA f) (by rw [← l]; exact hr f)
  have J : PySem.W.InstAt s1.heap a _ C (some od) := ⟨ho, rfl, rfl, hod⟩
  exact HandSPX.exc_get I1.kIn J T.hg T.hk T.hs (PySem.W.findObj_own T.hd no rfl (by rw [hl, hu])) (handed_of ru) ⟨v, H1, I1.tok _, ru, q⟩
end
end L2.Vf

/-! # 4: isinstance of errors held as values; a class's __init__ that stores its one parameter -/
namespace PySem.VfK
open PySem PySem.Spec PySem.Calls PyProof.Rows PySem.W
section
variable {prog : Program} {w : World} {A : Around} {E : Value → Shared → Prop} {s : Shared} {K : Frag} {x D : Addr} {ox : Obj} {od : Option Obj}
theorem data_any {C : Addr} {name : Str} {a g : Value} (hc : (clsIn K C).isSome = true) (ha : findIn K (.ref C) name = some (some a)) (hg : specialIn K a "__get__" = some (some g)) (ht : takesIn K a = some true) : findObj K C od name = some (.bind g a) := by
  unfold findObj; obtain ⟨cd, hc⟩ := Option.isSome_iff_exists.mp hc
  rw [hc, Option.bind_some, ha, Option.bind_some]; simp [hg, ht]
theorem cls_any {Q : Option Value → Shared → Prop} (T : L2.ExcC K D) (X : K.In s.heap) (I : InstAt s.heap x ox D od) (h : Q (some (.ref D)) { s with toks := s.toks + 1 }) : wpAny (model prog w) A (getAttr? (.ref x) "__class__") Q E s := by
  have hf : findObj K D od "__class__" = some (.bind (.builtin "getset_descriptor.__get__") (.builtin "object.__class__")) := data_any (by obtain ⟨cd, hc, _⟩ := any_some T.hd; rw [hc]; rfl) T.ha T.hn T.ht
  obtain ⟨hp, g, d, t, os⟩ := s
  have L0 := I.type (M := model prog w); have L1 := looks_findIn (M := model prog w) X T.hg; have L2 := looks_findIn (M := model prog w) X T.hk; have L3 := looks_find (M := model prog w) X I hf
  have sub : Looks (model prog w) hp (isInstance (.ref x) (.type "BaseException")) true := L0.andThen (looks_subIn X T.hs)
  have hx0 : (false && onTheHeap (Value.builtin "BaseException.__getattribute__")) = false ∧ (Value.builtin "BaseException.__getattribute__" == Value.builtin "object.__getattribute__") = false := ⟨rfl, by decide +kernel⟩
  have hx1 : (onTheHeap (Value.ref D) && Value.builtin "BaseException.__getattribute__" == Value.builtin "object.__getattribute__") = false := by rw [hx0.2]; rfl
  unfold getAttr? getAttrBy? getAttrBy; refine wpAny_bind (wpAny_mkText (wpAny_bind (wpAny_attempt (wpAny_holding (wpAny_bind (L0.at (wpAny_bind (L1.at ?_))))))))
  show wpAny _ _ (if (onTheHeap (Value.ref D) && Value.builtin "BaseException.__getattribute__" == Value.builtin "object.__getattribute__") = true then _ else _) _ _ _; rw [hx1, if_neg Bool.false_ne_true]
  unfold getAttrByItsOwn hookBefore; refine wpAny_bind ?_; rw [if_pos (show onTheHeap (Value.ref D) = true from rfl)]; refine L2.at ?_
  refine wpAny_bind (wpAny_attempt (wpAny_holding ?_)); unfold callGetattribute; rw [hx0.1, if_neg Bool.false_ne_true]; unfold boundAndCalled
  rw [PySem.F.excAttr_ValueError.ga.bind (.ref x)]; refine wpAny_bind (wpAny_pure ?_)
  show wpAny _ _ (call (.builtin "BaseException.__getattribute__") [.ref x, .str "__class__" t]) _ _ _; refine wpAny_call (codeAny_call_builtin PySem.F.excAttr_ValueError.ga.plain PySem.F.entry_bexc_ga ?_)
  refine @check_slot (model prog w) _ _ ⟨hp, g, d, t + 1, os⟩ "BaseException.__getattribute__" "BaseException" "__getattribute__" (.ref x) [.str "__class__" t] [] _ (by decide +kernel) (by decide +kernel) sub (PySem.F.args_bexc_ga (.ref x) (.str "__class__" t)) ?_ ; unfold Builtin.«object.__getattribute__»
  refine wpAny_bind (wpAny_of_eq (a := ((Value.ref x : Value), [Value.str "__class__" t])) (by first | rfl | (simp only [slotArgs]; rfl)) ?_); refine wpAny_bind (wpAny_pure (wpAny_bind (L0.at (wpAny_bind (L3.at ?_)))))
  show wpAny _ _ (holding [Value.builtin "object.__class__"] (call (.builtin "getset_descriptor.__get__") [.builtin "object.__class__", .ref x, .ref D]) >>= ret) _ _ _
  refine wpAny_bind (wpAny_holding (wpAny_call (class_get (s := ⟨hp, g, d, t + 1, os⟩) (ox := ox) (od := od) X I T.hm ?_))); refine wpAny_pure ?_
  show wpAny _ _ (handedOut (.ref D)) _ _ _; rw [handedOut_of (v := .ref D) rfl]
  first | exact wpAny_pure (wpAny_pure h) | exact wpAny_pure h | exact wpAny_pure (wpAny_bind (wpAny_pure (wpAny_pure h)))
theorem kit_any (T : L2.ExcC K D) : KitX K (.ref x) (.ref D) (fun h => InstAt h x ox D od) where
  ty := fun _ _ _ I => I.type
  it := fun _ _ X _ => by
    obtain ⟨c, hc, _⟩ := any_some T.hd; unfold clsIn at hc; split at hc
    · rename_i c' d' cd' sl' ho
      intro A' Q' E' s' k q; unfold isType loadHead; exact wpAny_bind (wpAny_loadPart (k _ _ (X _ _ ho)) (wpAny_pure q))
    · cases hc
  ne := fun h tp dd its n sl X htp => by
    obtain ⟨c, hc, _⟩ := any_some T.hd
    refine Bool.eq_false_iff.mpr fun q => ?_; have e : D = tp := Value.ref.inj (beq_iff_eq.mp q); subst e; unfold clsIn at hc; split at hc
    · rename_i c' d' cd' sl' ho
      have z := (X _ _ ho).symm.trans htp; cases z
    · cases hc
  ca := fun X I k => cls_any T X I k
end
end PySem.VfK

namespace L2.Vf
open PySem PySem.Spec PyProof.Rows
/-- isinstance(e, c), e such an error -/
def rIsX (K : PySem.W.Frag) : List V → Hp → VK → Prop := fun xs H Q => ∃ (a C : Addr) (d : Option Addr) (c : V) (cv : Value) (b : Bool), xs = [.ref a, c] ∧ H a = some (exo a C d) ∧ (∀ d0, d = some d0 → ∃ fs, H d0 = some (exd d0 fs)) ∧ ExcC K C ∧ ClsV c cv ∧
  PySem.W.kitOne K (.ref C) cv = some b ∧ Q (.bl b) H
section
variable {X : Cx} {f : Addr}
theorem call_isiX : CallR X (.builtin "isinstance") (fun xs H Q => rIsi X.K xs H Q ∨ rIsX X.K xs H Q) := by
  intro pins s σ H xs us Q I r h
  rcases h with h | ⟨a, C, d, c, cv, b, rfl, ha, hd, T, hc, e, q⟩
  · exact call_isi pins s σ H xs us Q I r h
  · obtain ⟨u1, u2, rfl, r1, r2⟩ := vals2 r
    obtain rfl : u1 = Value.ref a := r1
    have e2 := hc.eq r2
    subst e2
    obtain ⟨t1, ho⟩ := exo_at I.hok ha
    have J : ∃ od, PySem.W.InstAt s.heap a { cls := .ref C, dict := d, data := .fields #[.ref t1, .none, .none, .none, .bool false, .none] } C od := by
      cases d with
      | none => exact ⟨none, ho, rfl, rfl, trivial⟩
      | some d0 =>
        obtain ⟨fs, hq⟩ := hd d0 rfl
        obtain ⟨mA, ⟨o, es, ep, e1, _⟩, _⟩ := exd_at I.hok hq
        exact ⟨some o, ho, rfl, rfl, e1⟩
    obtain ⟨od, J⟩ := J
    exact PySem.W.kia_one (PySem.VfK.kit_any T) I.kIn J e (fun z => nomatch z) fun tk => ⟨.bl b, H, I.kept (t' := tk) fun _ _ z => z, rfl, q⟩

/-! ### def __init__(self, f=None): self.f = f -/
def iArgs (f : Str) (p1 p2 p3 : Pos) : Arguments := { posonlyargs := [], args := [⟨"self", none, p1⟩, ⟨f, none, p2⟩], vararg := none, kwonlyargs := [], kw_defaults := [], kwarg := none, defaults := [.Constant .none 0 p3] }
def iBody (f : Str) (p1 p2 p3 p4 : Pos) : List Stmt := [.Assign [.Attribute (.Name "self" p1) f p2] (.Name f p3) p4]
def iScope (f : Str) : Scope := ⟨.function, [("self", .local), (f, .local)], false, false, []⟩
/-- the new error keeps what it was given -/
def spInit (K : PySem.W.Frag) (fld : Str) : Sp := fun vs H Q _ => ∃ (a C : Addr) (v : V), vs = [.ref a, v] ∧ OexC K C ∧ PySem.W.findIn K (.ref C) fld = some none ∧ H a = some (exo a C none) ∧
  ∀ dx, H dx = none → dx ≠ a → Q .non (upd (upd H dx (exd dx [(fld, v)])) a (exo a C (some dx)))
end
section
variable {P : Program} {w : World} {K : PySem.W.Frag} {mg : Str → Option Value} {base : Heap} {f : Addr} {fd : FuncData} {qual : Str} {p1 p2 p3 p4 p5 p6 p7 : Pos}
theorem ok_initV (F : FunD K "__init__" qual (iArgs "value" p1 p2 p3) (iBody "value" p4 p5 p6 p7) (iScope "value") [.non] [] f fd) : FnOk P w K mg base CX0 1 f fd ["self", "value"] (spInit K "value") := by
  have sc : FnScope ["self", "value"] ["self", "value"] (iScope "value") := ⟨rfl, rfl, rfl, by decide +kernel, rfl, by decide +kernel, by decide +kernel⟩
  refine F.ok sc (fun vs H Q E h => ?_) fun cdv A outer s H vs Q E hr h => ?_
  · obtain ⟨a, C, v, rfl, _⟩ := h; rfl
  · obtain ⟨a, C, v, rfl, T, no, ea, q⟩ := h
    refine ⟨_, (pss_one (ps_ost (pv 0) (pv 1))).nox, ?_⟩
    exact ⟨v, rfl, _, rfl, a, C, rfl, T, no, .inl ⟨ea, fun dx n ne => q dx n ne⟩⟩
theorem ok_initN (F : FunD K "__init__" qual (iArgs "name" p1 p2 p3) (iBody "name" p4 p5 p6 p7) (iScope "name") [.non] [] f fd) : FnOk P w K mg base CX0 1 f fd ["self", "name"] (spInit K "name") := by
  have sc : FnScope ["self", "name"] ["self", "name"] (iScope "name") := ⟨rfl, rfl, rfl, by decide +kernel, rfl, by decide +kernel, by decide +kernel⟩
  refine F.ok sc (fun vs H Q E h => ?_) fun cdv A outer s H vs Q E hr h => ?_
  · obtain ⟨a, C, v, rfl, _⟩ := h; rfl
  · obtain ⟨a, C, v, rfl, T, no, ea, q⟩ := h
    refine ⟨_, (pss_one (ps_ost (pv 0) (pv 1))).nox, ?_⟩
    exact ⟨v, rfl, _, rfl, a, C, rfl, T, no, .inl ⟨ea, fun dx n ne => q dx n ne⟩⟩
/-- how its arguments bind -/
theorem init_look {fld : Str} (F : FunD K "__init__" qual (iArgs fld p1 p2 p3) (iBody fld p4 p5 p6 p7) (iScope fld) [.non] [] f fd) {s : Shared} {x y : Value} {us : List Value} {kw : List (Str × Value)} (X : K.In s.heap)
    (h : ∀ (T : Addr) (kV doc pm : Value) (an : Option Addr) (cdv ct : Value), ∃ k, bindArgs (PySem.W.fnOf "__init__" qual (iArgs fld p1 p2 p3) (iBody fld p4 p5 p6 p7) (iScope fld) (.ref T) kV doc pm an cdv ct) ⟨us, kw⟩ = seqItems? (.ref T) >>= k ∧
      k (some #[.none]) = pure ((["self", fld] : List Str).zip [x, y])) : BindsTo s fd ⟨us, kw⟩ ((["self", fld] : List Str).zip [x, y]) := by
  obtain ⟨oc, od, dV, kV, doc, pm, an, cdv, ct, osl, rfl, lk, hcd, hD, hK⟩ := F.ex
  rcases hD with ⟨e, _⟩ | ⟨_, T, o, its, m, rfl, lT, oT, rT⟩
  · cases e
  · cases rT with
    | cons r1 r2 =>
      cases r2
      cases r1
      obtain ⟨k, e1, e2⟩ := h T kV doc pm an cdv ct
      refine BindsTo.of_looks fun M => ?_
      rw [e1]
      exact looks_items X lT oT (.of_pure e2)
theorem init_b1 {fld : Str} (F : FunD K "__init__" qual (iArgs fld p1 p2 p3) (iBody fld p4 p5 p6 p7) (iScope fld) [.non] [] f fd) (hf : fld = "value" ∨ fld = "name") : Binds K fd ["self", fld] [] := by
  intro s us X hl
  rw [List.append_nil] at hl ⊢
  match us, hl with
  | [a, b], _ => exact init_look F X fun T kV doc pm an cdv ct => by rcases hf with rfl | rfl <;> exact ⟨_, rfl, rfl⟩
theorem init_bK {fld : Str} (F : FunD K "__init__" qual (iArgs fld p1 p2 p3) (iBody fld p4 p5 p6 p7) (iScope fld) [.non] [] f fd) (hf : fld = "value" ∨ fld = "name") (s : Shared) (x : Value) (ws : List Value) (X : K.In s.heap)
    (hl : (x :: ws).length = (["self", fld] : List Str).length) : BindsTo s fd ⟨[x], ([fld] : List Str).zip ws⟩ ((["self", fld] : List Str).zip (x :: ws)) := by
  match ws, hl with
  | [b], _ => exact init_look F X fun T kV doc pm an cdv ct => by rcases hf with rfl | rfl <;> exact ⟨_, rfl, rfl⟩
theorem init_bD {fld : Str} (F : FunD K "__init__" qual (iArgs fld p1 p2 p3) (iBody fld p4 p5 p6 p7) (iScope fld) [.non] [] f fd) (hf : fld = "value" ∨ fld = "name") (s : Shared) (x : Value) (X : K.In s.heap) : BindsTo s fd ⟨[x], []⟩ ((["self", fld] : List Str).zip [x, .none]) :=
  init_look F X fun T kV doc pm an cdv ct => by rcases hf with rfl | rfl <;> exact ⟨_, rfl, rfl⟩
end
end L2.Vf

/-! # 5: defs that are called where no repr runs around them, and what is known of that in their bodies -/
namespace L2.Vf
open PySem PySem.Spec PyProof.Rows
theorem guards_make (A : Around) (C : Addr) (us : List Value) (kw : List (Str × Value)) (h : A.guards = some []) : (A.under (.builtin "type.__call__" ⟨.ref C :: us, kw⟩)).guards = some [] := by
  simp [Around.under, Code.guards, Code.isGuard, pushGuards, h]
  rw [if_neg (by decide)]
/-- what FnOk says, where no guarded builtin runs -/
structure FnG (P : Program) (w : World) (K : PySem.W.Frag) (mg : Str → Option Value) (base : Heap) (CX : CXT) (k : Nat) (f : Addr) (fd : FuncData) (ps : List Str) (sp : Sp) : Prop where
  len : ∀ vs H Q E, sp vs H Q E → vs.length = ps.length
  go : ∀ (A : Around) (outer : List Env) (s : Shared) (H : Hp) (args : Args) (us : List Value) (vs : List V) (Q : VK) (E : XK), A.guards = some [] → Room k A → Env0 P w K mg base A outer s H → BindsTo s fd args (ps.zip us) → Vals vs us →
    sp vs H Q E → codeAny (model P w) A (.call (.ref f) args) (CR CX outer P w H s Q E) s
section
variable {P : Program} {w : World} {K : PySem.W.Frag} {mg : Str → Option Value} {base : Heap} {CX : CXT} {k : Nat} {f : Addr} {fd : FuncData} {ps N : List Str} {sp : Sp}
theorem FnG.of (F : FnOk P w K mg base CX k f fd ps sp) : FnG P w K mg base CX k f fd ps sp :=
  ⟨F.len, fun A outer s H args us vs Q E _ hr he hb hv hs => F.run A outer s H args us vs Q E hr he hb hv hs⟩
/-- a def of the text, its body walked -/
theorem FnG.mk' {name qual : Str} {params : Arguments} {body : List Stmt} {scope : Scope} {dV kV doc pm cdv ct oc : Value} {an od : Option Addr} {osl : Array (Option Value)}
    (lk : K.lookup f = some ⟨oc, od, .func (PySem.W.fnOf name qual params body scope dV kV doc pm an cdv ct), osl⟩) (hcd : PySem.W.codeIn K cdv qual = true) (S : FnScope N ps scope) (len : ∀ vs H Q E, sp vs H Q E → vs.length = ps.length)
    (hbody : ∀ (A : Around) (outer : List Env) (s : Shared) (H : Hp) (vs : List V) (Q : VK) (E : XK), (A.deeper (envOfC qual scope s.heap.objs.size f cdv)).guards = some [] → Room k (A.deeper (envOfC qual scope s.heap.objs.size f cdv)) → sp vs H Q E →
      ∃ t, PSs (cxOf CX P w K mg base N qual scope f cdv A outer s H E) body t ∧ t { nx := fun _ H' => Q .non H', rt := Q } (start N vs) H) :
    FnG P w K mg base CX (k + 1) f (PySem.W.fnOf name qual params body scope dV kV doc pm an cdv ct) ps sp := by
  refine ⟨len, fun A outer s H args us vs Q E hg hr e0 hb r hsp => ?_⟩
  have hl := len _ _ _ _ hsp
  have KX : K.In s.heap := e0.mod.kin.keeps fun b o e => by exact (e0.bs b o e).1
  have lim : s.heap.NoLimit := e0.mod.nolimit.keeps fun b o e => by exact (e0.bs b o e).1
  have hkind : ∀ y ∈ ps.zip us, scope.names.lookup y.1 = some .local ∨ (scope.names.lookup y.1 = some .cell ∧ ((cellsFrom (s.heap.objs.size + 1) scope.names []).lookup y.1).isSome = true) := fun y hy => by
    obtain ⟨n, v⟩ := y
    rcases S.par n (List.of_mem_zip hy).1 with q | q
    · exact Or.inl q
    · exact Or.inr ⟨q, PySem.W.cellsFrom_some _ _ _ (.inl q)⟩
  refine codeAny_call_function hr.depth (KX _ _ lk) rfl S.co S.gen rfl (PySem.W.codeRec_of KX hcd) (hb _ _ _ _ (wpAny_newFunctionEnv_cells S.kind hkind fun env he s1 x => ?_))
  subst he
  refine ⟨lim.keeps x.toInCall.keep, codeAny_func ?_⟩
  obtain ⟨t, ht, hq⟩ := hbody A outer s H vs Q E hg (hr.deeper _) hsp
  have I : Inv (cxOf CX P w K mg base N qual scope f cdv A outer s H E) [] (start N vs) H s1 := by exact inv_start S hr.hd e0 hl r x
  refine wpAny_mono (ht.run [] s1 (start N vs) H _ I hq) (fun fl s' hs => ?_) fun e s' hs => by exact hs
  cases fl with
  | ret u =>
    obtain ⟨v, σ', H', J, rv, q⟩ := hs
    exact ⟨v, H', J.os, J.bare, J.base, J.hok, rv, q⟩
  | next =>
    obtain ⟨σ', H', J, q⟩ := hs
    exact ⟨.non, H', J.os, J.bare, J.base, J.hok, rfl, q⟩
  | brk => obtain ⟨_, _, _, q⟩ := hs; exact q.elim
  | cont => obtain ⟨_, _, _, q⟩ := hs; exact q.elim
/-- from which no error leaves -/
theorem okG {x qual : Str} {st : Stmt} (F : Fun K x qual st f fd) (S : FnScope N ps (defScope st)) (len : ∀ vs H Q E, sp vs H Q E → vs.length = ps.length)
    (hbody : ∀ (cdv : Value) (A : Around) (outer : List Env) (s : Shared) (H : Hp) (vs : List V) (Q : VK) (E : XK), (A.deeper (envOfC qual (defScope st) s.heap.objs.size f cdv)).guards = some [] → Room k (A.deeper (envOfC qual (defScope st) s.heap.objs.size f cdv)) →
      sp vs H Q E → ∃ t, PSs (cxOf CX0 P w K mg base N qual (defScope st) f cdv A outer s H E).nox (defBody st) t ∧ t { nx := fun _ H' => Q .non H', rt := Q } (start N vs) H) : FnG P w K mg base CX0 (k + 1) f fd ps sp := by
  obtain ⟨oc, od, kV, doc, pm, an, cdv, ct, osl, rfl, lk, hcd⟩ := F.ex
  refine FnG.mk' lk hcd S len fun A outer s H vs Q E hg hr hsp => ?_
  obtain ⟨t, h, q⟩ := hbody cdv A outer s H vs Q E hg hr hsp
  exact ⟨t, h.nox, q⟩
end
section
variable {X : Cx} {CX : CXT} {k : Nat} {f : Addr} {fd : FuncData} {ps : List Str} {sp : Sp} {dvs : List V} {ds : List Value} {E : XK} {x : Str} {p pos : Pos} {e : Expr} {es : List Expr} {t : TA}
theorem runG {pins : List (Addr × Obj)} {σ : St} {H : Hp} {s : Shared} {Q : VK} {us : List Value} {vs : List V} (F : FnG X.prog X.w X.K X.mg X.base CX k f fd ps sp) (hg : X.A.guards = some []) (hr : Room k X.A) (hb : Binds X.K fd ps ds) (hd : Vals dvs ds)
    (hx : Passes CX X E) (I : Inv X pins σ H s) (r : Vals vs us) (h : sp (vs ++ dvs) H Q E) : wpAny (model X.prog X.w) X.A (call (.ref f) us) (EP X pins σ Q) X.xe s := by
  have r2 : Vals (vs ++ dvs) (us ++ ds) := r.append hd
  have hl : (us ++ ds).length = ps.length := by rw [← r2.length]; exact F.len _ _ _ _ h
  refine wpAny_call (codeAny_mono (F.go X.A X.stack s H ⟨us, []⟩ (us ++ ds) (vs ++ dvs) Q E hg hr I.env0 (hb s us I.kIn hl) r2 h) fun r s' hq => ?_)
  cases r with
  | error e => exact hx pins σ H s e s' I hq
  | ok fl =>
    cases fl with
    | ret u => exact I.after hq
    | next => exact hq.elim
    | brk => exact hq.elim
    | cont => exact hq.elim
theorem pe_callG (F : FnG X.prog X.w X.K X.mg X.base CX k f fd ps sp) (hG : X.A.guards = some []) (hr : Room k X.A) (hg : Gl X x) (hm : X.mg x = some (.ref f)) (hk : PySem.W.keepIn X.K (.ref f) = true) (hb : Binds X.K fd ps ds) (hd : Vals dvs ds)
    (hx : Passes CX X E) (ha : PA X (e :: es) t) (hdb : (x == ("__debug__" : Str)) = false := by decide) (he : starEach (e :: es) X.env = (false, eval e X.env) :: starEach es X.env := by rfl)
    (hpl : (backTo pos (starEach es X.env)).any (·.1) = false := by rfl) : PE X (.Call (.Name x p) (e :: es) [] pos) (tCall sp dvs E t) := by
  refine ⟨fun pins s σ H Q I h => wpAny_Call_Name_kw (ld_glob I hg hm ?_ hdb)⟩
  refine PySem.W.callWith_K (h₀ := X.base) I.ok.mod.kin hk (thn (ha.run pos pins s σ H _ I h) fun us s1 hh => ?_) he hpl
  obtain ⟨vs, H1, I1, r, q⟩ := hh
  exact ⟨I1.kIn, runG F hG hr hb hd hx I1 r q⟩
end

/-! ### the end of a law -/
/-- the call's heap without what is tracked, and the facts of the module over it -/
theorem lawG_at {P : Program} {w : World} {K : PySem.W.Frag} {mg mb : Str → Option Value} {k : Nat} {fa a : Addr} {fd : FuncData} {x : Str} {sp : Sp} {s₁ : Shared} {vs : List Value} {H : Hp}
    (KX : K.In s₁.heap) (hns : s₁.heap.Ns mainGlobals mg) (hb : s₁.heap.Ns builtinsNs mb) (hbb : ∀ x : Str, x ≠ "__name__" → mb x = bootBuiltins x) (hlim : s₁.heap.NoLimit) (hg : s₁.gens = #[])
    (ha : s₁.heap.get? a = some { cls := .type "list", data := .seq vs.toArray }) (hr : Room k callerA)
    (F : ∀ base : Heap, K.In base → base.Ns mainGlobals mg → FnG P w K mg base CX0 k fa fd [x] sp) (hbind : ∀ (s : Shared) (u : Value), BindsTo s fd ⟨[u], []⟩ [(x, u)])
    (hO : Only H) (hsp : sp [.ref a] H (fun v _ => v = .bl true) fun _ _ _ => False) (hok : HOk P w H s₁.heap) (hA : ∀ b, H b ≠ none → b = a) (hK : H a ≠ none → K.lookup a = none) :
    codeAny (model P w) callerA (.call (.ref fa) ⟨[.ref a], []⟩) (fun r s' => r = .ok (.ret (.bool true)) ∧ OldK s₁.heap s'.heap ∧ s'.os = s₁.os ∧ AllBare s'.gens) s₁ := by
  have noD : ∀ {b : Addr} {o : Obj} {es : Array DictEntry} {ep : Nat}, s₁.heap.get? b = some o → o.data = .dict es ep → H b = none := fun {b o es ep} e d => by
    cases q : H b with
    | none => rfl
    | some u =>
      have e' := hA b (by rw [q]; simp)
      subst e'
      rw [ha] at e
      cases e
      cases (show Data.seq vs.toArray _ = Data.dict es ep from d)
  have nsK : ∀ {b : Addr} {m : Str → Option Value}, s₁.heap.Ns b m → (hidT s₁.heap H).Ns b m := fun {b m} z => by
    obtain ⟨o, es, ep, e, d, r⟩ := z
    exact ⟨o, es, ep, hidT_get e (noD e d), d, r⟩
  have hKb : K.In (hidT s₁.heap H) := fun b o e => hidT_get (KX b o e) (by
    cases q : H b with
    | none => rfl
    | some u =>
      have e' := hA b (by rw [q]; simp)
      subst e'
      rw [hK (by rw [q]; simp)] at e
      cases e)
  have hM : Mod K mg (hidT s₁.heap H) := by
    obtain ⟨mc, h1, h2⟩ := hlim
    exact ⟨hKb, nsK hns, ⟨mb, nsK hb, hbb⟩, mc, nsK h1, h2⟩
  have e0 : Env0 P w K mg (hidT s₁.heap H) callerA [] s₁ H := by
    exact ⟨rfl, hM, fun b o e => of_hidT e, Nat.le_of_eq (hidT_size _ _), trivial, fun b hb => absurd (show b ∈ ([] : List Addr) from hb) (by simp), hok, .of_eq hg⟩
  refine codeAny_mono ((F _ hKb (nsK hns)).go callerA [] s₁ H ⟨[.ref a], []⟩ [.ref a] [.ref a] _ _ rfl hr e0 (hbind s₁ (.ref a)) (.cons rfl .nil) hsp) fun r s' h => ?_
  cases r with
  | error e => exact False.elim h
  | ok fl =>
    cases fl with
    | next => exact h.elim
    | brk => exact h.elim
    | cont => exact h.elim
    | ret u =>
      obtain ⟨v, H', os, bare, un, hok', r', q⟩ := h
      subst q
      obtain rfl : u = Value.bool true := r'
      refine ⟨rfl, OldK.of_keep fun b o e => ?_, os, bare⟩
      cases q : H b with
      | none => exact un.keep b o e q (by intro z; exact absurd (show b ∈ ([] : List Addr) from z) (by simp)) (by simp)
      | some u =>
        rcases hO b with z | ⟨ob, xs, z⟩
        · rw [q] at z
          cases z
        · obtain ⟨e1, _⟩ := hok b _ z
          obtain ⟨e2, _⟩ := hok' b _ (un.frzs b ob _ z)
          rw [e] at e1
          cases e1
          exact e2
theorem lawG {P : Program} {w : World} {K : PySem.W.Frag} {mg mb : Str → Option Value} {k : Nat} {fa a : Addr} {fd : FuncData} {x : Str} {sp : Sp} {s₁ : Shared} {vs : List Value} {ns : List Int}
    (KX : K.In s₁.heap) (hns : s₁.heap.Ns mainGlobals mg) (hb : s₁.heap.Ns builtinsNs mb) (hbb : ∀ x : Str, x ≠ "__name__" → mb x = bootBuiltins x) (hlim : s₁.heap.NoLimit) (hg : s₁.gens = #[])
    (ha : s₁.heap.get? a = some { cls := .type "list", data := .seq vs.toArray }) (hi : IntsAre vs ns) (hl : ns.length ≤ sizeLine) (hr : Room k callerA)
    (F : ∀ base : Heap, K.In base → base.Ns mainGlobals mg → FnG P w K mg base CX0 k fa fd [x] sp) (hbind : ∀ (s : Shared) (u : Value), BindsTo s fd ⟨[u], []⟩ [(x, u)])
    (hsp : ∀ H : Hp, Only H → SqL K H a (ns.map V.int) → sp [.ref a] H (fun v _ => v = .bl true) fun _ _ _ => False) :
    codeAny (model P w) callerA (.call (.ref fa) ⟨[.ref a], []⟩) (fun r s' => r = .ok (.ret (.bool true)) ∧ OldK s₁.heap s'.heap ∧ s'.os = s₁.os ∧ AllBare s'.gens) s₁ := by
  have rv := vals_ints hi
  have lenV := hi.length
  cases hk : K.lookup a with
  | some o =>
    have e := KX a o hk
    rw [ha] at e
    cases e
    have hO : Only (fun _ => none) := fun _ => .inl rfl
    refine lawG_at KX hns hb hbb hlim hg ha hr F hbind hO (hsp _ hO (.inr ⟨_, vs.toArray, _, hk, rfl, rfl, rfl, by rw [List.size_toArray, lenV]; exact hl, by simpa using rv⟩)) (fun b u z => by cases (show (none : Option HO) = some u from z)) (fun b z => absurd rfl z) fun z => absurd rfl z
  | none =>
    let o : Obj := { cls := .type "list", data := .seq vs.toArray }
    have at_ : ∀ {b : Addr}, b = a → (if b = a then some (HO.frz o (.lst (ns.map V.int))) else none) = some (HO.frz o (.lst (ns.map V.int))) := fun h => if_pos h
    have off : ∀ {b : Addr}, b ≠ a → (if b = a then some (HO.frz o (.lst (ns.map V.int))) else none) = none := fun h => if_neg h
    have hO : Only (fun b => if b = a then some (.frz o (.lst (ns.map V.int))) else none) := fun b => by
      by_cases hb : b = a
      · exact .inr ⟨_, _, at_ hb⟩
      · exact .inl (off hb)
    refine lawG_at KX hns hb hbb hlim hg ha hr F hbind hO (hsp _ hO (.inl (.inr ⟨o, at_ rfl⟩))) (fun b u z => ?_) (fun b z => ?_) fun _ => hk
    · by_cases hb : b = a
      · cases (at_ hb).symm.trans z
        subst hb
        exact ⟨ha, by rw [List.length_map]; exact hl, vs, _, rv, ha⟩
      · cases (off hb).symm.trans z
    · by_cases hb : b = a
      · exact hb
      · exact absurd (off hb) z
/-- the goal that the head leaves -/
theorem walkG {l : PySem.W.OpenLaw} {n k : Nat} {q : Program} {loose : List Str} {XP : (Str → Option Value) → Heap → Prop} {YP : World → Heap → Prop} {d : DefRec} {K : Params → PySem.W.Frag} {sp : PySem.W.Frag → Sp} {x : Str}
    (hn : l.most = some n) (hn2 : n ≤ sizeLine) (hdf : d.params.defaults = []) (hr : Room k callerA) (hY : ∀ (w : World) (h : Heap), YP w h → (K w.params).In h)
    (F : ∀ (w : World) (mg : Str → Option Value) (fa : Addr) (h : Heap), (K w.params).In h → h.Ns mainGlobals mg → mg d.name = some (.ref fa) → ∃ fd : FuncData, (∀ (s : Shared) (u : Value), BindsTo s fd ⟨[u], []⟩ [(x, u)]) ∧
      ∀ base : Heap, (K w.params).In base → base.Ns mainGlobals mg → FnG l.prog w (K w.params) mg base CX0 k fa fd [x] (sp (K w.params)))
    (hsp : ∀ (K : PySem.W.Frag) (H : Hp) (a : Addr) (ns : List Int), ns.length ≤ n → Only H → SqL K H a (ns.map V.int) → sp K [.ref a] H (fun v _ => v = .bl true) fun _ _ _ => False) :
    PySem.W.WalkO q loose XP YP l.row.toRowW d [] (fun f vs => PySem.call f vs) := by
  refine Att.attach_call hn hdf fun w s₀ s₁ mg mb fa o pm cd doc a vs ns G Y ho hd hcd hmg hobj hints hlen hg => ?_
  obtain ⟨fd, hb, hF⟩ := F w mg fa _ (hY w _ Y) G.T.g hmg
  exact lawG (hY w _ Y) G.T.g G.T.b G.T.builtins G.T.nolimit hg hobj hints (Nat.le_trans hlen hn2) hr hF hb fun H hO hS => hsp _ H a ns hlen hO hS
end L2.Vf

/-! # 6: new lists that are not the table of modules -/
namespace L2.Vf
open PySem PySem.Spec PyProof.Rows
section
variable {X : Cx} {e : Expr} {es : List Expr} {te : TE} {t : TA} {pos : Pos}
def tLstF (t : TA) : TE := fun σ H Q => t σ H fun xs H1 => xs.length ≤ sizeLine ∧ ∀ p, H1 p = none → p ≠ sysModules → Q (.ref p) (upd H1 p (.lst xs))
theorem pe_lstF (h : PA X es t) : PE X (.List es pos) (tLstF t) := by
  refine ⟨fun pins s σ H Q I hq => wpAny_List_spliced (thn (h.run pos pins s σ H _ I hq) fun us s1 hh => ?_)⟩
  obtain ⟨xs, H1, I1, r, z, q⟩ := hh
  refine ⟨by rw [← r.length]; exact z, .ref s1.heap.objs.size, upd H1 s1.heap.objs.size (.lst xs), I1.laid (t' := s1.toks) (fun b u e => by exact Heap.get?_push_of_some _ e) (Nat.le_refl _) ⟨z, us, 0, r, Heap.get?_push_size _ rfl⟩, rfl, q _ (I1.hok.fresh (Nat.le_refl _)) (Nat.ne_of_gt I1.big)⟩
def rCatF : R2 := fun x y H Q => ∃ l b xs zs, x = .ref l ∧ y = .ref b ∧ H l = some (.lst xs) ∧ H b = some (.lst zs) ∧ xs.length + zs.length ≤ sizeLine ∧ ∀ p, H p = none → p ≠ sysModules → Q (.ref p) (upd H p (.lst (xs ++ zs)))
theorem op_catF : OpR X (binaryOp .Add) rCatF := by
  intro pins s σ H x y v u Q I rx ry h; obtain ⟨l, b, xs, zs, rfl, rfl, hH, hB, hz, q⟩ := h; cases rx; cases ry
  obtain ⟨_, its, n, r, hl, e⟩ := I.lstM hH; obtain ⟨_, its2, n2, r2, hl2, e2⟩ := I.lstM hB
  have ea : its.toArray ++ its2.toArray = (its ++ its2).toArray := by simp only [List.append_toArray]
  refine PySem.P.add_list e e2 ?_ (by rw [List.size_toArray, List.size_toArray]; omega); rw [ea]
  exact ⟨.ref _, _, I.lnew (t' := s.toks) (r.append r2) (by rw [List.length_append]; omega), rfl, q _ I.fresh (Nat.ne_of_gt I.big)⟩
def rRepF : R2 := fun x y H Q => ∃ l k xs, x = .ref l ∧ y = .int k ∧ H l = some (.lst xs) ∧ 0 ≤ k ∧ k < 2 ^ 63 ∧ xs.length * k.toNat ≤ sizeLine ∧ ∀ p, H p = none → p ≠ sysModules → Q (.ref p) (upd H p (.lst (List.replicate k.toNat xs).flatten))
theorem op_repF : OpR X (binaryOp .Mult) rRepF := by
  intro pins s σ H x y v u Q I rx ry h; obtain ⟨l, k, xs, rfl, rfl, hH, h1, h2, hz, q⟩ := h; cases rx; obtain ⟨t, rfl⟩ := ry
  obtain ⟨_, its, n, r, hl, e⟩ := I.lstM hH
  have hlen : its.toArray.size * k.toNat ≤ sizeLine := by rw [List.size_toArray, ← hl] <;> exact hz
  have hcap : ¬ its.toArray.size * k.toNat > (2 ^ 63 - 1) / 8 := by have z : (sizeLine : Nat) ≤ (2 ^ 63 - 1) / 8 := by decide
                                                                    omega
  have hfit : ¬ (!Builtin.List.listFitsIndex k) = true := by rw [fitsIndex_both (by omega) h2] <;> exact Bool.false_ne_true
  have hlong : ¬ Builtin.List.listTooLong (its.toArray.size * k.toNat) = true := by rw [notLongL hlen] <;> exact Bool.false_ne_true
  have f0 : ∀ m : Nat, List.foldl (fun x1 x2 => x1 ++ x2) #[] (List.replicate m its.toArray) = (List.replicate m its).flatten.toArray := fun m => by
    have z := foldl_rep its m []; rw [List.nil_append] at z; exact z
  have hnew : List.foldl (fun x1 x2 => x1 ++ x2) #[] (List.replicate (if its.toArray.isEmpty = true then 0 else k.toNat) its.toArray) = (List.replicate k.toNat its).flatten.toArray := by
    rw [f0]; cases its with
    | nil => simp only [List.isEmpty_toArray, List.isEmpty_nil, if_true, List.replicate_zero, List.flatten_nil, List.flatten_replicate_nil]
    | cons a r' => rw [if_neg (by simp only [List.isEmpty_toArray, List.isEmpty_cons, Bool.false_eq_true, not_false_eq_true])]
  refine wpAny_binaryOp_repeat_ref (T := "list") (U := "int") (by decide) ⟨_, e, rfl⟩ (fun s' => typeIs_int s' k t) noFill_list_mul F.fills_int_mul F.slot_int_rmul repeat_list F.slot_int_index.lookup (call_meets F.slot_int_rmul (typeIs_int s k t) F.entry_int_rmul (F.args_int_rmul_2 _ _) (int___rmul___int_list k t l its.toArray n) ⟨e, rfl, ⟨_, e, rfl⟩, call_meets F.slot_list_mul ⟨_, e, rfl⟩ F.entry_list_mul (F.args_list_mul_2 _ _) (AutoListH.list___mul___list_int_3 l its.toArray n k t hfit hcap hlong) ⟨e, ?_⟩⟩); rw [hnew]
  exact ⟨.ref _, _, I.lnew (t' := s.toks) (r.rep k.toNat) (by rw [PyProof.Rows.lm_len_rep_flat, Nat.mul_comm]; exact hz), rfl, q _ I.fresh (Nat.ne_of_gt I.big)⟩
end
end L2.Vf

/-! # 7: powers of great ints -/
namespace L2.Vf
open PySem PySem.Spec PyProof.Rows
section
variable {X : Cx}
theorem op_powW : OpR X (binaryOp .Pow) (rI (fun i j => 0 ≤ j ∧ (Builtin.Int.intBits i : Int) * j ≤ 2 ^ 27) fun i j => .int (i ^ j.toNat)) := opI fun _ _ _ _ _ _ _ hc q => pow_int hc.1 hc.2 q
end
end L2.Vf

/-! # law k01, a: the nineteen classes, told by numbers -/
namespace L2.Er
open PySem PySem.Spec PyProof.Rows L2.Vf
def top (i : Nat) : Stmt := PySem.Challenge.pw_latesums_k01_errors.main.body.getD i (.Pass ⟨0, 0, 0, 0⟩)
/-- the classes in the law's order -/
def nms : List Str := ["InvalidNumber", "InvalidCell", "InvalidRow", "InvalidTerm", "InvalidForm", "InvalidList", "InvalidChange", "InvalidAsk", "InvalidItem", "InvalidWish", "InvalidPlan", "InvalidStory", "InvalidTree", "InvalidText", "Unfit", "InvalidName", "TakenName", "UnknownName", "NothingToUndo"]
def nm (i : Nat) : Str := nms.getD i "x"
def fld (i : Nat) : Str := if i < 14 then "value" else "name"
theorem fld_or (i : Nat) : fld i = "value" ∨ fld i = "name" := by
  unfold fld
  split
  · exact .inl rfl
  · exact .inr rfl
theorem nm_db : ∀ i, i < 19 → (nm i == ("__debug__" : Str)) = false := by decide +kernel

/-- the written part, the names and the classes' __init__ -/
structure T1 (P : Program) (w : World) (K : PySem.W.Frag) (mg : Str → Option Value) (base : Heap) (C I : Nat → Addr) (fd : Nat → FuncData) (S : Addr) : Prop where
  cl : ∀ i, i < 18 → ErC K (C i) (I i) (fld i)
  fi : ∀ i, i < 18 → FnOk P w K mg base CX0 1 (I i) (fd i) ["self", fld i] (spInit K (fld i))
  b1 : ∀ i, i < 18 → Binds K (fd i) ["self", fld i] []
  bK : ∀ i, i < 18 → ∀ (s : Shared) (x : Value) (ws : List Value), K.In s.heap → (x :: ws).length = (["self", fld i] : List Str).length → BindsTo s (fd i) ⟨[x], ([fld i] : List Str).zip ws⟩ ((["self", fld i] : List Str).zip (x :: ws))
  bD : ∀ i, i < 18 → ∀ (s : Shared) (x : Value), K.In s.heap → BindsTo s (fd i) ⟨[x], []⟩ ((["self", fld i] : List Str).zip [x, .none])
  xc : ExcC K (C 18)
  q18 : PySem.W.excIn K (C 18) [.type "ValueError", .type "Exception", .type "BaseException", .type "object"] "ValueError.__new__" = true
  k18 : PySem.W.keepIn K (.ref (C 18)) = true
  mgC : ∀ i, i < 19 → mg (nm i) = some (.ref (C i))
  mgS : mg "SumsError" = some (.ref S)
  kit : ∀ i, i < 19 → ∀ j, j < 19 → PySem.W.kitOne K (.ref (C i)) (.ref (C j)) = some (decide (i = j))
  kitS : ∀ i, i < 19 → PySem.W.kitOne K (.ref (C i)) (.ref S) = some true
  kitV : ∀ i, i < 19 → PySem.W.kitOne K (.ref (C i)) (.type "ValueError") = some true
  nIsi : mg "isinstance" = none
  nVal : mg "ValueError" = none
  nRng : mg "range" = none
  nLen : mg "len" = none
  nInt : mg "int" = none
  nMax : mg "max" = none
  nLst : mg "list" = none
  nDct : mg "dict" = none
  nRep : mg "repr" = none

/-- an error with its one field -/
def ErAt (H : Hp) (a C : Addr) (f : Str) (v : V) : Prop := ∃ d, H a = some (exo a C (some d)) ∧ H d = some (exd d [(f, v)])
theorem ErAt.mono {H H' : Hp} {a C : Addr} {f : Str} {v : V} (h : ErAt H a C f v) (s : Same H H') : ErAt H' a C f v := by
  obtain ⟨d, h1, h2⟩ := h
  exact ⟨d, s _ _ h1, s _ _ h2⟩
theorem same_new {H : Hp} {p : Addr} {o : HO} (h : H p = none) : Same H (upd H p o) := fun b u e => by
  rw [upd_ne (ne_of_none e h)]
  exact e
/-- made of what stands in slot 0 -/
def tErS (C : Addr) (f : Str) : TE := fun σ H Q => ∃ v, σ[0]? = some (some v) ∧ ∀ a H', H a = none → Same H H' → ErAt H' a C f v → Q (.ref a) H'
def tErN (C : Addr) (f : Str) : TE := fun σ H Q => ∀ a H', H a = none → Same H H' → ErAt H' a C f .non → Q (.ref a) H'
theorem er_end {K : PySem.W.Frag} {C I : Addr} {f : Str} {H : Hp} {v : V} {Q : VK} (T : ErC K C I f) (h : ∀ a H', H a = none → Same H H' → ErAt H' a C f v → Q (.ref a) H') (a : Addr) (ha : H a = none) :
    spInit K f [.ref a, v] (upd H a (exo a C none)) (fun u H2 => u = .non ∧ Q (.ref a) H2) E0 := by
  refine ⟨a, C, v, rfl, T.ox, T.no, upd_same, fun dx hd ne => ⟨rfl, h a _ ha (fun b o e => ?_) ⟨dx, upd_same, ?_⟩⟩⟩
  · have hb := ne_of_none e ha
    rw [upd_ne hb, upd_ne, upd_ne hb]
    · exact e
    · rintro rfl
      rw [upd_ne hb] at hd
      rw [hd] at e
      cases e
  · rw [upd_ne ne, upd_same]
section
variable {X : Cx} {C I : Nat → Addr} {fd : Nat → FuncData} {S : Addr} (T : T1 X.prog X.w X.K X.mg X.base C I fd S)
variable {e : Expr} {es : List Expr} {kws : List Keyword} {t : TA} {p pos : Pos}
include T
theorem T1.er (i : Nat) (hi : i < 18) (hr : Room 2 X.A) (hg : Gl X (nm i)) (ha : PA X [e] (tCons (tVar 0) tNil)) (he : starEach [e] X.env = (false, eval e X.env) :: starEach [] X.env := by rfl) (hpl : (backTo pos (starEach [] X.env)).any (·.1) = false := by rfl) :
    PE X (.Call (.Name (nm i) p) [e] [] pos) (tErS (C i) (fld i)) := by
  have h := pe_er (pos := pos) (p := p) (T.cl i hi) (T.fi i hi) hr (T.b1 i hi) pass0 hg (T.mgC i (by omega)) ha (nm_db i (by omega)) he hpl
  refine ⟨fun pins s σ H Q Iv q => h.run pins s σ H Q Iv ?_⟩
  obtain ⟨v, hv, q⟩ := q
  exact ⟨v, hv, (show 1 ≤ 1000 by decide), fun a ha => er_end (T.cl i hi) q a ha⟩
theorem T1.erK (i : Nat) (hi : i < 18) (hr : Room 2 X.A) (hg : Gl X (nm i)) (ha : PK X kws (tCons (tVar 0) tNil)) (hall : (backToKw pos (keywordEach kws X.env)).all (·.1.isSome) = true := by rfl)
    (hks : (backToKw pos (keywordEach kws X.env)).filterMap (·.1) = [fld i] := by rfl) (hpl : ((backTo pos (starEach [] X.env)).any (·.1) || (backToKw pos (keywordEach kws X.env)).any (·.1.isNone)) = false := by rfl) :
    PE X (.Call (.Name (nm i) p) [] kws pos) (tErS (C i) (fld i)) := by
  have h := pe_erK (pos := pos) (p := p) (T.cl i hi) (T.fi i hi) hr (T.bK i hi) pass0 hg (T.mgC i (by omega)) ha hall hks (nm_db i (by omega)) hpl
  refine ⟨fun pins s σ H Q Iv q => h.run pins s σ H Q Iv ?_⟩
  obtain ⟨v, hv, q⟩ := q
  exact ⟨v, hv, (show 1 ≤ 1000 by decide), fun a ha => er_end (T.cl i hi) q a ha⟩
theorem T1.erD (i : Nat) (hi : i < 18) (hr : Room 2 X.A) (hg : Gl X (nm i)) : PE X (.Call (.Name (nm i) p) [] [] pos) (tErN (C i) (fld i)) := by
  have h := pe_erD (pos := pos) (p := p) (T.cl i hi) (T.fi i hi) hr (T.bD i hi) pass0 hg (T.mgC i (by omega)) (nm_db i (by omega))
  exact ⟨fun pins s σ H Q Iv q => h.run pins s σ H Q Iv fun a ha => er_end (T.cl i hi) q a ha⟩
theorem T1.er0 (hg : Gl X (nm 18)) : PE X (.Call (.Name (nm 18) p) [] [] pos) (fun σ H Q => ∀ a, H a = none → Q (.ref a) (upd H a (exo a (C 18) none))) :=
  pe_er0 F.excBase_ValueError T.q18 T.k18 hg (T.mgC 18 (by decide)) (nm_db 18 (by decide))
omit T
/-! ### many of a kind in a display -/
def tMany (m : Nat → TE) : List Nat → TA
  | [] => tNil
  | i :: l => tCons (m i) (tMany m l)
/-- the errors at as are of the classes l, all made of v -/
abbrev Row (C : Nat → Addr) (H : Hp) (v : V) (l : List Nat) (as : List Addr) : Prop := Paired (fun i a => ErAt H a (C i) (fld i) v) l as
theorem Row.mono {C : Nat → Addr} {H H' : Hp} {v : V} {l : List Nat} {as : List Addr} (h : Row C H v l as) (s : Same H H') : Row C H' v l as := Paired.mapP h fun _ _ q => q.mono s
theorem many_run {m : Nat → TE} {v : V} {σ : St} (hm : ∀ i H Q, (∀ a H', H a = none → Same H H' → ErAt H' a (C i) (fld i) v → Q (.ref a) H') → m i σ H Q) :
    ∀ (l : List Nat) (H : Hp) (Q : List V → Hp → Prop), (∀ as H', Same H H' → Row C H' v l as → Q (as.map V.ref) H') → tMany m l σ H Q
  | [], H, Q, h => h [] H (Same.refl H) .nil
  | i :: l, H, Q, h => by
    refine hm i H _ fun a H1 ha s1 e1 => ?_
    refine many_run hm l H1 _ fun as H2 s2 r => ?_
    exact h (a :: as) H2 (s1.trans s2) (.cons (e1.mono s2) r)
end
end L2.Er

/-! # law k01, b: eighteen errors at once -/
namespace L2.Er
open PySem PySem.Spec PyProof.Rows L2.Vf
abbrev sPl : Stmt := top 29
abbrev sNa : Stmt := top 30
abbrev sBa : Stmt := top 31
/-- a new list of the eighteen errors, made of v -/
def spMade (C : Nat → Addr) (v : V) (H : Hp) (Q : VK) : Prop := ∀ p as H', H p = none → Same H H' → Row C H' v (List.range 18) as → H' p = some (.lst (as.map .ref)) → Q (.ref p) H'
def spPl (C : Nat → Addr) : Sp := fun vs H Q _ => ∃ v, vs = [v] ∧ spMade C v H Q
def spBa (C : Nat → Addr) : Sp := fun vs H Q _ => vs = [] ∧ spMade C .non H Q
section
variable {P : Program} {w : World} {K : PySem.W.Frag} {mg : Str → Option Value} {base : Heap} {C I : Nat → Addr} {fdI : Nat → FuncData} {S : Addr}
theorem scPl : FnScope ["_law_given", "_law_found"] ["_law_given"] (defScope sPl) := ⟨rfl, rfl, rfl, by decide +kernel, rfl, by decide +kernel, by decide +kernel⟩
theorem row_len {C : Nat → Addr} {H : Hp} {v : V} {l : List Nat} {as : List Addr} (r : Row C H v l as) : as.length = l.length := (Paired.length r).symm
theorem row_app {C : Nat → Addr} {H : Hp} {v : V} : ∀ {l m : List Nat} {as bs : List Addr}, Row C H v l as → Row C H v m bs → Row C H v (l ++ m) (as ++ bs)
  | _, _, _, _, .nil, h => h
  | _, _, _, _, .cons a b, h => .cons a (row_app b h)
/-- one display, then the list so far and the display in one, .. -/
def tGrow (m : Nat → TE) (j : Nat) : List (List Nat) → TS
  | [] => tNext
  | [l] => tRet (tOp rCat (tVar j) (tLst (tMany m l)))
  | l :: r :: rs => tSeq (tAsg (tOp rCat (tVar j) (tLst (tMany m l))) (gName j)) (tGrow m j (r :: rs))
def tMade (m : Nat → TE) (j : Nat) (l : List Nat) (r : List (List Nat)) : TS := tSeq (tAsg (tLst (tMany m l)) (gName j)) (tGrow m j r)
/-- the list in slot j and a display of more -/
theorem more_run {m : Nat → TE} {v : V} {j : Nat} {σ : St} {H H0 : Hp} {Q : VK} {l l2 : List Nat} {as : List Addr} {p : Addr} (hσ : σ[j]? = some (some (.ref p))) (hp : H p = some (.lst (as.map .ref))) (h0 : H0 p = none) (s0 : Same H0 H) (r : Row C H v l as) (hl : l.length + l2.length ≤ 1000)
    (hm : ∀ i H Q, (∀ a H', H a = none → Same H H' → ErAt H' a (C i) (fld i) v → Q (.ref a) H') → m i σ H Q)
    (h : ∀ p as H', H0 p = none → Same H0 H' → Row C H' v (l ++ l2) as → H' p = some (.lst (as.map .ref)) → Q (.ref p) H') : tOp rCat (tVar j) (tLst (tMany m l2)) σ H Q := by
  refine ⟨_, hσ, many_run hm l2 H _ fun bs H1 s1 r1 => ⟨?_, fun b hb => ?_⟩⟩
  · rw [List.length_map, row_len r1, sizeLine_eq]
    omega
  · have sb : Same H1 (upd H1 b (.lst (bs.map .ref))) := same_new hb
    refine ⟨p, b, _, _, rfl, rfl, sb _ _ (s1 _ _ hp), upd_same, ?_, fun c hc => ?_⟩
    · rw [List.length_map, List.length_map, row_len r, row_len r1, sizeLine_eq]
      omega
    · have sc := same_new (o := .lst (as.map V.ref ++ bs.map V.ref)) hc
      have s3 : Same H1 _ := sb.trans sc
      refine h c (as ++ bs) _ (s0.free (s1.free ?_)) (s0.trans (s1.trans s3)) (row_app ((r.mono s1).mono s3) (r1.mono s3)) ?_
      · exact sb.free hc
      · rw [upd_same, List.map_append]
theorem grow_run {m : Nat → TE} {v : V} {j : Nat} {σ0 : St} {H0 : Hp} {Q : VK} {D : Ends} (hQ : D.rt = Q) (hj : j < σ0.length) (hm : ∀ x i H Q, (∀ a H', H a = none → Same H H' → ErAt H' a (C i) (fld i) v → Q (.ref a) H') → m i (σ0.set j (some x)) H Q) :
    ∀ (r : List (List Nat)) (l : List Nat) (H : Hp) (as : List Addr) (p : Addr), r ≠ [] → l.length + r.flatten.length ≤ 1000 → H p = some (.lst (as.map .ref)) → H0 p = none → Same H0 H → Row C H v l as →
      (∀ p as H', H0 p = none → Same H0 H' → Row C H' v (l ++ r.flatten) as → H' p = some (.lst (as.map .ref)) → Q (.ref p) H') → tGrow m j r D (σ0.set j (some (.ref p))) H
  | [], _, _, _, _, hr, _, _, _, _, _, _ => absurd rfl hr
  | [l2], l, H, as, p, _, hl, e, n, s, r, h => by
    subst hQ
    have el : ([l2] : List (List Nat)).flatten = l2 := by simp
    rw [el] at hl h
    exact more_run (by rw [List.getElem?_set_self hj]) e n s r hl (hm _) h
  | l2 :: l3 :: rs, l, H, as, p, _, hl, e, n, s, r, h => by
    have el : (l2 :: l3 :: rs).flatten = l2 ++ (l3 :: rs).flatten := by simp
    rw [el] at hl h
    rw [List.length_append] at hl
    refine more_run (H0 := H0) (by rw [List.getElem?_set_self hj]) e n s r (by omega) (hm _) fun p2 as2 H2 n2 s2 r2 e2 => ?_
    show tGrow m j (l3 :: rs) D ((σ0.set j (some (.ref p))).set j (some (.ref p2))) H2
    rw [List.set_set]
    refine grow_run hQ hj hm (l3 :: rs) (l ++ l2) H2 as2 p2 (by simp) (by rw [List.length_append]; omega) e2 n2 s2 r2 fun p3 as3 H3 n3 s3 r3 e3 => ?_
    exact h p3 as3 H3 n3 s3 (by rw [← List.append_assoc]; exact r3) e3
theorem made_run {m : Nat → TE} {v : V} {j : Nat} {σ : St} {H : Hp} {Q : VK} {D : Ends} (hQ : D.rt = Q) {l : List Nat} {r : List (List Nat)} (hr : r ≠ []) (hl : l ++ r.flatten = List.range 18) (hj : j < σ.length)
    (hm0 : ∀ i H Q, (∀ a H', H a = none → Same H H' → ErAt H' a (C i) (fld i) v → Q (.ref a) H') → m i σ H Q) (hm : ∀ x i H Q, (∀ a H', H a = none → Same H H' → ErAt H' a (C i) (fld i) v → Q (.ref a) H') → m i (σ.set j (some x)) H Q)
    (h : spMade C v H Q) : tMade m j l r D σ H := by
  have hn : l.length + r.flatten.length = 18 := by rw [← List.length_append, hl]; rfl
  refine many_run hm0 _ H _ fun as H1 s1 r1 => ⟨by rw [List.length_map, row_len r1, sizeLine_eq]; omega, fun p hp => ?_⟩
  have s2 := same_new (o := .lst (as.map V.ref)) hp
  refine grow_run hQ hj hm r l _ as p hr (by omega) upd_same (s1.free hp) (s1.trans s2) (r1.mono s2) fun p as H' n s q e => ?_
  rw [hl] at q
  exact h p as H' n s q e
theorem ok_pl {f : Addr} {fd : FuncData} (F : Fun K "_law_placed" "_law_placed" sPl f fd) (T : T1 P w K mg base C I fdI S) : FnOk P w K mg base CX0 3 f fd ["_law_given"] (spPl C) := by
  refine F.ok scPl (fun vs H Q E h => ?_) fun cdv A outer s H vs Q E hr h => ?_
  · obtain ⟨v, rfl, _⟩ := h
    rfl
  · obtain ⟨v, rfl, q⟩ := h
    refine ⟨tMade (fun i => tErS (C i) (fld i)) 1 [0, 1, 2, 3, 4] [[5, 6, 7, 8], [9, 10, 11, 12], [13, 14, 15, 16, 17]], ?_, ?_⟩
    · refine pss_cons (ps_set (i := 1) scPl.nd rfl (.inl rfl) (pe_lst ?_)) (pss_cons (ps_set (i := 1) scPl.nd rfl (.inl rfl) (pe_op op_cat (pv 1) (pe_lst ?_))) (pss_cons (ps_set (i := 1) scPl.nd rfl (.inl rfl) (pe_op op_cat (pv 1) (pe_lst ?_))) (pss_one (ps_ret (pe_op op_cat (pv 1) (pe_lst ?_))))))
      · exact (pa_cons (T.er 0 (by decide) hr rfl (pa_cons (pv 0) pa_nil)) (pa_cons (T.er 1 (by decide) hr rfl (pa_cons (pv 0) pa_nil)) (pa_cons (T.er 2 (by decide) hr rfl (pa_cons (pv 0) pa_nil)) (pa_cons (T.er 3 (by decide) hr rfl (pa_cons (pv 0) pa_nil)) (pa_cons (T.er 4 (by decide) hr rfl (pa_cons (pv 0) pa_nil)) pa_nil)))))
      · exact (pa_cons (T.er 5 (by decide) hr rfl (pa_cons (pv 0) pa_nil)) (pa_cons (T.er 6 (by decide) hr rfl (pa_cons (pv 0) pa_nil)) (pa_cons (T.er 7 (by decide) hr rfl (pa_cons (pv 0) pa_nil)) (pa_cons (T.er 8 (by decide) hr rfl (pa_cons (pv 0) pa_nil)) pa_nil))))
      · exact (pa_cons (T.er 9 (by decide) hr rfl (pa_cons (pv 0) pa_nil)) (pa_cons (T.er 10 (by decide) hr rfl (pa_cons (pv 0) pa_nil)) (pa_cons (T.er 11 (by decide) hr rfl (pa_cons (pv 0) pa_nil)) (pa_cons (T.er 12 (by decide) hr rfl (pa_cons (pv 0) pa_nil)) pa_nil))))
      · exact (pa_cons (T.er 13 (by decide) hr rfl (pa_cons (pv 0) pa_nil)) (pa_cons (T.er 14 (by decide) hr rfl (pa_cons (pv 0) pa_nil)) (pa_cons (T.er 15 (by decide) hr rfl (pa_cons (pv 0) pa_nil)) (pa_cons (T.er 16 (by decide) hr rfl (pa_cons (pv 0) pa_nil)) (pa_cons (T.er 17 (by decide) hr rfl (pa_cons (pv 0) pa_nil)) pa_nil)))))
    · exact made_run rfl (by decide) (by decide) (show 1 < 2 by decide) (fun i H Q k => ⟨v, rfl, k⟩) (fun x i H Q k => ⟨v, rfl, k⟩) q
theorem scNa : FnScope ["_law_given", "_law_found"] ["_law_given"] (defScope sNa) := ⟨rfl, rfl, rfl, by decide +kernel, rfl, by decide +kernel, by decide +kernel⟩
theorem ok_na {f : Addr} {fd : FuncData} (F : Fun K "_law_named" "_law_named" sNa f fd) (T : T1 P w K mg base C I fdI S) : FnOk P w K mg base CX0 3 f fd ["_law_given"] (spPl C) := by
  refine F.ok scNa (fun vs H Q E h => ?_) fun cdv A outer s H vs Q E hr h => ?_
  · obtain ⟨v, rfl, _⟩ := h
    rfl
  · obtain ⟨v, rfl, q⟩ := h
    refine ⟨tMade (fun i => tErS (C i) (fld i)) 1 [0, 1, 2, 3] [[4, 5, 6], [7, 8, 9], [10, 11, 12], [13, 14, 15], [16, 17]], ?_, ?_⟩
    · refine pss_cons (ps_set (i := 1) scNa.nd rfl (.inl rfl) (pe_lst ?_)) (pss_cons (ps_set (i := 1) scNa.nd rfl (.inl rfl) (pe_op op_cat (pv 1) (pe_lst ?_))) (pss_cons (ps_set (i := 1) scNa.nd rfl (.inl rfl) (pe_op op_cat (pv 1) (pe_lst ?_))) (pss_cons (ps_set (i := 1) scNa.nd rfl (.inl rfl) (pe_op op_cat (pv 1) (pe_lst ?_))) (pss_cons (ps_set (i := 1) scNa.nd rfl (.inl rfl) (pe_op op_cat (pv 1) (pe_lst ?_))) (pss_one (ps_ret (pe_op op_cat (pv 1) (pe_lst ?_))))))))
      · exact (pa_cons (T.erK 0 (by decide) hr rfl (pk_cons (pv 0) pk_nil)) (pa_cons (T.erK 1 (by decide) hr rfl (pk_cons (pv 0) pk_nil)) (pa_cons (T.erK 2 (by decide) hr rfl (pk_cons (pv 0) pk_nil)) (pa_cons (T.erK 3 (by decide) hr rfl (pk_cons (pv 0) pk_nil)) pa_nil))))
      · exact (pa_cons (T.erK 4 (by decide) hr rfl (pk_cons (pv 0) pk_nil)) (pa_cons (T.erK 5 (by decide) hr rfl (pk_cons (pv 0) pk_nil)) (pa_cons (T.erK 6 (by decide) hr rfl (pk_cons (pv 0) pk_nil)) pa_nil)))
      · exact (pa_cons (T.erK 7 (by decide) hr rfl (pk_cons (pv 0) pk_nil)) (pa_cons (T.erK 8 (by decide) hr rfl (pk_cons (pv 0) pk_nil)) (pa_cons (T.erK 9 (by decide) hr rfl (pk_cons (pv 0) pk_nil)) pa_nil)))
      · exact (pa_cons (T.erK 10 (by decide) hr rfl (pk_cons (pv 0) pk_nil)) (pa_cons (T.erK 11 (by decide) hr rfl (pk_cons (pv 0) pk_nil)) (pa_cons (T.erK 12 (by decide) hr rfl (pk_cons (pv 0) pk_nil)) pa_nil)))
      · exact (pa_cons (T.erK 13 (by decide) hr rfl (pk_cons (pv 0) pk_nil)) (pa_cons (T.erK 14 (by decide) hr rfl (pk_cons (pv 0) pk_nil)) (pa_cons (T.erK 15 (by decide) hr rfl (pk_cons (pv 0) pk_nil)) pa_nil)))
      · exact (pa_cons (T.erK 16 (by decide) hr rfl (pk_cons (pv 0) pk_nil)) (pa_cons (T.erK 17 (by decide) hr rfl (pk_cons (pv 0) pk_nil)) pa_nil))
    · exact made_run rfl (by decide) (by decide) (show 1 < 2 by decide) (fun i H Q k => ⟨v, rfl, k⟩) (fun x i H Q k => ⟨v, rfl, k⟩) q
theorem scBa : FnScope ["_law_found"] [] (defScope sBa) := ⟨rfl, rfl, rfl, by decide +kernel, rfl, by decide +kernel, by decide +kernel⟩
theorem ok_ba {f : Addr} {fd : FuncData} (F : Fun K "_law_bare" "_law_bare" sBa f fd) (T : T1 P w K mg base C I fdI S) : FnOk P w K mg base CX0 3 f fd [] (spBa C) := by
  refine F.ok scBa (fun vs H Q E h => ?_) fun cdv A outer s H vs Q E hr h => ?_
  · obtain ⟨rfl, _⟩ := h
    rfl
  · obtain ⟨rfl, q⟩ := h
    refine ⟨tMade (fun i => tErN (C i) (fld i)) 0 [0, 1, 2, 3, 4, 5, 6] [[7, 8, 9, 10, 11, 12], [13, 14, 15, 16, 17]], ?_, ?_⟩
    · refine pss_cons (ps_set (i := 0) scBa.nd rfl (.inl rfl) (pe_lst ?_)) (pss_cons (ps_set (i := 0) scBa.nd rfl (.inl rfl) (pe_op op_cat (pv 0) (pe_lst ?_))) (pss_one (ps_ret (pe_op op_cat (pv 0) (pe_lst ?_)))))
      · exact (pa_cons (T.erD 0 (by decide) hr rfl) (pa_cons (T.erD 1 (by decide) hr rfl) (pa_cons (T.erD 2 (by decide) hr rfl) (pa_cons (T.erD 3 (by decide) hr rfl) (pa_cons (T.erD 4 (by decide) hr rfl) (pa_cons (T.erD 5 (by decide) hr rfl) (pa_cons (T.erD 6 (by decide) hr rfl) pa_nil)))))))
      · exact (pa_cons (T.erD 7 (by decide) hr rfl) (pa_cons (T.erD 8 (by decide) hr rfl) (pa_cons (T.erD 9 (by decide) hr rfl) (pa_cons (T.erD 10 (by decide) hr rfl) (pa_cons (T.erD 11 (by decide) hr rfl) (pa_cons (T.erD 12 (by decide) hr rfl) pa_nil))))))
      · exact (pa_cons (T.erD 13 (by decide) hr rfl) (pa_cons (T.erD 14 (by decide) hr rfl) (pa_cons (T.erD 15 (by decide) hr rfl) (pa_cons (T.erD 16 (by decide) hr rfl) (pa_cons (T.erD 17 (by decide) hr rfl) pa_nil)))))
    · exact made_run rfl (by decide) (by decide) (show 0 < 1 by decide) (fun i H Q k => k) (fun x i H Q k => k) q
end
end L2.Er

/-! # law k01, c: which class an error has; the fields of many -/
namespace L2.Er
open PySem PySem.Spec PyProof.Rows L2.Vf
abbrev sKi : Stmt := top 26
abbrev sFi : Stmt := top 27
theorem boot_isi : bootBuiltins "isinstance" = some (.builtin "isinstance") := by decide +kernel
/-- at a: an error of the class k -/
def IsE (C : Nat → Addr) (H : Hp) (a : Addr) (k : Nat) : Prop := ∃ d, H a = some (exo a (C k) d) ∧ ∀ d0, d = some d0 → ∃ fs, H d0 = some (exd d0 fs)
theorem IsE.mono {C : Nat → Addr} {H H' : Hp} {a : Addr} {k : Nat} (h : IsE C H a k) (s : Same H H') : IsE C H' a k := by
  obtain ⟨d, h1, h2⟩ := h
  refine ⟨d, s _ _ h1, fun d0 e => ?_⟩
  obtain ⟨fs, q⟩ := h2 d0 e
  exact ⟨fs, s _ _ q⟩
theorem ErAt.isE {C : Nat → Addr} {H : Hp} {a : Addr} {k : Nat} {f : Str} {v : V} (h : ErAt H a (C k) f v) : IsE C H a k := by
  obtain ⟨d, h1, h2⟩ := h
  exact ⟨_, h1, fun d0 e => by cases e; exact ⟨_, h2⟩⟩
/-- isinstance of slot 0 and a written class -/
abbrev tIs (K : PySem.W.Frag) (c : V) : TE := tCB (fun xs H Q => rIsi K xs H Q ∨ rIsX K xs H Q) (tCons (tVar 0) (tCons (tC c) tNil))
section
variable {P : Program} {w : World} {K : PySem.W.Frag} {mg : Str → Option Value} {base : Heap} {C I : Nat → Addr} {fdI : Nat → FuncData} {S : Addr}
theorem T1.ex (T : T1 P w K mg base C I fdI S) (k : Nat) (hk : k < 19) : ExcC K (C k) := by
  by_cases h : k < 18
  · exact (T.cl k h).xc
  · have e : k = 18 := by omega
    subst e
    exact T.xc
theorem is_run {H : Hp} {Q : VK} {σ : St} {a : Addr} {k : Nat} {c : V} {cv : Value} {b : Bool} (T : T1 P w K mg base C I fdI S) (hk : k < 19) (hσ : σ[0]? = some (some (.ref a))) (he : IsE C H a k) (hc : ClsV c cv) (e : PySem.W.kitOne K (.ref (C k)) cv = some b) (q : Q (.bl b) H) : tIs K c σ H Q := by
  obtain ⟨d, h1, h2⟩ := he
  exact ⟨_, hσ, .inr ⟨a, C k, d, c, cv, b, rfl, h1, h2, T.ex k hk, hc, e, q⟩⟩
end
section
variable {X : Cx} {C I : Nat → Addr} {fd : Nat → FuncData} {S : Addr} (T : T1 X.prog X.w X.K X.mg X.base C I fd S) {p1 p2 p3 pos : Pos} {x : Str}
include T
theorem T1.isC (c : V) (hg : Gl X "isinstance") {e : Expr} (hv : PE X e (tVar 0)) {e2 : Expr} (hc : PE X e2 (tC c)) (he : starEach [e, e2] X.env = (false, eval e X.env) :: starEach [e2] X.env := by rfl) (he2 : starEach [e2] X.env = (false, eval e2 X.env) :: starEach [] X.env := by rfl)
    (hpl : (backTo pos (starEach [e2] X.env)).any (·.1) = false := by rfl) : PE X (.Call (.Name "isinstance" p1) [e, e2] [] pos) (tIs X.K c) :=
  pe_callB call_isiX hg T.nIsi boot_isi (pa_cons hv (pa_cons hc pa_nil he2) he) (by decide) (by decide) he hpl
end
/-! ### a display of things that are told, and more of them -/
theorem manyV_run {m : Nat → TE} {val : Nat → V} {σ : St} {H : Hp} (hm : ∀ i (Q : VK), i < 18 → Q (val i) H → m i σ H Q) : ∀ (l : List Nat) (Q : List V → Hp → Prop), (∀ i ∈ l, i < 18) → Q (l.map val) H → tMany m l σ H Q
  | [], Q, _, h => h
  | i :: l, Q, hl, h => hm i _ (hl i List.mem_cons_self) (manyV_run hm l _ (fun j hj => hl j (List.mem_cons_of_mem _ hj)) h)
/-- the list in slot j grows; then comes rest -/
def tGrowV (m : Nat → TE) (j : Nat) (rest : TS) : List (List Nat) → TS
  | [] => rest
  | l :: rs => tSeq (tAsg (tOp rCat (tVar j) (tLst (tMany m l))) (gName j)) (tGrowV m j rest rs)
theorem growV_run {m : Nat → TE} {val : Nat → V} {j : Nat} {σ0 : St} {H0 : Hp} {D : Ends} {rest : TS} (hj : j < σ0.length) (hm : ∀ x i H (Q : VK), Same H0 H → i < 18 → Q (val i) H → m i (σ0.set j (some x)) H Q) :
    ∀ (r : List (List Nat)) (l : List Nat) (H : Hp) (p : Addr), l.length + r.flatten.length ≤ 1000 → (∀ i ∈ r.flatten, i < 18) → H p = some (.lst (l.map val)) → H0 p = none → Same H0 H →
      (∀ p H', H0 p = none → Same H0 H' → H' p = some (.lst ((l ++ r.flatten).map val)) → rest D (σ0.set j (some (.ref p))) H') → tGrowV m j rest r D (σ0.set j (some (.ref p))) H
  | [], l, H, p, _, _, e, n, s, h => h p H n s (by simpa using e)
  | l2 :: rs, l, H, p, hl, hb, e, n, s, h => by
    have el : (l2 :: rs).flatten = l2 ++ rs.flatten := by simp
    rw [el] at hl h hb
    rw [List.length_append] at hl
    refine ⟨_, by rw [List.getElem?_set_self hj], manyV_run (val := val) (fun i Q hi q => hm _ i H Q s hi q) l2 _ (fun i hi => hb i (List.mem_append_left _ hi)) ⟨by rw [List.length_map, sizeLine_eq]; omega, fun b hb2 => ?_⟩⟩
    have sb := same_new (o := .lst (l2.map val)) hb2
    refine ⟨p, b, _, _, rfl, rfl, sb _ _ e, upd_same, by rw [List.length_map, List.length_map, sizeLine_eq]; omega, fun c hc => ?_⟩
    have sc := same_new (o := .lst (l.map val ++ l2.map val)) hc
    show tGrowV m j rest rs D ((σ0.set j (some (.ref p))).set j (some (.ref c))) _
    rw [List.set_set]
    refine growV_run hj hm rs (l ++ l2) _ c (by rw [List.length_append]; omega) (fun i hi => hb i (List.mem_append_right _ hi)) (by rw [upd_same, List.map_append]) (s.free (sb.free hc)) (s.trans (sb.trans sc)) fun p3 H3 n3 s3 e3 => ?_
    exact h p3 H3 n3 s3 (by rw [← List.append_assoc]; exact e3)
theorem madeV_run {m : Nat → TE} {val : Nat → V} {j : Nat} {σ0 : St} {H0 : Hp} {D : Ends} {rest : TS} {l : List Nat} {r : List (List Nat)} (hj : j < σ0.length) (hl : l ++ r.flatten = List.range 18) (hm0 : ∀ i (Q : VK), i < 18 → Q (val i) H0 → m i σ0 H0 Q)
    (hm : ∀ x i H (Q : VK), Same H0 H → i < 18 → Q (val i) H → m i (σ0.set j (some x)) H Q) (h : ∀ p H', H0 p = none → Same H0 H' → H' p = some (.lst ((List.range 18).map val)) → rest D (σ0.set j (some (.ref p))) H') :
    tSeq (tAsg (tLst (tMany m l)) (gName j)) (tGrowV m j rest r) D σ0 H0 := by
  have hn : l.length + r.flatten.length = 18 := by rw [← List.length_append, hl]; rfl
  have hb : ∀ i ∈ l ++ r.flatten, i < 18 := fun i hi => by rw [hl] at hi; exact List.mem_range.mp hi
  refine manyV_run hm0 l _ (fun i hi => hb i (List.mem_append_left _ hi)) ⟨by rw [List.length_map, sizeLine_eq]; omega, fun p hp => ?_⟩
  refine growV_run hj hm r l _ p (by omega) (fun i hi => hb i (List.mem_append_right _ hi)) upd_same hp (same_new hp) fun p H' n s e => h p H' n s (by rw [hl] at e; exact e)

def spKi (C : Nat → Addr) : Sp := fun vs H Q _ => ∃ a k, vs = [.ref a] ∧ k < 19 ∧ IsE C H a k ∧ ∀ p H', H p = none → Same H H' → H' p = some (.lst [.int (k : Nat)]) → Q (.ref p) H'
section
variable {P : Program} {w : World} {K : PySem.W.Frag} {mg : Str → Option Value} {base : Heap} {C I : Nat → Addr} {fdI : Nat → FuncData} {S : Addr}
theorem scKi : FnScope ["_law_error", "_law_classes", "_law_at"] ["_law_error"] (defScope sKi) := ⟨rfl, rfl, rfl, by decide +kernel, rfl, by decide +kernel, by decide +kernel⟩
theorem ok_ki {f : Addr} {fd : FuncData} (F : Fun K "_law_kinds" "_law_kinds" sKi f fd) (T : T1 P w K mg base C I fdI S) : FnOk P w K mg base CX0 2 f fd ["_law_error"] (spKi C) := by
  refine F.ok scKi (fun vs H Q E h => ?_) fun cdv A outer s H vs Q E hr h => ?_
  · obtain ⟨a, k, rfl, _⟩ := h
    rfl
  · obtain ⟨a, k, rfl, hk, he, q⟩ := h
    refine ⟨_, pss_cons (ps_set (i := 1) scKi.nd rfl (.inr rfl) (pe_lst (pa_cons (T.isC (.ref (C 0)) (by rfl) (pv 0) (pe_glob (by rfl) (T.mgC 0 (by decide)) (by rfl))) (pa_cons (T.isC (.ref (C 1)) (by rfl) (pv 0) (pe_glob (by rfl) (T.mgC 1 (by decide)) (by rfl))) (pa_cons (T.isC (.ref (C 2)) (by rfl) (pv 0) (pe_glob (by rfl) (T.mgC 2 (by decide)) (by rfl))) pa_nil))))) (pss_cons (ps_set (i := 1) scKi.nd rfl (.inr rfl) (pe_op op_cat (pv 1) (pe_lst (pa_cons (T.isC (.ref (C 3)) (by rfl) (pv 0) (pe_glob (by rfl) (T.mgC 3 (by decide)) (by rfl))) (pa_cons (T.isC (.ref (C 4)) (by rfl) (pv 0) (pe_glob (by rfl) (T.mgC 4 (by decide)) (by rfl))) (pa_cons (T.isC (.ref (C 5)) (by rfl) (pv 0) (pe_glob (by rfl) (T.mgC 5 (by decide)) (by rfl))) pa_nil)))))) (pss_cons (ps_set (i := 1) scKi.nd rfl (.inr rfl) (pe_op op_cat (pv 1) (pe_lst (pa_cons (T.isC (.ref (C 6)) (by rfl) (pv 0) (pe_glob (by rfl) (T.mgC 6 (by decide)) (by rfl))) (pa_cons (T.isC (.ref (C 7)) (by rfl) (pv 0) (pe_glob (by rfl) (T.mgC 7 (by decide)) (by rfl))) pa_nil))))) (pss_cons (ps_set (i := 1) scKi.nd rfl (.inr rfl) (pe_op op_cat (pv 1) (pe_lst (pa_cons (T.isC (.ref (C 8)) (by rfl) (pv 0) (pe_glob (by rfl) (T.mgC 8 (by decide)) (by rfl))) (pa_cons (T.isC (.ref (C 9)) (by rfl) (pv 0) (pe_glob (by rfl) (T.mgC 9 (by decide)) (by rfl))) pa_nil))))) (pss_cons (ps_set (i := 1) scKi.nd rfl (.inr rfl) (pe_op op_cat (pv 1) (pe_lst (pa_cons (T.isC (.ref (C 10)) (by rfl) (pv 0) (pe_glob (by rfl) (T.mgC 10 (by decide)) (by rfl))) (pa_cons (T.isC (.ref (C 11)) (by rfl) (pv 0) (pe_glob (by rfl) (T.mgC 11 (by decide)) (by rfl))) pa_nil))))) (pss_cons (ps_set (i := 1) scKi.nd rfl (.inr rfl) (pe_op op_cat (pv 1) (pe_lst (pa_cons (T.isC (.ref (C 12)) (by rfl) (pv 0) (pe_glob (by rfl) (T.mgC 12 (by decide)) (by rfl))) (pa_cons (T.isC (.ref (C 13)) (by rfl) (pv 0) (pe_glob (by rfl) (T.mgC 13 (by decide)) (by rfl))) (pa_cons (T.isC (.ref (C 14)) (by rfl) (pv 0) (pe_glob (by rfl) (T.mgC 14 (by decide)) (by rfl))) pa_nil)))))) (pss_cons (ps_set (i := 1) scKi.nd rfl (.inr rfl) (pe_op op_cat (pv 1) (pe_lst (pa_cons (T.isC (.ref (C 15)) (by rfl) (pv 0) (pe_glob (by rfl) (T.mgC 15 (by decide)) (by rfl))) (pa_cons (T.isC (.ref (C 16)) (by rfl) (pv 0) (pe_glob (by rfl) (T.mgC 16 (by decide)) (by rfl))) (pa_cons (T.isC (.ref (C 17)) (by rfl) (pv 0) (pe_glob (by rfl) (T.mgC 17 (by decide)) (by rfl))) pa_nil)))))) (pss_cons (ps_if (PW.pt ((pw_or (pt_not (pt_val (T.isC (.ref S) (by rfl) (pv 0) (pe_glob (by rfl) T.mgS (by rfl))))) (pw_or1 (pt_not (pt_val (T.isC (.ty "ValueError") (by rfl) (pv 0) (pe_bltn (by rfl) T.nVal PyProof.Rows.Boot.«ValueError» (by rfl))))))))) (pss_one (ps_ret (pe_lst pa_nil))) pss_nil) (pss_one (ps_ret (pe_lc (own := [("_law_at", 2)]) (g := gName 2) (tt := tB (tOp (rIxL K) (tOp rCat (tVar 1) (tLst (tCons (tIs K (.ref (C 18))) tNil))) (tVar 2))) rfl scKi.nd (pi_range1 (by rfl) T.nRng (pa_cons pe_int pa_nil)) (blkOk_by (N := ["_law_error", "_law_classes", "_law_at"]) (sc := defScope sKi) (by decide +kernel)) (fun _ _ _ _ _ => pg_name (i := 2) scKi.nd rfl (Or.inl rfl)) (fun _ _ _ _ _ => pts_one (pt_val (pe_ix ix_list (pe_op op_cat (pv 1) (pe_lst (pa_cons (T.isC (.ref (C 18)) (by rfl) (pv 0) (pe_glob (by rfl) (T.mgC 18 (by decide)) (by rfl))) pa_nil))) (pv 2) (fun _ _ => rfl)))) (fun _ _ _ _ _ => pv 2))))))))))), ?_⟩
    refine madeV_run (m := fun i => tIs K (.ref (C i))) (val := fun i => .bl (decide (k = i))) (j := 1) (l := [0, 1, 2]) (r := [[3, 4, 5], [6, 7], [8, 9], [10, 11], [12, 13, 14], [15, 16, 17]]) (show 1 < 3 by decide) (by decide)
      (fun i Q hi q => is_run T hk rfl he (.own _) (T.kit k hk i (by omega)) q) (fun x i H' Q s hi q => is_run T hk rfl (he.mono s) (.own _) (T.kit k hk i (by omega)) q) fun p H1 n1 s1 e1 => ?_
    have he1 := he.mono s1
    -- both kinds of error
    refine is_run T hk rfl he1 (.own _) (T.kitS k hk) ⟨true, rfl, iteF ?_⟩
    refine is_run T hk rfl he1 (.ty _) (T.kitV k hk) ⟨true, rfl, iteF ?_⟩
    -- the places where the class is met
    refine ⟨19, rfl, by decide, by decide, fun D hD => ?_⟩
    have sD : Same H1 (upd H1 D (.lst [])) := same_new hD
    refine lc_range (lo := 0) (n := 19) (fun j H' => Same H1 H' ∧ H' D = some (.lst (if k < j then [.int (k : Nat)] else []))) ⟨sD, upd_same⟩ (fun j H2 hj hP => ?_) fun H2 hP => ?_
    · obtain ⟨s2, d2⟩ := hP
      refine ⟨rfl, _, rfl, is_run T hk rfl (he1.mono s2) (.own _) (T.kit k hk 18 (by decide)) ⟨by show 1 ≤ sizeLine; decide, fun b hb => ?_⟩⟩
      have s3 := s2.trans (same_new (o := .lst [.bl (decide (k = 18))]) hb)
      refine ⟨p, b, _, _, rfl, rfl, s3 _ _ e1, upd_same, by rw [List.length_map, sizeLine_eq]; exact (show 18 + 1 ≤ 16777216 by decide), fun c hc => ?_⟩
      have s4 := same_new (o := .lst ((List.range 18).map (fun i => V.bl (decide (k = i))) ++ [.bl (decide (k = 18))])) hc
      have e4 : (List.range 18).map (fun i => V.bl (decide (k = i))) ++ [.bl (decide (k = 18))] = (List.range 19).map (fun i => V.bl (decide (k = i))) := rfl
      have d4 := s4 _ _ (same_new (o := .lst [.bl (decide (k = 18))]) hb _ _ d2)
      refine ⟨_, rfl, c, _, _, .bl (decide (k = j)), rfl, rfl, SqL.of upd_same, ?_, decide (k = j), rfl, ?_⟩
      · rw [e4, Int.zero_add]
        exact atI_nat (by rw [List.getElem?_map, List.getElem?_range hj]; rfl)
      · by_cases e : k = j
        · rw [decide_eq_true e]
          refine iteT ⟨_, rfl, _, d4, ?_, fun x o h => ?_, ?_⟩
          · rw [if_neg (by omega)]
            show 0 < sizeLine
            decide
          · rw [upd_ne (ne_of_none h hD)]
            exact s4 _ _ (s3 _ _ h)
          · rw [upd_same, if_neg (by omega), if_pos (by omega), e, Int.zero_add]
            rfl
        · rw [decide_eq_false e]
          refine iteF ⟨s3.trans s4, ?_⟩
          rw [d4]
          by_cases e2 : k < j
          · rw [if_pos e2, if_pos (by omega)]
          · rw [if_neg e2, if_neg (by omega)]
    · obtain ⟨s2, d2⟩ := hP
      exact q D H2 (s1.free hD) (s1.trans s2) (by rw [d2, if_pos hk])
end
end L2.Er

/-! # law k01, d: the fields of many; whether they are right -/
namespace L2.Er
open PySem PySem.Spec PyProof.Rows L2.Vf
def FldE (K : PySem.W.Frag) (H : Hp) (a : Addr) (f : Str) (v : V) : Prop := ∃ (C d : Addr) (fs : List (Str × V)), H a = some (exo a C (some d)) ∧ H d = some (exd d fs) ∧ fs.lookup f = some v ∧ ExcC K C ∧ PySem.W.findIn K (.ref C) f = some none
theorem FldE.mono {K : PySem.W.Frag} {H H' : Hp} {a : Addr} {f : Str} {v : V} (h : FldE K H a f v) (s : Same H H') : FldE K H' a f v := by
  obtain ⟨C, d, fs, h1, h2, h3⟩ := h
  exact ⟨C, d, fs, s _ _ h1, s _ _ h2, h3⟩
/-- [e.f for e in part] -/
theorem part_run {K : PySem.W.Frag} {σ : St} {H1 : Hp} {s : Addr} {part : List Addr} {f : Str} {v : V} {Q : Addr → Hp → Prop} (hσ : 1 < σ.length) (hs : H1 s = some (.lst (part.map .ref))) (hl : part.length ≤ 1000) (hf : ∀ a ∈ part, FldE K H1 a f v)
    (h : ∀ D H', H1 D = none → Same H1 H' → H' D = some (.lst (List.replicate part.length v)) → Q D H') :
    ∀ D, H1 D = none → ∃ W : Nat → Nat → Hp → Prop, (∃ m, W 0 m (upd H1 D (.lst []))) ∧ ∀ i m H, W i m H → ((Itl K s).stop i H ∧ Q D H) ∨ ((Itl K s).go i H ∧ ∃ Nx : Hp → Prop, (∀ H', Nx H' → ∃ m', m' < m ∧ W (i + 1) m' H') ∧ ∀ x H', (Itl K s).yld i H x H' →
      gName 1 x (wipe σ [1]) H' fun σ2 H2 => wipe σ2 [1] = wipe σ [1] ∧ tYes σ2 H2 fun b H3 => if b = true then tErF K f (tVar 1) σ2 H3 fun y H4 => ∃ acc, H4 D = some (.lst acc) ∧ acc.length < sizeLine ∧ Nx (upd H4 D (.lst (acc ++ [y]))) else Nx H3) := by
  intro D hD
  have sD : Same H1 (upd H1 D (.lst [])) := same_new hD
  have one : (wipe σ [1]).length = σ.length := wipe_length _ _
  refine lc_list (xs := part.map V.ref) (fun j H' => Same H1 H' ∧ H' D = some (.lst (List.replicate j v))) ⟨sD, upd_same⟩ (fun i H' _ hP => SqL.of (hP.1 _ _ hs)) (fun i x H' hx hP => ?_) fun H' hP => ?_
  · obtain ⟨s2, d2⟩ := hP
    rw [List.getElem?_map] at hx
    cases e : part[i]? with
    | none => rw [e] at hx; cases hx
    | some a =>
      rw [e] at hx
      cases hx
      have hi : i < part.length := (List.getElem?_eq_some_iff.mp e).1
      obtain ⟨C, d, fs, h1, h2, h3, h4, h5⟩ := (hf a (List.mem_of_getElem? e)).mono s2
      refine ⟨by show wipe ((wipe σ [1]).set 1 _) [1] = wipe σ [1]; simp [wipe, List.set_set], ?_⟩
      show tErF K f (tVar 1) ((wipe σ [1]).set 1 (some (.ref a))) H' (fun y H4 => ∃ acc, H4 D = some (.lst acc) ∧ acc.length < sizeLine ∧ (Same H1 (upd H4 D (.lst (acc ++ [y]))) ∧ (upd H4 D (.lst (acc ++ [y]))) D = some (.lst (List.replicate (i + 1) v))))
      refine ⟨_, by rw [List.getElem?_set_self (by rw [one]; exact hσ)], a, C, d, fs, v, rfl, h1, h2, h3, h4, h5, _, d2, by rw [List.length_replicate, sizeLine_eq]; omega, fun b o hb => ?_, ?_⟩
      · rw [upd_ne (ne_of_none hb hD)]
        exact s2 _ _ hb
      · rw [upd_same, List.replicate_succ', ]
  · obtain ⟨s2, d2⟩ := hP
    rw [List.length_map] at d2
    exact h D H' hD s2 d2
def spFi (C : Nat → Addr) : Sp := fun vs H Q _ => ∃ l as v, vs = [.ref l] ∧ H l = some (.lst (as.map .ref)) ∧ Row C H v (List.range 18) as ∧ ∀ p H', H p = none → p ≠ sysModules → Same H H' → H' p = some (.lst (List.replicate 18 v)) → Q (.ref p) H'
section
variable {P : Program} {w : World} {K : PySem.W.Frag} {mg : Str → Option Value} {base : Heap} {C I : Nat → Addr} {fdI : Nat → FuncData} {S : Addr}
theorem row_fld {H : Hp} {v : V} {l : List Nat} {as : List Addr} {f : Str} (T : T1 P w K mg base C I fdI S) (r : Row C H v l as) (hl : ∀ i ∈ l, i < 18 ∧ fld i = f) : ∀ a ∈ as, FldE K H a f v := by
  induction r with
  | nil => intro a ha; cases ha
  | @cons i a l as h _ ih =>
    intro b hb
    rcases List.mem_cons.mp hb with rfl | hb
    · obtain ⟨h1, h2⟩ := hl i List.mem_cons_self
      obtain ⟨d, e1, e2⟩ := h
      have c := T.cl i h1
      rw [h2] at e2
      refine ⟨C i, d, _, e1, e2, by simp [List.lookup], c.xc, by rw [← h2]; exact c.no⟩
    · exact ih (fun j hj => hl j (List.mem_cons_of_mem _ hj)) b hb
theorem row_take {H : Hp} {v : V} {l : List Nat} {as : List Addr} (n : Nat) (r : Row C H v l as) : Row C H v (l.take n) (as.take n) := by
  induction r generalizing n with
  | nil => simp; exact .nil
  | cons h _ ih => cases n with
    | zero => exact .nil
    | succ n => exact .cons h (ih n)
theorem row_drop {H : Hp} {v : V} {l : List Nat} {as : List Addr} (n : Nat) (r : Row C H v l as) : Row C H v (l.drop n) (as.drop n) := by
  induction r generalizing n with
  | nil => simp; exact .nil
  | cons h r ih => cases n with
    | zero => exact .cons h r
    | succ n => exact ih n
theorem scFi : FnScope ["_law_errors", "_law_error"] ["_law_errors"] (defScope sFi) := ⟨rfl, rfl, rfl, by decide +kernel, rfl, by decide +kernel, by decide +kernel⟩
theorem ok_fi {f : Addr} {fd : FuncData} (F : Fun K "_law_fields" "_law_fields" sFi f fd) (T : T1 P w K mg base C I fdI S) : FnOk P w K mg base CX0 2 f fd ["_law_errors"] (spFi C) := by
  refine F.ok scFi (fun vs H Q E h => ?_) fun cdv A outer s H vs Q E hr h => ?_
  · obtain ⟨l, as, v, rfl, _⟩ := h
    rfl
  · obtain ⟨l, as, v, rfl, hl, r, q⟩ := h
    refine ⟨_, pss_one (ps_ret (pe_op op_catF
      (pe_lc (own := [("_law_error", 1)]) (g := gName 1) (tt := tYes) (te := tErF K "value" (tVar 1)) rfl scFi.nd (pi_list (pe_slice sl_list (pv 0) po_none (po_some pe_int))) (blkOk_by (N := ["_law_errors", "_law_error"]) (sc := defScope sFi) (by decide +kernel)) (fun _ _ _ _ _ => pg_name (i := 1) scFi.nd rfl (Or.inl rfl)) (fun _ _ _ _ _ => pts_nil) (fun _ _ _ _ _ => pe_erF (pv 1)))
      (pe_lc (own := [("_law_error", 1)]) (g := gName 1) (tt := tYes) (te := tErF K "name" (tVar 1)) rfl scFi.nd (pi_list (pe_slice sl_list (pv 0) (po_some pe_int) po_none)) (blkOk_by (N := ["_law_errors", "_law_error"]) (sc := defScope sFi) (by decide +kernel)) (fun _ _ _ _ _ => pg_name (i := 1) scFi.nd rfl (Or.inl rfl)) (fun _ _ _ _ _ => pts_nil) (fun _ _ _ _ _ => pe_erF (pv 1))))), ?_⟩
    have len : as.length = 18 := by rw [row_len r]; rfl
    have c1 : cutV (as.map V.ref) none (some 14) = (as.take 14).map V.ref := by
      show ((as.map V.ref).drop 0).take (min 14 (as.map V.ref).length - 0) = _
      rw [List.length_map, len, List.drop_zero, List.map_take]
      rfl
    have c2 : cutV (as.map V.ref) (some 14) none = (as.drop 14).map V.ref := by
      show ((as.map V.ref).drop (min 14 (as.map V.ref).length)).take ((as.map V.ref).length - min 14 (as.map V.ref).length) = _
      rw [List.length_map, len, List.map_drop]
      exact List.take_of_length_le (by rw [List.length_drop, List.length_map, len]; decide)
    refine ⟨_, rfl, 14, rfl, l, _, rfl, SqL.of hl, fun s1 hs1 => ?_⟩
    rw [c1]
    have e1 := same_new (o := .lst ((as.take 14).map V.ref)) hs1
    refine ⟨s1, rfl, ⟨_, SqL.of upd_same⟩, ?_⟩
    refine part_run (K := K) (f := "value") (v := v) (σ := start ["_law_errors", "_law_error"] [.ref l]) (show 1 < 2 by decide) upd_same (by rw [List.length_take]; omega) (fun a ha => (row_fld T (row_take 14 r) (by decide) a ha).mono e1) fun D1 H2 n2 s2 d2 => ?_
    have e2 := e1.trans s2
    refine ⟨_, rfl, 14, rfl, l, _, rfl, SqL.of (e2 _ _ hl), fun s3 hs3 => ?_⟩
    rw [c2]
    have e3 := same_new (o := .lst ((as.drop 14).map V.ref)) hs3
    refine ⟨s3, rfl, ⟨_, SqL.of upd_same⟩, ?_⟩
    refine part_run (K := K) (f := "name") (v := v) (σ := start ["_law_errors", "_law_error"] [.ref l]) (show 1 < 2 by decide) upd_same (by rw [List.length_drop]; omega) (fun a ha => (row_fld T (row_drop 14 r) (by decide) a ha).mono (e2.trans e3)) fun D2 H3 n3 s4 d3 => ?_
    have e4 := e3.trans s4
    refine ⟨D1, D2, _, _, rfl, rfl, e4 _ _ d2, d3, by rw [List.length_replicate, List.length_replicate, List.length_take, List.length_drop, sizeLine_eq]; omega, fun p hp hm => ?_⟩
    refine q p _ (e2.free (e4.free hp)) hm ((e2.trans e4).trans (same_new hp)) ?_
    rw [upd_same, List.replicate_append_replicate, List.length_take, List.length_drop, len]
    rfl
end
end L2.Er

/-! # law k01, e: whether eighteen errors are right -/
namespace L2.Er
open PySem PySem.Spec PyProof.Rows L2.Vf
abbrev sRi : Stmt := top 28
theorem boot_repr : bootBuiltins "repr" = some (.builtin "repr") := by decide +kernel
/-- what may be written out, eighteen times over -/
def Shows (K : PySem.W.Frag) (H : Hp) (v : V) : Prop := ∃ d as, Sh K H v d as ∧ d.showable = true ∧ d.depth ≤ 20 ∧ d.shown.length ≤ 20000 ∧ (d.hasDict = true → sysModules ∉ as)
/-- it says True, and leaves all that was -/
def spRi (K : PySem.W.Frag) (C : Nat → Addr) : Sp := fun vs H Q _ => ∃ l as v, vs = [.ref l, v] ∧ H l = some (.lst (as.map .ref)) ∧ Row C H v (List.range 18) as ∧ Shows K H v ∧ ∀ H', Same H H' → Q (.bl true) H'
theorem scRi : FnScope ["_law_errors", "_law_given", "_law_error", "_law_at"] ["_law_errors", "_law_given"] (defScope sRi) := ⟨rfl, rfl, rfl, by decide +kernel, rfl, by decide +kernel, by decide +kernel⟩
mutual
theorem Sh.mono {K : PySem.W.Frag} {H H' : Hp} (s : Same H H') : ∀ {v : V} {d : PyData} {as : List Addr}, Sh K H v d as → Sh K H' v d as
  | _, _, _, .non => .non
  | _, _, _, .bl b => .bl b
  | _, _, _, .int i => .int i
  | _, _, _, .str x => .str x
  | _, _, _, .lst h t => .lst (s.seq h) (Shs.mono s t)
  | _, _, _, .tup h t => .tup (by
      rcases h with (h | ⟨o, h⟩) | h
      · exact .inl (.inl (s _ _ h))
      · exact .inl (.inr ⟨o, s _ _ h⟩)
      · exact .inr h) (Shs.mono s t)
  | _, _, _, .dK h t => .dK (by
      rcases h with h | ⟨o, h⟩
      · exact .inl (s _ _ h)
      · exact .inr ⟨o, s _ _ h⟩) (Shs.mono s t)
theorem Shs.mono {K : PySem.W.Frag} {H H' : Hp} (s : Same H H') : ∀ {v : List V} {d : List PyData} {as : List Addr}, Shs K H v d as → Shs K H' v d as
  | _, _, _, .nil => .nil
  | _, _, _, .cons h t => .cons (Sh.mono s h) (Shs.mono s t)
end
theorem row_at {C : Nat → Addr} {H : Hp} {v : V} : ∀ {n : Nat} {as : List Addr} {i : Nat} {a : Addr}, Row C H v (List.range n) as → i < n → as[i]? = some a → ErAt H a (C i) (fld i) v := by
  have gen : ∀ {l : List Nat} {as : List Addr}, Row C H v l as → ∀ (i k : Nat) (a : Addr), l[i]? = some k → as[i]? = some a → ErAt H a (C k) (fld k) v := by
    intro l as r
    induction r with
    | nil => intro i k a h; simp at h
    | cons h _ ih =>
      intro i k a h1 h2
      cases i with
      | zero => simp at h1 h2; subst h1; subst h2; exact h
      | succ i => exact ih i k a (by simpa using h1) (by simpa using h2)
  intro n as i a r hi e
  exact gen r i i a (List.getElem?_range hi) e
/-- at ps, none of them D: lists of the numbers l, one each -/
abbrev KP (H : Hp) (D : Addr) (l : List Nat) (ps : List Addr) : Prop := Paired (fun (i : Nat) p => H p = some (.lst [.int (i : Nat)]) ∧ p ≠ D) l ps
theorem KP.step {H H3 : Hp} {D : Addr} {o : HO} {l : List Nat} {ps : List Addr} (h : KP H D l ps) (s : Same H H3) : KP (upd H3 D o) D l ps := Paired.mapP h fun i p q => ⟨by rw [upd_ne q.2]; exact s _ _ q.1, q.2⟩
theorem KP.mono {H H3 : Hp} {D : Addr} {l : List Nat} {ps : List Addr} (h : KP H D l ps) (s : Same H H3) : KP H3 D l ps := Paired.mapP h fun i p q => ⟨s _ _ q.1, q.2⟩
theorem KP.snoc {H : Hp} {D : Addr} {i : Nat} {p : Addr} : ∀ {l : List Nat} {ps : List Addr}, KP H D l ps → H p = some (.lst [.int (i : Nat)]) → p ≠ D → KP H D (l ++ [i]) (ps ++ [p])
  | _, _, .nil, h, n => .cons ⟨h, n⟩ .nil
  | _, _, .cons a t, h, n => .cons a (KP.snoc t h n)
theorem KP.shs {K : PySem.W.Frag} {H : Hp} {D : Addr} : ∀ {l : List Nat} {ps : List Addr}, KP H D l ps → ∃ ax, Shs K H (ps.map .ref) (l.map fun i => .list [.int (i : Nat)]) ax
  | _, _, .nil => ⟨_, .nil⟩
  | _, _, .cons a t => by
    obtain ⟨ax, q⟩ := KP.shs t
    exact ⟨_, .cons (.lst (SqL.of a.1) (.cons (.int _) .nil)) q⟩
theorem KP.len {H : Hp} {D : Addr} {l : List Nat} {ps : List Addr} (h : KP H D l ps) : ps.length = l.length := (Paired.length h).symm
theorem shs_rep {K : PySem.W.Frag} {H : Hp} {v : V} {d : PyData} {as : List Addr} (h : Sh K H v d as) : ∀ n : Nat, ∃ bs, Shs K H (List.replicate n v) (List.replicate n d) bs ∧ ∀ b ∈ bs, b ∈ as
  | 0 => ⟨[], .nil, fun _ h => nomatch h⟩
  | n + 1 => by
    obtain ⟨bs, q, hb⟩ := shs_rep h n
    exact ⟨_, .cons h q, fun b hb2 => (List.mem_append.mp hb2).elim id (hb b)⟩
theorem show_rep (d : PyData) (h : d.showable = true) : ∀ n, PyData.showableAll (List.replicate n d) = true
  | 0 => rfl
  | n + 1 => by
    rw [List.replicate_succ]
    show (d.showable && PyData.showableAll (List.replicate n d)) = true
    rw [h, show_rep d h n]
    rfl
theorem depth_rep (d : PyData) : ∀ n, PyData.depthAll (List.replicate n d) ≤ d.depth
  | 0 => Nat.zero_le _
  | n + 1 => by
    rw [List.replicate_succ]
    show max d.depth (PyData.depthAll (List.replicate n d)) ≤ d.depth
    have := depth_rep d n
    omega
theorem shown_rep (d : PyData) : ∀ n, PyData.shownAll (List.replicate n d) = List.replicate n d.shown
  | 0 => rfl
  | n + 1 => by
    rw [List.replicate_succ, List.replicate_succ]
    show d.shown :: PyData.shownAll (List.replicate n d) = _
    rw [shown_rep d n]
theorem dict_rep (d : PyData) : ∀ n, PyData.hasDictAll (List.replicate n d) = true → d.hasDict = true
  | 0, h => by cases h
  | n + 1, h => by
    rw [List.replicate_succ] at h
    have h' : (d.hasDict || PyData.hasDictAll (List.replicate n d)) = true := h
    rcases Bool.or_eq_true_iff.mp h' with z | z
    · exact z
    · exact dict_rep d n z
theorem sum_rep (k : Nat) : ∀ n, ((List.replicate n k).sum : Nat) = n * k
  | 0 => by simp
  | n + 1 => by rw [List.replicate_succ, List.sum_cons, sum_rep k n, Nat.succ_mul]; omega
theorem wr_rep {d : PyData} {as bs : List Addr} {p : Addr} (h : d.showable = true) (hd : d.depth ≤ 20) (hl : d.shown.length ≤ 20000) (hm : d.hasDict = true → sysModules ∉ as) (hp : p ≠ sysModules) (hb : ∀ b ∈ bs, b ∈ as) : Wr (.list (List.replicate 18 d)) (p :: bs) := by
  refine ⟨show_rep d h 18, ?_, ?_, fun z => ?_⟩
  · show PyData.depthAll (List.replicate 18 d) + 1 ≤ 50
    have := depth_rep d 18
    omega
  · show (listText (PyData.shownAll (List.replicate 18 d))).length ≤ sizeLine
    rw [shown_rep]
    have h1 := textFrom_len_le (List.replicate 18 d.shown) 0 "["
    rw [List.map_replicate, sum_rep, List.length_replicate] at h1
    show (textFrom 0 "[" (List.replicate 18 d.shown) ++ "]").length ≤ sizeLine
    rw [strLen_append, sizeLine_eq]
    have e1 : (("[" : Str)).length = 1 := by decide +kernel
    have e2 : (("]" : Str)).length = 1 := by decide +kernel
    omega
  · intro hs
    rcases List.mem_cons.mp hs with q | q
    · exact hp q.symm
    · exact hm (dict_rep d 18 z) (hb _ q)
section
variable {P : Program} {w : World} {K : PySem.W.Frag} {mg : Str → Option Value} {base : Heap} {C I : Nat → Addr} {fdI : Nat → FuncData} {S : Addr}
theorem ok_ri {f fK fF : Addr} {fd dK dF : FuncData} (F : Fun K "_law_right" "_law_right" sRi f fd) (T : T1 P w K mg base C I fdI S) (GK : FnOk P w K mg base CX0 2 fK dK ["_law_error"] (spKi C)) (mK : mg "_law_kinds" = some (.ref fK)) (kK : PySem.W.keepIn K (.ref fK) = true) (bK : Binds K dK ["_law_error"] [])
    (GF : FnOk P w K mg base CX0 2 fF dF ["_law_errors"] (spFi C)) (mF : mg "_law_fields" = some (.ref fF)) (kF : PySem.W.keepIn K (.ref fF) = true) (bF : Binds K dF ["_law_errors"] []) : FnG P w K mg base CX0 3 f fd ["_law_errors", "_law_given"] (spRi K C) := by
  refine okG F scRi (fun vs H Q E h => ?_) fun cdv A outer s H vs Q E hg hr h => ?_
  · obtain ⟨l, as, v, rfl, _⟩ := h
    rfl
  · obtain ⟨l, as, v, rfl, hl, r, sh, q⟩ := h
    have hu := hr.units
    refine ⟨_, pss_cons (ps_if (pt_cmpR (Vf.op_neD hu)
        (pe_lc (own := [("_law_error", 2)]) (g := gName 2) (tt := tYes) (te := tCall (spKi C) [] E0 (tCons (tVar 2) tNil)) rfl scRi.nd (pi_list (pv 0)) (blkOk_by (N := ["_law_errors", "_law_given", "_law_error", "_law_at"]) (sc := defScope sRi) (by decide +kernel)) (fun _ _ _ _ _ => pg_name (i := 2) scRi.nd rfl (Or.inl rfl)) (fun _ _ _ _ _ => pts_nil) (fun _ _ _ _ _ => pe_call GK hr rfl mK kK bK .nil pass0 (pa_cons (pv 2) pa_nil)))
        (pe_lc (own := [("_law_at", 3)]) (g := gName 3) (tt := tYes) (te := tLst (tCons (tVar 3) tNil)) rfl scRi.nd (pi_range1 (by rfl) T.nRng (pa_cons pe_int pa_nil)) (blkOk_by (N := ["_law_errors", "_law_given", "_law_error", "_law_at"]) (sc := defScope sRi) (by decide +kernel)) (fun _ _ _ _ _ => pg_name (i := 3) scRi.nd rfl (Or.inl rfl)) (fun _ _ _ _ _ => pts_nil) (fun _ _ _ _ _ => pe_lst (pa_cons (pv 3) pa_nil))) (nomark _)) (pss_one (ps_ret pe_bl)) pss_nil)
      (pss_one (ps_ret (pe_cmpR op_eq (pe_callB (call_reprD hg hu) (by rfl) T.nRep boot_repr (pa_cons (pe_call GF hr rfl mF kF bF .nil pass0 (pa_cons (pv 0) pa_nil)) pa_nil)) (pe_callB (call_reprD hg hu) (by rfl) T.nRep boot_repr (pa_cons (pe_op op_repF (pe_lst (pa_cons (pv 1) pa_nil)) pe_int) pa_nil)) (nomark _)))), ?_⟩
    have len : as.length = 18 := by rw [row_len r]; rfl
    -- the kinds
    refine ⟨_, rfl, l, rfl, ⟨_, SqL.of hl⟩, fun D hD => ?_⟩
    have sD : Same H (upd H D (.lst [])) := same_new hD
    refine lc_list (xs := as.map V.ref) (fun j H' => Same H H' ∧ ∃ ps, H' D = some (.lst (ps.map .ref)) ∧ KP H' D (List.range j) ps) ⟨sD, [], upd_same, .nil⟩ (fun i H' _ hP => SqL.of (hP.1 _ _ hl)) (fun i x H' hx hP => ?_) fun H1 hP => ?_
    · obtain ⟨s2, ps, d2, kp⟩ := hP
      have n2 := kp.len
      rw [List.length_range] at n2
      rw [List.getElem?_map] at hx
      cases e : as[i]? with
      | none => rw [e] at hx; cases hx
      | some a =>
        rw [e] at hx
        cases hx
        have hi : i < 18 := by rw [← len]; exact (List.getElem?_eq_some_iff.mp e).1
        have ea := row_at r hi e
        refine ⟨rfl, ?_⟩
        show tCall (spKi C) [] E0 (tCons (tVar 2) tNil) _ H' (fun y H4 => ∃ acc, H4 D = some (.lst acc) ∧ acc.length < sizeLine ∧ _)
        refine ⟨_, rfl, a, i, rfl, by omega, (ea.mono s2).isE, fun p H3 hp s3 d3 => ?_⟩
        have pD : p ≠ D := fun z => by rw [z, d2] at hp; cases hp
        refine ⟨_, s3 _ _ d2, by rw [List.length_map, n2, sizeLine_eq]; omega, fun b o hb => ?_, ps ++ [p], by rw [upd_same, List.map_append]; rfl, ?_⟩
        · rw [upd_ne (ne_of_none hb hD)]
          exact s3 _ _ (s2 _ _ hb)
        · rw [List.range_succ]
          exact (kp.step s3).snoc (by rw [upd_ne pD]; exact d3) pD
    · obtain ⟨s2, ps, d2, kp⟩ := hP
      rw [List.length_map, len] at kp
      -- the numbers
      refine ⟨18, rfl, by decide, by decide, fun D2 hD2 => ?_⟩
      have sD2 : Same H1 (upd H1 D2 (.lst [])) := same_new hD2
      refine lc_range (lo := 0) (n := 18) (fun j H' => Same H1 H' ∧ ∃ qs, H' D2 = some (.lst (qs.map .ref)) ∧ KP H' D2 (List.range j) qs) ⟨sD2, [], upd_same, .nil⟩ (fun j H' hj hP => ?_) fun H2 hP => ?_
      · obtain ⟨s3, qs, d3, kq⟩ := hP
        have n3 := kq.len
        rw [List.length_range] at n3
        refine ⟨rfl, ?_⟩
        show tLst (tCons (tVar 3) tNil) _ H' (fun y H4 => ∃ acc, H4 D2 = some (.lst acc) ∧ acc.length < sizeLine ∧ (Same H1 (upd H4 D2 (.lst (acc ++ [y]))) ∧ ∃ qs : List Addr, (upd H4 D2 (.lst (acc ++ [y]))) D2 = some (.lst (qs.map V.ref)) ∧ KP (upd H4 D2 (.lst (acc ++ [y]))) D2 (List.range (j + 1)) qs))
        refine ⟨_, rfl, (by show 1 ≤ sizeLine; decide), fun p hp => ?_⟩
        have pD : p ≠ D2 := fun z => by rw [z, d3] at hp; cases hp
        have sp := same_new (o := .lst [.int (0 + (j : Int))]) hp
        refine ⟨_, sp _ _ d3, by rw [List.length_map, n3, sizeLine_eq]; omega, fun b o hb => ?_, qs ++ [p], by rw [upd_same, List.map_append]; rfl, ?_⟩
        · rw [upd_ne (ne_of_none hb hD2)]
          exact sp _ _ (s3 _ _ hb)
        · rw [List.range_succ]
          exact (kq.step sp).snoc (by rw [upd_ne pD, upd_same, Int.zero_add]) pD
      · obtain ⟨s3, qs, d3, kq⟩ := hP
        obtain ⟨ax, h1⟩ := (kp.mono s3).shs (K := K)
        obtain ⟨bx, h2⟩ := kq.shs (K := K)
        refine ⟨.list ((List.range 18).map fun i => .list [.int (i : Nat)]), .list ((List.range 18).map fun i => .list [.int (i : Nat)]), _, _, .lst (SqL.of (s3 _ _ d2)) h1, .lst (SqL.of d3) h2, by decide +kernel, by decide +kernel, ?_⟩
        have ev : PyData.eqv (.list ((List.range 18).map fun i => .list [.int (i : Nat)])) (.list ((List.range 18).map fun i => .list [.int (i : Nat)])) = true := by decide +kernel
        refine ⟨_, rfl, ?_⟩
        rw [ev]
        refine iteF ?_
        -- the fields
        obtain ⟨d, as0, shv, hsw, hdp, hln, hnm⟩ := sh
        have sH2 : Same H H2 := s2.trans s3
        refine ⟨_, rfl, l, as, v, rfl, sH2 _ _ hl, r.mono sH2, fun p H3 hp pm s4 d4 => ?_⟩
        have sH3 := sH2.trans s4
        obtain ⟨bs, hb, hin⟩ := shs_rep (Sh.mono sH3 shv) 18
        refine ⟨.ref p, .list (List.replicate 18 d), p :: bs, rfl, .lst (SqL.of d4) hb, wr_rep hsw hdp hln hnm pm hin, ?_⟩
        refine ⟨_, rfl, (by show 1 ≤ sizeLine; decide), fun g hg2 => ⟨g, 18, [v], rfl, rfl, upd_same, by decide, by decide, (show 1 * 18 ≤ sizeLine by decide), fun p2 hp2 pm2 => ?_⟩⟩
        have s5 := sH3.trans ((same_new (o := .lst [v]) hg2).trans (same_new (o := .lst (List.replicate (18 : Int).toNat [v]).flatten) hp2))
        obtain ⟨cs, hc, hin2⟩ := shs_rep (Sh.mono s5 shv) 18
        refine ⟨.ref p2, .list (List.replicate 18 d), p2 :: cs, rfl, .lst (SqL.of upd_same) hc, wr_rep hsw hdp hln hnm pm2 hin2, rfl, ?_⟩
        have ed : decide (V.str (PyData.list (List.replicate 18 d)).shown = V.str (PyData.list (List.replicate 18 d)).shown) = true := decide_eq_true rfl
        rw [ed]
        exact q _ s5
end
end L2.Er

/-! # law k01, f: what is drawn from the script -/
namespace L2.Er
open PySem PySem.Spec PyProof.Rows L2.Vf
abbrev sCe : Stmt := top 22
abbrev sHa : Stmt := top 23
abbrev sGe : Stmt := top 24
abbrev sRa : Stmt := top 25
def spCe (K : PySem.W.Frag) : Sp := fun vs H Q _ => ∃ (a : Addr) (ns : List Int), vs = [.ref a, .int 0] ∧ SqL K H a (ns.map V.int) ∧ ∀ n : Int, Q (.int n) H
def spHa : Sp := fun vs H Q _ => ∃ s i : Int, vs = [.int s, .int i] ∧ 0 ≤ s ∧ s < 2147483648 ∧ 0 ≤ i ∧ i < 1000000000 ∧ ∀ n : Int, Q (.int n) H
def spGe (K : PySem.W.Frag) : Sp := fun vs H Q _ => ∃ (a : Addr) (ns : List Int), vs = [.ref a, .int 0] ∧ SqL K H a (ns.map V.int) ∧ ∀ (p : Addr) (x y : Int), H p = none → 0 ≤ y → y < 2147483648 → Q (.ref p) (upd H p (.lst [.int x, .int y, .int 0]))
def spRa : Sp := fun vs H Q _ => ∃ (g : Addr) (x y : Int), vs = [.ref g, .int 1000000000000] ∧ H g = some (.lst [.int x, .int y, .int 0]) ∧ 0 ≤ y ∧ y < 2147483648 ∧ ∀ (n x' c' : Int), 0 ≤ n → n < 1000000000000 → Q (.int n) (upd H g (.lst [.int x', .int y, .int c']))
theorem upd_self {H : Hp} {g : Addr} {o : HO} (h : H g = some o) : upd H g o = H := by
  funext b
  by_cases e : b = g
  · rw [e, upd_same, h]
  · rw [upd_ne e]
theorem boot_max : bootBuiltins "max" = some (.builtin "max") := by decide +kernel
section
variable {P : Program} {w : World} {K : PySem.W.Frag} {mg : Str → Option Value} {base : Heap} {C I : Nat → Addr} {fdI : Nat → FuncData} {S : Addr}
theorem scCe : FnScope ["_law_script", "_law_index"] ["_law_script", "_law_index"] (defScope sCe) := ⟨rfl, rfl, rfl, by decide +kernel, rfl, by decide +kernel, by decide +kernel⟩
theorem ok_ce {f : Addr} {fd : FuncData} (F : Fun K "_law_cell" "_law_cell" sCe f fd) (T : T1 P w K mg base C I fdI S) : FnOk P w K mg base CX0 1 f fd ["_law_script", "_law_index"] (spCe K) := by
  refine F.ok scCe (fun vs H Q E h => ?_) fun cdv A outer s H vs Q E hr h => ?_
  · obtain ⟨a, ns, rfl, _⟩ := h
    rfl
  · obtain ⟨a, ns, rfl, hS, q⟩ := h
    refine ⟨_, pss_cons (ps_if (pt_cmpR op_lt (pv 1) (pe_callB call_len_seq (by rfl) T.nLen PySem.boot_len (pa_cons (pv 0) pa_nil)) (nomark _)) (pss_one (ps_ret (pe_ix ix_list (pv 0) (pv 1) (fun _ _ => rfl)))) pss_nil) (pss_one (ps_ret pe_int)), ?_⟩
    refine ⟨_, rfl, _, rfl, a, _, rfl, .inl hS, _, _, rfl, rfl, _, rfl, ?_⟩
    rw [List.length_map]
    refine ite2 (fun h => ?_) fun h => q 0
    have hl : 0 < ns.length := by simpa using h
    refine ⟨_, rfl, _, rfl, a, _, 0, .int ns[0], rfl, rfl, hS, ?_, q _⟩
    exact atI_nat (j := 0) (by rw [List.getElem?_map, List.getElem?_eq_getElem hl]; rfl)
theorem scHa : FnScope ["_law_seed", "_law_index", "_law_mixed"] ["_law_seed", "_law_index"] (defScope sHa) := ⟨rfl, rfl, rfl, by decide +kernel, rfl, by decide +kernel, by decide +kernel⟩
theorem ok_ha {f : Addr} {fd : FuncData} (F : Fun K "_law_hash" "_law_hash" sHa f fd) (T : T1 P w K mg base C I fdI S) : FnOk P w K mg base CX0 1 f fd ["_law_seed", "_law_index"] spHa := by
  refine F.ok scHa (fun vs H Q E h => ?_) fun cdv A outer s H vs Q E hr h => ?_
  · obtain ⟨a, ns, rfl, _⟩ := h
    rfl
  · obtain ⟨s0, i, rfl, h1, h2, h3, h4, q⟩ := h
    refine ⟨_, pss_cons (ps_set (i := 2) scHa.nd rfl (.inl rfl) (pe_op op_mod (pe_callTy call_int1 (by rfl) T.nInt PyProof.Rows.boot_int (pa_cons (pe_op op_add (pe_op op_add (pe_op op_add (pe_op op_mul (pv 0) pe_int) (pe_op op_mul (pe_op op_mul pe_int (pv 1)) (pv 1))) (pv 1)) pe_int) pa_nil)) pe_int))
      (pss_cons (ps_set (i := 2) scHa.nd rfl (.inl rfl) (pe_op op_mod (pe_callTy call_int1 (by rfl) T.nInt PyProof.Rows.boot_int (pa_cons (pe_op op_add (pe_op op_mul (pv 2) (pv 2)) pe_int) pa_nil)) pe_int))
      (pss_one (ps_ret (pe_op op_mod (pe_callTy call_int1 (by rfl) T.nInt PyProof.Rows.boot_int (pa_cons (pe_op op_mul (pv 2) pe_int) pa_nil)) pe_int)))), ?_⟩
    refine ⟨_, rfl, _, _, rfl, rfl, .inl ⟨by omega, by omega⟩, _, rfl, _, _, rfl, rfl, .inl ⟨by decide, by decide⟩, _, rfl, _, _, rfl, rfl, .inr ⟨by omega, by omega⟩, _, _, rfl, rfl, _, rfl, _, _, rfl, rfl, _, _, rfl, rfl, .inl ⟨_, rfl, _, _, rfl, rfl, (by show (0 : Int) < 2147483647; decide), ?_⟩⟩
    have b1 := Int.emod_nonneg (s0 * 1103515245 + 7919 * i * i + i + 1) (show (2147483647 : Int) ≠ 0 by decide)
    have b2 := Int.emod_lt_of_pos (s0 * 1103515245 + 7919 * i * i + i + 1) (show (0 : Int) < 2147483647 by decide)
    generalize (s0 * 1103515245 + 7919 * i * i + i + 1) % 2147483647 = m at b1 b2
    refine ⟨_, rfl, _, rfl, _, _, rfl, rfl, .inl ⟨by omega, by omega⟩, _, _, rfl, rfl, .inl ⟨_, rfl, _, _, rfl, rfl, (by show (0 : Int) < 2147483629; decide), ?_⟩⟩
    refine ⟨_, rfl, _, _, rfl, rfl, .inr ⟨by decide, by decide⟩, .inl ⟨_, rfl, _, _, rfl, rfl, (by show (0 : Int) < 2147483587; decide), q _⟩⟩
theorem scGe : FnScope ["_law_script", "_law_index", "_law_seed"] ["_law_script", "_law_index"] (defScope sGe) := ⟨rfl, rfl, rfl, by decide +kernel, rfl, by decide +kernel, by decide +kernel⟩
theorem ok_ge {f fC : Addr} {fd dC : FuncData} (F : Fun K "_law_generator" "_law_generator" sGe f fd) (T : T1 P w K mg base C I fdI S) (GC : FnOk P w K mg base CX0 1 fC dC ["_law_script", "_law_index"] (spCe K)) (mC : mg "_law_cell" = some (.ref fC)) (kC : PySem.W.keepIn K (.ref fC) = true) (bC : Binds K dC ["_law_script", "_law_index"] []) :
    FnOk P w K mg base CX0 2 f fd ["_law_script", "_law_index"] (spGe K) := by
  refine F.ok scGe (fun vs H Q E h => ?_) fun cdv A outer s H vs Q E hr h => ?_
  · obtain ⟨a, ns, rfl, _⟩ := h
    rfl
  · obtain ⟨a, ns, rfl, hS, q⟩ := h
    refine ⟨_, pss_cons (ps_set (i := 2) scGe.nd rfl (.inl rfl) (pe_call GC hr rfl mC kC bC .nil pass0 (pa_cons (pv 0) (pa_cons (pv 1) pa_nil))))
      (pss_one (ps_ret (pe_lst (pa_cons (pe_op op_mod (pe_callTy call_int1 (by rfl) T.nInt PyProof.Rows.boot_int (pa_cons (pe_callB (call_max2 rfl) (by rfl) T.nMax boot_max (pa_cons (pe_op op_sub (pv 2) (pe_op op_powW pe_int pe_int)) (pa_cons pe_int pa_nil))) pa_nil)) (pe_op op_powW (pe_op op_powW pe_int pe_int) pe_int))
        (pa_cons (pe_op op_mod (pe_callTy call_int1 (by rfl) T.nInt PyProof.Rows.boot_int (pa_cons (pv 2) pa_nil)) pe_int) (pa_cons (pe_op op_mul pe_int (pv 1)) pa_nil)))))), ?_⟩
    refine ⟨_, rfl, _, rfl, a, ns, rfl, hS, fun n => ?_⟩
    refine ⟨_, rfl, _, _, rfl, rfl, ⟨by decide, by decide +kernel⟩, _, _, rfl, rfl, _, _, rfl, .inl ⟨_, rfl, _, _, rfl, rfl, ⟨by decide, by decide +kernel⟩, _, _, rfl, rfl, ⟨by decide, by decide +kernel⟩, _, _, rfl, rfl, ?_, ?_⟩⟩
    · show (0 : Int) < (10 ^ Int.toNat 60) ^ Int.toNat 10
      decide +kernel
    · refine ⟨_, rfl, .inl ⟨_, rfl, _, _, rfl, rfl, (by show (0 : Int) < 2147483647; decide), _, rfl, _, _, rfl, rfl, .inl ⟨by decide, by decide⟩, (by show 3 ≤ sizeLine; decide), fun p hp => ?_⟩⟩
      exact q p _ _ hp (Int.emod_nonneg _ (by decide)) (Int.lt_of_lt_of_le (Int.emod_lt_of_pos n (show (0 : Int) < 2147483647 by decide)) (by decide))
theorem scRa : FnScope ["_law_generator_here", "_law_bound", "_law_drawn", "_law_turn"] ["_law_generator_here", "_law_bound"] (defScope sRa) := ⟨rfl, rfl, rfl, by decide +kernel, rfl, by decide +kernel, by decide +kernel⟩
theorem ok_ra {f fH : Addr} {fd dH : FuncData} (F : Fun K "_law_random" "_law_random" sRa f fd) (T : T1 P w K mg base C I fdI S) (GH : FnOk P w K mg base CX0 1 fH dH ["_law_seed", "_law_index"] spHa) (mH : mg "_law_hash" = some (.ref fH)) (kH : PySem.W.keepIn K (.ref fH) = true) (bH : Binds K dH ["_law_seed", "_law_index"] []) :
    FnOk P w K mg base CX0 2 f fd ["_law_generator_here", "_law_bound"] spRa := by
  refine F.ok scRa (fun vs H Q E h => ?_) fun cdv A outer s H vs Q E hr h => ?_
  · obtain ⟨g, x, y, rfl, _⟩ := h
    rfl
  · obtain ⟨g, x, y, rfl, hg, h1, h2, q⟩ := h
    refine ⟨_, pss_cons (ps_if (pt_cmpR op_gt (pe_ix ix_list (pv 0) pe_int (fun _ _ => rfl)) pe_int (nomark _))
        (pss_cons (ps_set (i := 2) scRa.nd rfl (.inl rfl) (pe_op op_mod (pe_callTy call_int1 (by rfl) T.nInt PyProof.Rows.boot_int (pa_cons (pe_ix ix_list (pv 0) pe_int (fun _ _ => rfl)) pa_nil)) (pv 1)))
        (pss_cons (ps_asg (pe_op op_fdivW (pe_ix ix_list (pv 0) pe_int (fun _ _ => rfl)) (pv 1)) (pg_sub (pv 0) pe_int set_list))
        (pss_one (ps_ret (pv 2))))) pss_nil)
      (pss_cons (ps_set (i := 2) scRa.nd rfl (.inl rfl) pe_int)
      (pss_cons (ps_for PassesOwn.never rfl (pi_range1 (by rfl) T.nRng (pa_cons (pe_op op_add pe_int (pe_op op_fdiv (pe_bits (pv 1)) pe_int)) pa_nil)) (pg_name (i := 3) scRa.nd rfl (Or.inl rfl))
        (pss_cons (ps_asg (pe_op op_add (pe_ix ix_list (pv 0) pe_int (fun _ _ => rfl)) pe_int) (pg_sub (pv 0) pe_int set_list))
        (pss_one (ps_set (i := 2) scRa.nd rfl (.inl rfl) (pe_op op_add (pe_op op_mul (pv 2) pe_int) (pe_call GH hr rfl mH kH bH .nil pass0 (pa_cons (pe_ix ix_list (pv 0) pe_int (fun _ _ => rfl)) (pa_cons (pe_ix ix_list (pv 0) pe_int (fun _ _ => rfl)) pa_nil))))))))
      (pss_one (ps_ret (pe_op op_mod (pe_callTy call_int1 (by rfl) T.nInt PyProof.Rows.boot_int (pa_cons (pv 2) pa_nil)) (pv 1)))))), ?_⟩
    refine ⟨_, rfl, g, _, 0, .int x, rfl, rfl, SqL.of hg, rfl, _, _, rfl, rfl, _, rfl, ?_⟩
    refine ite2 (fun _ => ?_) fun _ => ?_
    · refine ⟨_, rfl, g, _, 0, .int x, rfl, rfl, SqL.of hg, rfl, .inl ⟨_, rfl, _, rfl, _, _, rfl, rfl, (by show (0 : Int) < 1000000000000; decide), ?_⟩⟩
      refine ⟨_, rfl, g, _, 0, .int x, rfl, rfl, SqL.of hg, rfl, _, rfl, _, _, rfl, rfl, ⟨by decide, by decide +kernel⟩, ?_⟩
      refine ⟨_, rfl, g, _, 0, 0, rfl, rfl, hg, rfl, ?_⟩
      exact ⟨_, rfl, q _ _ _ (Int.emod_nonneg x (by decide)) (Int.emod_lt_of_pos x (by decide))⟩
    · have hn : (1 + ((Builtin.Int.intBits 1000000000000 : Nat) : Int) / 30) = 2 := by decide +kernel
      refine ⟨_, rfl, _, rfl, _, _, rfl, rfl, ⟨by decide, by decide⟩, _, _, rfl, rfl, 2, congrArg (fun z => [V.int z]) hn, by decide, by decide, ?_⟩
      refine for_range (lo := 0) (n := 2) (fun i σ H' => ∃ (d : Int) (t : Option V), σ = [some (.ref g), some (.int 1000000000000), some (.int d), t] ∧ H' = upd H g (.lst [.int x, .int y, .int (i : Nat)])) ⟨0, none, rfl, ?_⟩ (fun i σ H' hi hP => ?_) fun σ H' hP => ?_
      · exact (upd_self hg).symm
      · obtain ⟨d, t, rfl, rfl⟩ := hP
        refine ⟨_, rfl, g, _, 2, .int i, rfl, rfl, SqL.of upd_same, rfl, _, _, rfl, rfl, _, rfl, g, _, 2, 2, rfl, rfl, upd_same, rfl, ?_⟩
        refine ⟨_, rfl, _, _, rfl, rfl, .inr ⟨by decide, by decide⟩, _, rfl, g, _, 1, .int y, rfl, rfl, SqL.of upd_same, rfl, _, rfl, g, _, 2, _, rfl, rfl, SqL.of upd_same, rfl, y, (i : Int) + 1, rfl, h1, h2, by omega, by omega, fun n => ?_⟩
        refine ⟨_, _, rfl, rfl, _, _, rfl, ?_⟩
        rw [upd_upd]
        rfl
      · obtain ⟨d, t, rfl, rfl⟩ := hP
        exact ⟨_, rfl, .inl ⟨_, rfl, _, rfl, _, _, rfl, rfl, (by show (0 : Int) < 1000000000000; decide), q _ _ _ (Int.emod_nonneg d (by decide)) (Int.emod_lt_of_pos d (by decide))⟩⟩
end
end L2.Er

/-! # law k01, g: the law's own def, as a term -/
namespace L2.Er
open PySem PySem.Spec PyProof.Rows L2.Vf
abbrev sLa : Stmt := top 32
/-- the other defs, as they stand -/
structure T2 (P : Program) (w : World) (K : PySem.W.Frag) (mg : Str → Option Value) (base : Heap) (C : Nat → Addr) (fR fG fP fN fB fK fT : Addr) (dR dG dP dN dB dK dT : FuncData) : Prop where
  gR : FnOk P w K mg base CX0 2 fR dR ["_law_generator_here", "_law_bound"] spRa
  gG : FnOk P w K mg base CX0 2 fG dG ["_law_script", "_law_index"] (spGe K)
  gP : FnOk P w K mg base CX0 3 fP dP ["_law_given"] (spPl C)
  gN : FnOk P w K mg base CX0 3 fN dN ["_law_given"] (spPl C)
  gB : FnOk P w K mg base CX0 3 fB dB [] (spBa C)
  gK : FnOk P w K mg base CX0 2 fK dK ["_law_error"] (spKi C)
  gT : FnG P w K mg base CX0 3 fT dT ["_law_errors", "_law_given"] (spRi K C)
  mR : mg "_law_random" = some (.ref fR)
  mG : mg "_law_generator" = some (.ref fG)
  mP : mg "_law_placed" = some (.ref fP)
  mN : mg "_law_named" = some (.ref fN)
  mB : mg "_law_bare" = some (.ref fB)
  mK : mg "_law_kinds" = some (.ref fK)
  mT : mg "_law_right" = some (.ref fT)
  kR : PySem.W.keepIn K (.ref fR) = true
  kG : PySem.W.keepIn K (.ref fG) = true
  kP : PySem.W.keepIn K (.ref fP) = true
  kN : PySem.W.keepIn K (.ref fN) = true
  kB : PySem.W.keepIn K (.ref fB) = true
  kK : PySem.W.keepIn K (.ref fK) = true
  kT : PySem.W.keepIn K (.ref fT) = true
  bR : Binds K dR ["_law_generator_here", "_law_bound"] []
  bG : Binds K dG ["_law_script", "_law_index"] []
  bP : Binds K dP ["_law_given"] []
  bN : Binds K dN ["_law_given"] []
  bB : Binds K dB [] []
  bK : Binds K dK ["_law_error"] []
  bT : Binds K dT ["_law_errors", "_law_given"] []
def spLa (K : PySem.W.Frag) : Sp := fun vs H Q _ => ∃ (a : Addr) (ns : List Int), vs = [.ref a] ∧ SqL K H a (ns.map V.int) ∧ ∀ H', Q (.bl true) H'
/-- whether a list of errors and what they are to hold is right -/
abbrev tR (K : PySem.W.Frag) (C : Nat → Addr) (a b : TE) : TE := tCall (spRi K C) [] E0 (tCons a (tCons b tNil))
def tChk (K : PySem.W.Frag) (C : Nat → Addr) : TS := tIfS (tOr (tNot (tB (tR K C (tVar 4) (tVar 3)))) (tNot (tB (tR K C (tVar 5) (tVar 3))))) (tRet (tC (.bl false))) tNext
abbrev tIsT (K : PySem.W.Frag) (n : String) : TT := tB (tCB (rIsi K) (tCons (tVar 3) (tCons (tC (.ty n)) tNil)))
def tTurn (K : PySem.W.Frag) (C : Nat → Addr) : TS :=
  tSeq (tPar 4 5 (tCons (tCall (spPl C) [] E0 (tCons (tVar 3) tNil)) (tCons (tCall (spPl C) [] E0 (tCons (tVar 3) tNil)) tNil)))
    (tSeq (tChk K C) (tSeq (tIfS (tIsT K "list") (tDrop (tBM K "list" rAppend (tVar 3) (tCons (tC (.str "more")) tNil))) tNext) (tSeq (tIfS (tIsT K "dict") (sDPut (tVar 3) (tC (.str "more")) (tLstF (tCons (tC (.int 1)) tNil))) tNext) (tChk K C))))
theorem Shows.mono {K : PySem.W.Frag} {H H' : Hp} {v : V} (h : Shows K H v) (s : Same H H') : Shows K H' v := by
  obtain ⟨d, as, h1, h2⟩ := h
  exact ⟨d, as, Sh.mono s h1, h2⟩
/-- all but g stays -/
def Keep (g : Addr) (H H' : Hp) : Prop := ∀ b o, b ≠ g → H b = some o → H' b = some o
theorem Keep.at {g x : Addr} {H H' : Hp} {o og : HO} (h : Keep g H H') (hg : H g = some og) (hx : H x = some o) (n : o ≠ og) : H' x = some o := h x o (ne_of hx hg n) hx
theorem keep_upd {g : Addr} {H : Hp} {o : HO} : Keep g H (upd H g o) := fun b u n e => by
  rw [upd_ne n]
  exact e
theorem Row.keep {C : Nat → Addr} {g : Addr} {H H' : Hp} {og : HO} {v : V} {l : List Nat} {as : List Addr} (r : Row C H v l as) (k : Keep g H H') (hg : H g = some og) (n1 : ∀ a c d, exo a c d ≠ og) (n2 : ∀ a fs, exd a fs ≠ og) : Row C H' v l as :=
  Paired.mapP r fun i a h => by
    obtain ⟨d, h1, h2⟩ := h
    exact ⟨d, k.at hg h1 (n1 _ _ _), k.at hg h2 (n2 _ _)⟩
theorem exo_lst {a c : Addr} {d : Option Addr} {xs : List V} : exo a c d ≠ .lst xs := fun z => by cases (show HO.ext _ = HO.lst xs from z)
theorem exd_lst {a : Addr} {fs : List (Str × V)} {xs : List V} : exd a fs ≠ .lst xs := fun z => by cases (show HO.ext _ = HO.lst xs from z)
theorem exo_dK {a c : Addr} {d : Option Addr} {xs : List (Key × V)} : exo a c d ≠ .dK xs := fun z => by cases (show HO.ext _ = HO.dK xs from z)
theorem exd_dK {a : Addr} {fs : List (Str × V)} {xs : List (Key × V)} : exd a fs ≠ .dK xs := fun z => by cases (show HO.ext _ = HO.dK xs from z)
section
variable {K : PySem.W.Frag} {C : Nat → Addr}
theorem chk_run {D : Ends} {σ : St} {H : Hp} {v : V} {p1 p2 : Addr} {as1 as2 : List Addr} (h3 : σ[3]? = some (some v)) (h4 : σ[4]? = some (some (.ref p1))) (h5 : σ[5]? = some (some (.ref p2))) (e1 : H p1 = some (.lst (as1.map .ref))) (r1 : Row C H v (List.range 18) as1)
    (e2 : H p2 = some (.lst (as2.map .ref))) (r2 : Row C H v (List.range 18) as2) (sh : Shows K H v) (k : ∀ H', Same H H' → D.nx σ H') : tChk K C D σ H := by
  refine ⟨_, h4, _, h3, p1, as1, v, rfl, e1, r1, sh, fun H1 s1 => ⟨true, rfl, iteF ?_⟩⟩
  exact ⟨_, h5, _, h3, p2, as2, v, rfl, s1 _ _ e2, r2.mono s1, sh.mono s1, fun H2 s2 => ⟨true, rfl, iteF (k H2 (s1.trans s2))⟩⟩
/-- what the turn does with v, and what is left of J then -/
inductive Cat (K : PySem.W.Frag) (H : Hp) (J : Hp → Prop) : V → Prop where
  | oth {v : V} {t : Value} (ty : ∀ H1, Same H H1 → TyX K H1 v t) (k1 : PySem.W.kitOne K t (.type "list") = some false) (k2 : PySem.W.kitOne K t (.type "dict") = some false) (j : ∀ H1, Same H H1 → J H1) : Cat K H J v
  | lst {g : Addr} {xs : List V} (e : H g = some (.lst xs)) (l : xs.length ≤ 10) (j : ∀ H1, Same H H1 → Shows K (upd H1 g (.lst (xs ++ [.str "more"]))) (.ref g) ∧ J (upd H1 g (.lst (xs ++ [.str "more"])))) : Cat K H J (.ref g)
  | dct {g : Addr} {kvs : List (Key × V)} (e : H g = some (.dK kvs)) (l : kvs.length ≤ 10)
      (j : ∀ H1 c, Same H H1 → H1 c = none → c ≠ sysModules → Shows K (upd (upd H1 c (.lst [.int 1])) g (.dK (putK kvs (.inr "more") (.ref c)))) (.ref g) ∧ J (upd (upd H1 c (.lst [.int 1])) g (.dK (putK kvs (.inr "more") (.ref c))))) : Cat K H J (.ref g)
theorem kit_ll : PySem.W.kitOne K (.type "list") (.type "list") = some true := kit_ty (by decide +kernel)
theorem kit_ld : PySem.W.kitOne K (.type "list") (.type "dict") = some false := kit_ty (by decide +kernel)
theorem kit_dl : PySem.W.kitOne K (.type "dict") (.type "list") = some false := kit_ty (by decide +kernel)
theorem kit_dd : PySem.W.kitOne K (.type "dict") (.type "dict") = some true := kit_ty (by decide +kernel)
theorem turn_run {D : Ends} {σ : St} {H : Hp} {v : V} {J : Hp → Prop} (hl : σ.length = 6) (sh : Shows K H v) (cat : Cat K H J v) (jS : ∀ H1 H2, J H1 → Same H1 H2 → J H2)
    (k : ∀ x y H', J H' → D.nx (((σ.set 3 (some v)).set 4 (some x)).set 5 (some y)) H') : tTurn K C D (σ.set 3 (some v)) H := by
  have l3 : (σ.set 3 (some v))[3]? = some (some v) := List.getElem?_set_self (by omega)
  refine ⟨_, l3, v, rfl, fun p1 as1 H1 n1 s1 r1 e1 => ⟨_, l3, v, rfl, fun p2 as2 H2 n2 s2 r2 e2 => ⟨_, _, rfl, ?_⟩⟩⟩
  generalize hσ : ((σ.set 3 (some v)).set 4 (some (V.ref p1))).set 5 (some (V.ref p2)) = τ
  have t3 : τ[3]? = some (some v) := by rw [← hσ, List.getElem?_set_ne (by decide), List.getElem?_set_ne (by decide)]; exact l3
  have t4 : τ[4]? = some (some (.ref p1)) := by rw [← hσ, List.getElem?_set_ne (by decide)]; exact List.getElem?_set_self (by rw [List.length_set]; omega)
  have t5 : τ[5]? = some (some (.ref p2)) := by rw [← hσ]; exact List.getElem?_set_self (by rw [List.length_set, List.length_set]; omega)
  have k' : ∀ H', J H' → D.nx τ H' := fun H' j => by rw [← hσ]; exact k _ _ _ j
  have s12 := s1.trans s2
  have np2 : H p2 = none := s1.free n2
  refine chk_run t3 t4 t5 (s2 _ _ e1) (r1.mono s2) e2 r2 (sh.mono s12) fun H3 s3 => ?_
  have s13 := s12.trans s3
  have f1 := s3 _ _ (s2 _ _ e1)
  have f2 := s3 _ _ e2
  have q1 := (r1.mono s2).mono s3
  have q2 := r2.mono s3
  cases cat with
  | oth ty k1 k2 j =>
    refine ⟨_, t3, v, .ty "list", _, _, false, rfl, .ty _, ty _ s13, k1, false, rfl, iteF ?_⟩
    refine ⟨_, t3, v, .ty "dict", _, _, false, rfl, .ty _, ty _ s13, k2, false, rfl, iteF ?_⟩
    exact chk_run t3 t4 t5 f1 q1 f2 q2 (sh.mono s13) fun H4 s4 => k' _ (j _ (s13.trans s4))
  | @lst g xs e l j =>
    have eg := s13 _ _ e
    refine ⟨_, t3, .ref g, .ty "list", _, _, true, rfl, .ty _, .base (.lst eg), kit_ll, true, rfl, iteT ?_⟩
    refine ⟨_, t3, .inl ⟨rfl, _, .inl (.inl eg)⟩, g, xs, _, rfl, rfl, eg, by rw [sizeLine_eq]; omega, ?_⟩
    obtain ⟨sh4, j4⟩ := j H3 s13
    have kp : Keep g H3 (upd H3 g (.lst (xs ++ [.str "more"]))) := keep_upd
    refine ⟨_, t3, .ref g, .ty "dict", _, _, false, rfl, .ty _, .base (.lst upd_same), kit_ld, false, rfl, iteF ?_⟩
    exact chk_run t3 t4 t5 (kp _ _ (fun z => by rw [z, e] at n1; cases n1) f1) (q1.keep kp eg (fun _ _ _ => exo_lst) fun _ _ => exd_lst) (kp _ _ (fun z => by rw [z, e] at np2; cases np2) f2) (q2.keep kp eg (fun _ _ _ => exo_lst) fun _ _ => exd_lst) sh4 fun H4 s4 => k' _ (jS _ _ j4 s4)
  | @dct g kvs e l j =>
    have eg := s13 _ _ e
    refine ⟨_, t3, .ref g, .ty "list", _, _, false, rfl, .ty _, .base (.dK eg), kit_dl, false, rfl, iteF ?_⟩
    refine ⟨_, t3, .ref g, .ty "dict", _, _, true, rfl, .ty _, .base (.dK eg), kit_dd, true, rfl, iteT ?_⟩
    refine ⟨(by show 1 ≤ sizeLine; decide), fun c hc hm => ⟨_, t3, g, _, rfl, DPut.k (k := .inr "more") (same_new hc _ _ eg) (by rw [sizeLine_eq]; omega), ?_⟩⟩
    obtain ⟨sh4, j4⟩ := j H3 c s13 hc hm
    have sc := same_new (o := .lst [.int 1]) hc
    have kp : Keep g (upd H3 c (.lst [.int 1])) (upd (upd H3 c (.lst [.int 1])) g (.dK (putK kvs (.inr "more") (.ref c)))) := keep_upd
    have eg' := sc _ _ eg
    exact chk_run t3 t4 t5 (kp _ _ (fun z => by rw [z, e] at n1; cases n1) (sc _ _ f1)) ((q1.mono sc).keep kp eg' (fun _ _ _ => exo_dK) fun _ _ => exd_dK) (kp _ _ (fun z => by rw [z, e] at np2; cases np2) (sc _ _ f2)) ((q2.mono sc).keep kp eg' (fun _ _ _ => exo_dK) fun _ _ => exd_dK) sh4 fun H4 s4 => k' _ (jS _ _ j4 s4)
end
/-! ### the things given, one a turn -/
def its (n : Int) (a2 a3 a4 a5 a6 a7 a12 : Addr) : List V := [.int n, .int (0 - n), .ref a2, .ref a3, .ref a4, .ref a5, .ref a6, .ref a7, .str "a b", .str "", .bl true, .non, .ref a12]
structure Jv (C : Nat → Addr) (n : Int) (as0 as1 : List Addr) (el e0 e1 L a2 a3 a4 a5 a6 a7 b a12 : Addr) (i : Nat) (H : Hp) : Prop where
  hel : H el = some (.lst [.ref e0, .ref e1])
  h0 : H e0 = some (.lst (as0.map .ref))
  r0 : Row C H (.int n) (List.range 18) as0
  h1 : H e1 = some (.lst (as1.map .ref))
  r1 : Row C H (.str "elder") (List.range 18) as1
  hL : H L = some (.lst (its n a2 a3 a4 a5 a6 a7 a12))
  t2 : H a2 = some (.tup [.int 1, .int 2])
  t3 : H a3 = some (.tup [])
  t12 : H a12 = some (.tup [.str "f", .int 2])
  l4 : i ≤ 4 → H a4 = some (.lst [.int 1])
  l5 : i ≤ 5 → H a5 = some (.lst [])
  d6 : i ≤ 6 → H a6 = some (.dK [])
  d7 : i ≤ 7 → H a7 = some (.dK [(.inr "a", .ref b)]) ∧ H b = some (.lst [.int n])
section
variable {K : PySem.W.Frag} {C : Nat → Addr} {n : Int} {as0 as1 : List Addr} {el e0 e1 L a2 a3 a4 a5 a6 a7 b a12 : Addr} {i : Nat} {H H' : Hp}
theorem Jv.mono (j : Jv C n as0 as1 el e0 e1 L a2 a3 a4 a5 a6 a7 b a12 i H) (s : Same H H') : Jv C n as0 as1 el e0 e1 L a2 a3 a4 a5 a6 a7 b a12 i H' :=
  ⟨s _ _ j.hel, s _ _ j.h0, j.r0.mono s, s _ _ j.h1, j.r1.mono s, s _ _ j.hL, s _ _ j.t2, s _ _ j.t3, s _ _ j.t12, fun h => s _ _ (j.l4 h), fun h => s _ _ (j.l5 h), fun h => s _ _ (j.d6 h), fun h => ⟨s _ _ (j.d7 h).1, s _ _ (j.d7 h).2⟩⟩
theorem Jv.next (j : Jv C n as0 as1 el e0 e1 L a2 a3 a4 a5 a6 a7 b a12 i H) : Jv C n as0 as1 el e0 e1 L a2 a3 a4 a5 a6 a7 b a12 (i + 1) H :=
  ⟨j.hel, j.h0, j.r0, j.h1, j.r1, j.hL, j.t2, j.t3, j.t12, fun h => j.l4 (by omega), fun h => j.l5 (by omega), fun h => j.d6 (by omega), fun h => j.d7 (by omega)⟩
theorem Jv.keep {g : Addr} {og : HO} (j : Jv C n as0 as1 el e0 e1 L a2 a3 a4 a5 a6 a7 b a12 i H) (k : Keep g H H') (hg : H g = some og) (n0 : .lst [.ref e0, .ref e1] ≠ og) (n1 : .lst (as0.map .ref) ≠ og) (n2 : .lst (as1.map .ref) ≠ og) (n3 : .lst (its n a2 a3 a4 a5 a6 a7 a12) ≠ og)
    (nt : ∀ xs, .tup xs ≠ og) (ne1 : ∀ a c d, exo a c d ≠ og) (ne2 : ∀ a fs, exd a fs ≠ og) (c4 : i ≤ 4 → .lst [.int 1] ≠ og) (c5 : i ≤ 5 → .lst [] ≠ og) (c6 : i ≤ 6 → .dK [] ≠ og) (c7 : i ≤ 7 → .dK [(.inr "a", .ref b)] ≠ og) (cb : b ≠ g) :
    Jv C n as0 as1 el e0 e1 L a2 a3 a4 a5 a6 a7 b a12 i H' :=
  ⟨k.at hg j.hel n0, k.at hg j.h0 n1, j.r0.keep k hg ne1 ne2, k.at hg j.h1 n2, j.r1.keep k hg ne1 ne2, k.at hg j.hL n3, k.at hg j.t2 (nt _), k.at hg j.t3 (nt _), k.at hg j.t12 (nt _), fun h => k.at hg (j.l4 h) (c4 h), fun h => k.at hg (j.l5 h) (c5 h), fun h => k.at hg (j.d6 h) (c6 h), fun h => ⟨k.at hg (j.d7 h).1 (c7 h), k _ _ cb (j.d7 h).2⟩⟩
theorem shows_of {v : V} {d : PyData} {as : List Addr} (h : Sh K H v d as) (h1 : d.leavesShort 13 = true) (h2 : d.weight ≤ 100) (h3 : d.showable = true) (h4 : d.depth ≤ 20) (h5 : d.hasDict = true → sysModules ∉ as) : Shows K H v := by
  refine ⟨d, as, h, h3, h4, ?_, h5⟩
  have z := PyData.shown_le 13 (by decide) d h1
  have : (13 + 2) * d.weight ≤ 15 * 100 := Nat.mul_le_mul_left 15 h2
  omega
theorem small_int {n : Int} (h : n.natAbs < 10 ^ 12) : (PyData.int n).leavesShort 13 = true ∧ (PyData.int n).showable = true := by
  refine ⟨decide_eq_true (PyData.shown_int_le h), decide_eq_true ?_⟩
  by_cases z : n.natAbs = 0
  · rw [z]; decide
  · exact (Nat.log2_lt z).mpr (Nat.lt_of_lt_of_le h (by decide +kernel))
end
theorem small_wt {n : Int} (h : n.natAbs < 10 ^ 12) : (PyData.int n).weight ≤ 41 := by
  show (if n == 0 then 0 else n.natAbs.log2 + 1) ≤ 41
  split
  · decide
  · rename_i z
    have z' : n.natAbs ≠ 0 := fun e => z (by simpa using Int.natAbs_eq_zero.mp e)
    have := (Nat.log2_lt z').mpr (Nat.lt_of_lt_of_le h (show 10 ^ 12 ≤ 2 ^ 40 by decide))
    omega
theorem put_ab {b c : Addr} : putK [((Sum.inr "a" : Key), V.ref b)] (.inr "more") (.ref c) = [(.inr "a", .ref b), (.inr "more", .ref c)] := by
  rw [putK_new]
  all_goals rfl
theorem put_nil {c : Addr} : putK ([] : List (Key × V)) (.inr "more") (.ref c) = [(.inr "more", .ref c)] := by
  rw [putK_new]
  all_goals rfl
section
variable {K : PySem.W.Frag} {C : Nat → Addr} {n : Int} {as0 as1 : List Addr} {el e0 e1 L a2 a3 a4 a5 a6 a7 b a12 : Addr} {H : Hp}
theorem its_cat (hn : n.natAbs < 10 ^ 12) (l0 : as0.length = 18) (l1 : as1.length = 18) (b4 : b ≠ a4) (b5 : b ≠ a5) (b6 : b ≠ a6) (b7 : b ≠ a7) (bm : b ≠ sysModules) : ∀ {i : Nat} {x : V}, Jv C n as0 as1 el e0 e1 L a2 a3 a4 a5 a6 a7 b a12 i H → (its n a2 a3 a4 a5 a6 a7 a12)[i]? = some x →
    Shows K H x ∧ Cat K H (Jv C n as0 as1 el e0 e1 L a2 a3 a4 a5 a6 a7 b a12 (i + 1)) x
  | 0, _, j, hx => by
    cases hx
    exact ⟨shows_of (.int n) (small_int hn).1 (Nat.le_trans (small_wt hn) (by decide)) (small_int hn).2 (Nat.le_of_ble_eq_true rfl) (fun h => by cases h), .oth (t := .type "int") (fun H1 s => .base (.int _)) (kit_ty (by decide +kernel)) (kit_ty (by decide +kernel)) fun H1 s => (j.mono s).next⟩
  | 1, _, j, hx => by
    cases hx
    have h' : (0 - n).natAbs < 10 ^ 12 := by omega
    exact ⟨shows_of (.int _) (small_int h').1 (Nat.le_trans (small_wt h') (by decide)) (small_int h').2 (Nat.le_of_ble_eq_true rfl) (fun h => by cases h), .oth (t := .type "int") (fun H1 s => .base (.int _)) (kit_ty (by decide +kernel)) (kit_ty (by decide +kernel)) fun H1 s => (j.mono s).next⟩
  | 2, _, j, hx => by
    cases hx
    exact ⟨shows_of (.tup (SqT.of j.t2) (.cons (.int 1) (.cons (.int 2) .nil))) (by decide +kernel) (by decide +kernel) (by decide +kernel) (by decide +kernel) (fun h => by cases h), .oth (t := .type "tuple") (fun H1 s => .base (.tup (s _ _ j.t2))) (kit_ty (by decide +kernel)) (kit_ty (by decide +kernel)) fun H1 s => (j.mono s).next⟩
  | 3, _, j, hx => by
    cases hx
    exact ⟨shows_of (.tup (SqT.of j.t3) .nil) (by decide +kernel) (by decide +kernel) (by decide +kernel) (by decide +kernel) (fun h => by cases h), .oth (t := .type "tuple") (fun H1 s => .base (.tup (s _ _ j.t3))) (kit_ty (by decide +kernel)) (kit_ty (by decide +kernel)) fun H1 s => (j.mono s).next⟩
  | 4, _, j, hx => by
    cases hx
    refine ⟨shows_of (.lst (SqL.of (j.l4 (by omega))) (.cons (.int 1) .nil)) (by decide +kernel) (by decide +kernel) (by decide +kernel) (by decide +kernel) (fun h => by cases h), .lst (j.l4 (by omega)) (by decide) fun H1 s => ⟨shows_of (.lst (SqL.of upd_same) (.cons (.int 1) (.cons (.str "more") .nil))) (by decide +kernel) (by decide +kernel) (by decide +kernel) (by decide +kernel) (fun h => by cases h), ?_⟩⟩
    refine (j.mono s).next.keep keep_upd (s _ _ (j.l4 (by omega))) (fun z => by cases z) (fun z => ?_) (fun z => ?_) (fun z => by cases z) (fun _ z => by cases z) (fun _ _ _ => exo_lst) (fun _ _ => exd_lst) (fun h => by omega) (fun _ z => by cases z) (fun _ z => by cases z) (fun _ z => by cases z) b4
    · have := congrArg List.length (HO.lst.inj z); rw [List.length_map, l0] at this; cases this
    · have := congrArg List.length (HO.lst.inj z); rw [List.length_map, l1] at this; cases this
  | 5, _, j, hx => by
    cases hx
    refine ⟨shows_of (.lst (SqL.of (j.l5 (by omega))) .nil) (by decide +kernel) (by decide +kernel) (by decide +kernel) (by decide +kernel) (fun h => by cases h), .lst (j.l5 (by omega)) (by decide) fun H1 s => ⟨shows_of (.lst (SqL.of upd_same) (.cons (.str "more") .nil)) (by decide +kernel) (by decide +kernel) (by decide +kernel) (by decide +kernel) (fun h => by cases h), ?_⟩⟩
    refine (j.mono s).next.keep keep_upd (s _ _ (j.l5 (by omega))) (fun z => by cases z) (fun z => ?_) (fun z => ?_) (fun z => by cases z) (fun _ z => by cases z) (fun _ _ _ => exo_lst) (fun _ _ => exd_lst) (fun h => by omega) (fun h => by omega) (fun _ z => by cases z) (fun _ z => by cases z) b5
    · have := congrArg List.length (HO.lst.inj z); rw [List.length_map, l0] at this; cases this
    · have := congrArg List.length (HO.lst.inj z); rw [List.length_map, l1] at this; cases this
  | 6, _, j, hx => by
    cases hx
    refine ⟨shows_of (.dK (.inl (j.d6 (by omega))) .nil) (by decide +kernel) (by decide +kernel) (by decide +kernel) (by decide +kernel) (fun _ h => by cases h), .dct (j.d6 (by omega)) (by decide) fun H1 c s hc cm => ?_⟩
    rw [put_nil]
    have nc : c ≠ a6 := fun z => by rw [z, s _ _ (j.d6 (by omega))] at hc; cases hc
    have hcc : (upd (upd H1 c (.lst [.int 1])) a6 (.dK [(.inr "more", .ref c)])) c = some (.lst [.int 1]) := by rw [upd_ne nc, upd_same]
    have hs : Sh K (upd (upd H1 c (.lst [.int 1])) a6 (.dK [(.inr "more", .ref c)])) (.ref a6) (.dict [(.str "more", .list [.int 1])]) ((c :: ([] ++ [])) ++ []) := Sh.dK (kvs := [(.inr "more", .ref c)]) (.inl upd_same) (.cons (.lst (SqL.of hcc) (.cons (.int 1) .nil)) .nil)
    refine ⟨shows_of hs (by decide +kernel) (by decide +kernel) (by decide +kernel) (by decide +kernel) (fun _ h => ?_), ?_⟩
    · simp at h
      exact cm h.symm
    · have s2 := s.trans (same_new (o := .lst [.int 1]) hc)
      exact (j.mono s2).next.keep keep_upd (s2 _ _ (j.d6 (by omega))) (fun z => by cases z) (fun z => by cases z) (fun z => by cases z) (fun z => by cases z) (fun _ z => by cases z) (fun _ _ _ => exo_dK) (fun _ _ => exd_dK) (fun h => by omega) (fun h => by omega) (fun h => by omega) (fun _ z => by cases z) b6
  | 7, _, j, hx => by
    cases hx
    obtain ⟨d7, hb⟩ := j.d7 (by omega)
    have nb : b ≠ a7 := b7
    refine ⟨shows_of (.dK (.inl d7) (.cons (.lst (SqL.of hb) (.cons (.int n) .nil)) .nil)) ?_ ?_ ?_ (Nat.le_of_ble_eq_true rfl) (fun _ h => ?_), .dct d7 (show 1 ≤ 10 by decide) fun H1 c s hc cm => ?_⟩
    · have e1 : (PyData.str "a").leavesShort 13 = true := by decide +kernel
      show ((PyData.str "a").leavesShort 13 && ((PyData.int n).leavesShort 13 && true) && true) = true
      rw [e1, (small_int hn).1]
      rfl
    · have e1 : (PyData.str "a").weight = 1 := by decide +kernel
      have e2 := small_wt hn
      show (PyData.str "a").weight + ((PyData.int n).weight + 1 + 0) + 2 + 0 ≤ 100
      omega
    · show ((PyData.str "a").showable && ((PyData.int n).showable && true) && true) = true
      rw [(small_int hn).2]
      rfl
    · simp at h
      exact bm h.symm
    · rw [put_ab]
      have s2 := s.trans (same_new (o := .lst [.int 1]) hc)
      have nc : c ≠ a7 := fun z => by rw [z, s _ _ d7] at hc; cases hc
      have hb2 : (upd (upd H1 c (.lst [.int 1])) a7 (.dK [(.inr "a", .ref b), (.inr "more", .ref c)])) b = some (.lst [.int n]) := by rw [upd_ne nb]; exact s2 _ _ hb
      refine ⟨shows_of (.dK (.inl upd_same) (.cons (.lst (SqL.of hb2) (.cons (.int n) .nil)) (.cons (.lst (SqL.of (by rw [upd_ne nc, upd_same])) (.cons (.int 1) .nil)) .nil))) ?_ ?_ ?_ (Nat.le_of_ble_eq_true rfl) (fun _ h => ?_), ?_⟩
      · have e1 : (PyData.str "a").leavesShort 13 = true := by decide +kernel
        have e2 : (PyData.str "more").leavesShort 13 = true := by decide +kernel
        have e3 : (PyData.int 1).leavesShort 13 = true := by decide +kernel
        show ((PyData.str "a").leavesShort 13 && ((PyData.int n).leavesShort 13 && true) && ((PyData.str "more").leavesShort 13 && ((PyData.int 1).leavesShort 13 && true) && true)) = true
        rw [e1, e2, e3, (small_int hn).1]
        rfl
      · have e1 : (PyData.str "a").weight = 1 := by decide +kernel
        have e3 : (PyData.str "more").weight = 4 := by decide +kernel
        have e4 : (PyData.int 1).weight = 1 := by decide +kernel
        have e2 := small_wt hn
        show (PyData.str "a").weight + ((PyData.int n).weight + 1 + 0) + 2 + ((PyData.str "more").weight + ((PyData.int 1).weight + 1 + 0) + 2 + 0) ≤ 100
        omega
      · show ((PyData.str "a").showable && ((PyData.int n).showable && true) && ((PyData.str "more").showable && ((PyData.int 1).showable && true) && true)) = true
        have e3 : (PyData.int 1).showable = true := by decide +kernel
        rw [(small_int hn).2, e3]
        rfl
      · simp at h
        rcases h with h | h
        · exact bm h.symm
        · exact cm h.symm
      · exact (j.mono s2).next.keep keep_upd (s2 _ _ d7) (fun z => by cases z) (fun z => by cases z) (fun z => by cases z) (fun z => by cases z) (fun _ z => by cases z) (fun _ _ _ => exo_dK) (fun _ _ => exd_dK) (fun h => by omega) (fun h => by omega) (fun h => by omega) (fun h => by omega) b7
  | 8, _, j, hx => by
    cases hx
    exact ⟨shows_of (.str _) (by decide +kernel) (by decide +kernel) (by decide +kernel) (by decide +kernel) (fun h => by cases h), .oth (t := .type "str") (fun H1 s => .base (.str _)) (kit_ty (by decide +kernel)) (kit_ty (by decide +kernel)) fun H1 s => (j.mono s).next⟩
  | 9, _, j, hx => by
    cases hx
    exact ⟨shows_of (.str _) (by decide +kernel) (by decide +kernel) (by decide +kernel) (by decide +kernel) (fun h => by cases h), .oth (t := .type "str") (fun H1 s => .base (.str _)) (kit_ty (by decide +kernel)) (kit_ty (by decide +kernel)) fun H1 s => (j.mono s).next⟩
  | 10, _, j, hx => by
    cases hx
    exact ⟨shows_of (.bl _) (by decide +kernel) (by decide +kernel) (by decide +kernel) (by decide +kernel) (fun h => by cases h), .oth (t := .type "bool") (fun H1 s => .base (.bl _)) (kit_ty (by decide +kernel)) (kit_ty (by decide +kernel)) fun H1 s => (j.mono s).next⟩
  | 11, _, j, hx => by
    cases hx
    exact ⟨shows_of .non (by decide +kernel) (by decide +kernel) (by decide +kernel) (by decide +kernel) (fun h => by cases h), .oth (t := .type "NoneType") (fun H1 s => .base .non) (kit_ty (by decide +kernel)) (kit_ty (by decide +kernel)) fun H1 s => (j.mono s).next⟩
  | 12, _, j, hx => by
    cases hx
    exact ⟨shows_of (.tup (SqT.of j.t12) (.cons (.str "f") (.cons (.int 2) .nil))) (by decide +kernel) (by decide +kernel) (by decide +kernel) (by decide +kernel) (fun h => by cases h), .oth (t := .type "tuple") (fun H1 s => .base (.tup (s _ _ j.t12))) (kit_ty (by decide +kernel)) (kit_ty (by decide +kernel)) fun H1 s => (j.mono s).next⟩
  | k + 13, _, _, hx => by
    have : k + 13 < 13 := (List.getElem?_eq_some_iff.mp hx).1
    omega
end
section
variable {P : Program} {w : World} {K : PySem.W.Frag} {mg : Str → Option Value} {base : Heap} {C I : Nat → Addr} {fdI : Nat → FuncData} {S : Addr} {fR fG fP fN fB fK fT : Addr} {dR dG dP dN dB dK dT : FuncData}
theorem scLa : FnScope ["_law_script", "_law_number", "_law_elder", "_law_given", "_law_first", "_law_second"] ["_law_script"] (defScope sLa) := ⟨rfl, rfl, rfl, by decide +kernel, rfl, by decide +kernel, by decide +kernel⟩
theorem ok_la {f : Addr} {fd : FuncData} (F : Fun K "law" "law" sLa f fd) (T : T1 P w K mg base C I fdI S) (D : T2 P w K mg base C fR fG fP fN fB fK fT dR dG dP dN dB dK dT) : FnG P w K mg base CX0 4 f fd ["_law_script"] (spLa K) := by
  refine okG F scLa (fun vs H Q E h => ?_) fun cdv A outer s H vs Q E hg hr h => ?_
  · obtain ⟨a, ns, rfl, _⟩ := h
    rfl
  · obtain ⟨a, ns, rfl, hS, q⟩ := h
    have hu : (A.deeper (envOfC "law" (defScope sLa) s.heap.objs.size f cdv)).units + 1 < cLine := hu_of hr
    have hr2 : Room 2 (A.deeper (envOfC "law" (defScope sLa) s.heap.objs.size f cdv)) := hr.mono (by decide)
    refine ⟨_, pss_cons (ps_set (i := 1) scLa.nd rfl (.inl rfl) (pe_call D.gR hr2 rfl D.mR D.kR D.bR .nil pass0 (pa_cons (pe_call D.gG hr2 rfl D.mG D.kG D.bG .nil pass0 (pa_cons (pv 0) (pa_cons pe_int pa_nil))) (pa_cons (pe_op op_powW pe_int pe_int) pa_nil))))
      (pss_cons (ps_set (i := 2) scLa.nd rfl (.inl rfl) (pe_lst (pa_cons (pe_call D.gP hr rfl D.mP D.kP D.bP .nil pass0 (pa_cons (pv 1) pa_nil)) (pa_cons (pe_call D.gN hr rfl D.mN D.kN D.bN .nil pass0 (pa_cons pe_str pa_nil)) pa_nil))))
      (pss_cons (ps_for (tb := tTurn K C) PassesOwn.never rfl (pi_list (pe_lst (pa_cons (pv 1) (pa_cons (pe_op op_sub pe_int (pv 1)) (pa_cons (pe_tup (pa_cons pe_int (pa_cons pe_int pa_nil))) (pa_cons (pe_tup pa_nil) (pa_cons (pe_lst (pa_cons pe_int pa_nil)) (pa_cons (pe_lst pa_nil) (pa_cons pe_dnewK
          (pa_cons (pe_disp (pps_cons pe_str (pe_lstF (pa_cons (pv 1) pa_nil)) pps_nil) (by rfl) (by rfl) (by decide) (by decide)) (pa_cons pe_str (pa_cons pe_str (pa_cons pe_bl (pa_cons pe_non (pa_cons (pe_tup (pa_cons pe_str (pa_cons pe_int pa_nil))) pa_nil))))))))))))))) (pg_name (i := 3) scLa.nd rfl (Or.inl rfl)) ?_)
      (pss_cons (ps_if (PW.pt (pw_or (pt_not (pt_val (pe_callG D.gT hg hr rfl D.mT D.kT D.bT .nil pass0 (pa_cons (pe_ix ix_list (pv 2) pe_int (fun _ _ => rfl)) (pa_cons (pv 1) pa_nil))))) (pw_or (pt_not (pt_val (pe_callG D.gT hg hr rfl D.mT D.kT D.bT .nil pass0 (pa_cons (pe_ix ix_list (pv 2) pe_int (fun _ _ => rfl)) (pa_cons pe_str pa_nil)))))
          (pw_or1 (pt_not (pt_val (pe_callG D.gT hg hr rfl D.mT D.kT D.bT .nil pass0 (pa_cons (pe_call0 D.gB hr rfl D.mB D.kB D.bB .nil pass0) (pa_cons pe_non pa_nil))))))))) (pss_one (ps_ret pe_bl)) pss_nil)
      (pss_one (ps_ret (pe_cmpR (Vf.op_eqD hr.units) (pe_call D.gK hr2 rfl D.mK D.kK D.bK .nil pass0 (pa_cons (T.er0 (by rfl)) pa_nil)) (pe_lst (pa_cons pe_int pa_nil)) (nomark _))))))), ?_⟩
    · have chk : ∀ {p1 p2 p3 p4 p5 p6 p7 p8 p9 p10 p11 p12 p13 p14 : Pos} {j : Nat}, PS (cxOf CX0 P w K mg base ["_law_script", "_law_number", "_law_elder", "_law_given", "_law_first", "_law_second"] "law" (defScope sLa) f cdv A outer s H E).nox
          (.If (.BoolOp .Or [.UnaryOp .Not (.Call (.Name "_law_right" p1) [.Name "_law_first" p2, .Name "_law_given" p3] [] p4) p5, .UnaryOp .Not (.Call (.Name "_law_right" p6) [.Name "_law_second" p7, .Name "_law_given" p8] [] p9) p10] p11) [.Return (some (.Constant (.bool false) j p12)) p13] [] p14) (tChk K C) := by
        intro p1 p2 p3 p4 p5 p6 p7 p8 p9 p10 p11 p12 p13 p14 j
        exact ps_if (PW.pt (pw_or (pt_not (pt_val (pe_callG D.gT hg hr rfl D.mT D.kT D.bT .nil pass0 (pa_cons (pv 4) (pa_cons (pv 3) pa_nil))))) (pw_or1 (pt_not (pt_val (pe_callG D.gT hg hr rfl D.mT D.kT D.bT .nil pass0 (pa_cons (pv 5) (pa_cons (pv 3) pa_nil)))))))) (pss_one (ps_ret pe_bl)) pss_nil
      refine pss_cons (ps_par rfl scLa.nd rfl rfl (by decide) rfl rfl (pa_cons (pe_call D.gP hr rfl D.mP D.kP D.bP .nil pass0 (pa_cons (pv 3) pa_nil)) (pa_cons (pe_call D.gN hr rfl D.mN D.kN D.bN .nil pass0 (pa_cons (pv 3) pa_nil)) pa_nil)) (by rfl)) (pss_cons chk (pss_cons (ps_if ?_ (pss_one (ps_expr ?_)) pss_nil) (pss_cons (ps_if ?_ (pss_one (ps_dput hu (pv 3) pe_str (pe_lstF (pa_cons pe_int pa_nil)) (by rfl))) pss_nil) (pss_one chk))))
      · exact pt_val (pe_callB call_isi (by rfl) T.nIsi boot_isi (pa_cons (pv 3) (pa_cons (pe_bltn (by rfl) T.nLst boot_list (by rfl)) pa_nil)))
      · exact pe_bm PySem.F.plainAttrs_list PySem.F.slot_list_append PySem.F.type_list_append mt_append (pv 3) (pa_cons pe_str pa_nil)
      · exact pt_val (pe_callB call_isi (by rfl) T.nIsi boot_isi (pa_cons (pv 3) (pa_cons (pe_bltn (by rfl) T.nDct boot_dict (by rfl)) pa_nil)))
    · -- the number
      refine ⟨_, rfl, a, ns, rfl, hS, fun g x y hg0 h1 h2 => ?_⟩
      refine ⟨_, _, rfl, rfl, ⟨by decide, by decide +kernel⟩, g, x, y, ?_, upd_same, h1, h2, fun n x' c' n1 n2 => ?_⟩
      · show [V.ref g, V.int (10 ^ Int.toNat 12)] = _
        have e : (10 : Int) ^ Int.toNat 12 = 1000000000000 := by decide +kernel
        rw [e]
      generalize upd (upd H g (.lst [.int x, .int y, .int 0])) g (.lst [.int x', .int y, .int c']) = H0
      have hn : n.natAbs < 10 ^ 12 := by omega
      -- the elders
      refine ⟨_, rfl, .int n, rfl, fun e0 as0 H1 f0 s1 r0 d0 => ⟨.str "elder", rfl, fun e1 as1 H2 f1 s2 r1 d1 => ⟨by show 2 ≤ sizeLine; decide, fun el hel => ?_⟩⟩⟩
      have s3 := same_new (o := .lst [.ref e0, .ref e1]) hel
      have k0 := s3 _ _ (s2 _ _ d0)
      have k1 := s3 _ _ d1
      have q0 := (r0.mono s2).mono s3
      have q1 := r1.mono s3
      have kel : (upd H2 el (.lst [.ref e0, .ref e1])) el = some (.lst [.ref e0, .ref e1]) := upd_same
      have l0 : as0.length = 18 := by rw [row_len r0]; rfl
      have l1 : as1.length = 18 := by rw [row_len r1]; rfl
      generalize upd H2 el (.lst [.ref e0, .ref e1]) = H3 at s3 k0 k1 q0 q1 kel
      -- what is given
      refine ⟨_, rfl, _, rfl, _, _, rfl, rfl, (by show 2 ≤ sizeLine; decide), fun a2 n2' => ⟨(by show 0 ≤ sizeLine; decide), fun a3 n3 => ⟨(by show 1 ≤ sizeLine; decide), fun a4 n4 => ⟨(by show 0 ≤ sizeLine; decide), fun a5 n5 => fun a6 n6 => fun a7 n7 => ?_⟩⟩⟩⟩
      have c2 := same_new (o := .tup [.int 1, .int 2]) n2'
      have c3 := same_new (o := .tup []) n3
      have c4 := same_new (o := .lst [.int 1]) n4
      have c5 := same_new (o := .lst []) n5
      have c6 := same_new (o := .dK []) n6
      have c7 := same_new (o := .dK []) n7
      have g2 := c7 _ _ (c6 _ _ (c5 _ _ (c4 _ _ (c3 _ _ (upd_same (H := H3) (a := a2) (o := .tup [.int 1, .int 2]))))))
      have g3 := c7 _ _ (c6 _ _ (c5 _ _ (c4 _ _ (upd_same (H := upd H3 a2 (.tup [.int 1, .int 2])) (a := a3) (o := .tup [])))))
      have g4 := c7 _ _ (c6 _ _ (c5 _ _ (upd_same (H := upd (upd H3 a2 (.tup [.int 1, .int 2])) a3 (.tup [])) (a := a4) (o := .lst [.int 1]))))
      have g5 := c7 _ _ (c6 _ _ (upd_same (H := upd (upd (upd H3 a2 (.tup [.int 1, .int 2])) a3 (.tup [])) a4 (.lst [.int 1])) (a := a5) (o := .lst [])))
      have g6 := c7 _ _ (upd_same (H := upd (upd (upd (upd H3 a2 (.tup [.int 1, .int 2])) a3 (.tup [])) a4 (.lst [.int 1])) a5 (.lst [])) (a := a6) (o := .dK []))
      have g7 := upd_same (H := upd (upd (upd (upd (upd H3 a2 (.tup [.int 1, .int 2])) a3 (.tup [])) a4 (.lst [.int 1])) a5 (.lst [])) a6 (.dK [])) (a := a7) (o := .dK [])
      have n67 : a6 ≠ a7 := fun z => by rw [z, upd_same] at n7; cases n7
      have sall := c2.trans (c3.trans (c4.trans (c5.trans (c6.trans c7))))
      generalize upd (upd (upd (upd (upd (upd H3 a2 (.tup [.int 1, .int 2])) a3 (.tup [])) a4 (.lst [.int 1])) a5 (.lst [])) a6 (.dK [])) a7 (.dK []) = K7 at g2 g3 g4 g5 g6 g7 sall
      refine ⟨_, rfl, (by show 1 ≤ sizeLine; decide), fun b nb mb => ⟨?_, [(.inr "a", .ref b)], rfl, (show 1 ≤ 15 by decide), (by show 2 ≤ sizeLine; decide), fun a12 n12 => ⟨(by show 13 ≤ sizeLine; decide), fun L nL => ?_⟩⟩⟩
      · exact same_new nb _ _ g7
      · have hb4 : b ≠ a4 := fun z => by rw [z, g4] at nb; cases nb
        have hb5 : b ≠ a5 := fun z => by rw [z, g5] at nb; cases nb
        have hb6 : b ≠ a6 := fun z => by rw [z, g6] at nb; cases nb
        have hb7 : b ≠ a7 := fun z => by rw [z, g7] at nb; cases nb
        have cb := same_new (o := .lst [.int n]) nb
        have kp : Keep a7 (upd K7 b (.lst [.int n])) (upd (upd K7 b (.lst [.int n])) a7 (.dK [(.inr "a", .ref b)])) := keep_upd
        have e7 := cb _ _ g7
        have c12 := same_new (o := .tup [.str "f", .int 2]) n12
        have cL := same_new (o := .lst (its n a2 a3 a4 a5 a6 a7 a12)) nL
        have cc := c12.trans cL
        have sb := sall.trans cb
        have J0 : Jv C n as0 as1 el e0 e1 L a2 a3 a4 a5 a6 a7 b a12 0 (upd (upd (upd (upd K7 b (.lst [.int n])) a7 (.dK [(.inr "a", .ref b)])) a12 (.tup [.str "f", .int 2])) L (.lst (its n a2 a3 a4 a5 a6 a7 a12))) :=
          ⟨cc _ _ (kp.at e7 (sb _ _ kel) (fun z => by cases z)), cc _ _ (kp.at e7 (sb _ _ k0) (fun z => by cases z)), ((q0.mono sb).keep kp e7 (fun _ _ _ => exo_dK) fun _ _ => exd_dK).mono cc, cc _ _ (kp.at e7 (sb _ _ k1) (fun z => by cases z)), ((q1.mono sb).keep kp e7 (fun _ _ _ => exo_dK) fun _ _ => exd_dK).mono cc,
            upd_same, cc _ _ (kp.at e7 (cb _ _ g2) (fun z => by cases z)), cc _ _ (kp.at e7 (cb _ _ g3) (fun z => by cases z)), cL _ _ upd_same, fun _ => cc _ _ (kp.at e7 (cb _ _ g4) (fun z => by cases z)), fun _ => cc _ _ (kp.at e7 (cb _ _ g5) (fun z => by cases z)), fun _ => cc _ _ (kp _ _ n67 (cb _ _ g6)), fun _ => ⟨cc _ _ upd_same, cc _ _ (kp _ _ hb7 upd_same)⟩⟩
        refine ⟨L, rfl, ⟨_, SqL.of upd_same⟩, ?_⟩
        refine for_list (xs := its n a2 a3 a4 a5 a6 a7 a12) (fun i σ H' => σ.length = 6 ∧ σ[1]? = some (some (.int n)) ∧ σ[2]? = some (some (.ref el)) ∧ Jv C n as0 as1 el e0 e1 L a2 a3 a4 a5 a6 a7 b a12 i H') ⟨rfl, rfl, rfl, J0⟩ (fun i σ H' _ hP => SqL.of hP.2.2.2.hL) (fun i x σ H' hx hP => ?_) fun σ H' hP => ?_
        · obtain ⟨hl, h1', h2', j⟩ := hP
          obtain ⟨sh, ct⟩ := its_cat hn l0 l1 hb4 hb5 hb6 hb7 mb j hx
          refine turn_run hl sh ct (fun H1 H2 j s => j.mono s) fun x y H'' j' => ⟨by simp [hl], ?_, ?_, j'⟩
          · rw [List.getElem?_set_ne (by decide), List.getElem?_set_ne (by decide), List.getElem?_set_ne (by decide)]
            exact h1'
          · rw [List.getElem?_set_ne (by decide), List.getElem?_set_ne (by decide), List.getElem?_set_ne (by decide)]
            exact h2'
        · obtain ⟨hl, h1', h2', j⟩ := hP
          have shn : Shows K H' (.int n) := shows_of (.int n) (small_int hn).1 (Nat.le_trans (small_wt hn) (by decide)) (small_int hn).2 (Nat.le_of_ble_eq_true rfl) (fun h => by cases h)
          refine ⟨_, h2', el, _, 0, .ref e0, rfl, rfl, SqL.of j.hel, rfl, _, h1', e0, as0, .int n, rfl, j.h0, j.r0, shn, fun G1 t1 => ⟨true, rfl, iteF ?_⟩⟩
          refine ⟨_, h2', el, _, 1, .ref e1, rfl, rfl, SqL.of (t1 _ _ j.hel), rfl, e1, as1, .str "elder", rfl, t1 _ _ j.h1, j.r1.mono t1, ?_, fun G2 t2 => ⟨true, rfl, iteF ?_⟩⟩
          · exact shows_of (.str _) (by decide +kernel) (by decide +kernel) (by decide +kernel) (by decide +kernel) (fun h => by cases h)
          · refine ⟨rfl, fun p as G3 f3 t3 r3 d3 => ⟨p, as, .non, rfl, d3, r3, ?_, fun G4 t4 => ⟨true, rfl, iteF ?_⟩⟩⟩
            · exact shows_of .non (by decide +kernel) (by decide +kernel) (by decide +kernel) (by decide +kernel) (fun h => by cases h)
            · refine fun e he => ⟨e, 18, rfl, by decide, ⟨none, upd_same, fun d0 z => by cases z⟩, fun p5 G5 f5 t5 d5 => ⟨by show 1 ≤ sizeLine; decide, fun r hr5 => ?_⟩⟩
              refine ⟨.list [.int 18], .list [.int 18], _, _, .lst (SqL.of (same_new hr5 _ _ d5)) (.cons (.int _) .nil), .lst (SqL.of upd_same) (.cons (.int _) .nil), by decide +kernel, by decide +kernel, ?_⟩
              have ev : PyData.eqv (.list [.int 18]) (.list [.int 18]) = true := by decide +kernel
              rw [ev]
              exact q _
end
end L2.Er

/-! # law k01, z: what the top has written, and the end -/
namespace L2.Er
open PySem PySem.Spec PyProof.Rows L2.Vf
/-- one class with its __init__ -/
structure Cl (P : Program) (w : World) (K : PySem.W.Frag) (mg : Str → Option Value) (base : Heap) (c f : Addr) (fd : FuncData) (fl : Str) : Prop where
  er : ErC K c f fl
  fi : FnOk P w K mg base CX0 1 f fd ["self", fl] (spInit K fl)
  b1 : Binds K fd ["self", fl] []
  bK : ∀ (s : Shared) (x : Value) (ws : List Value), K.In s.heap → (x :: ws).length = (["self", fl] : List Str).length → BindsTo s fd ⟨[x], ([fl] : List Str).zip ws⟩ ((["self", fl] : List Str).zip (x :: ws))
  bD : ∀ (s : Shared) (x : Value), K.In s.heap → BindsTo s fd ⟨[x], []⟩ ((["self", fl] : List Str).zip [x, .none])
theorem cl_mk {P : Program} {w : World} {K : PySem.W.Frag} {mg : Str → Option Value} {base : Heap} {c f T : Addr} {fl nm q qual : Str} {N : Addr} {bs bm : List Value} {sn : List Str} {sub : List Value} {ab : Bool} {col : Option Bool} {dd : Option Addr} {m0 m1 m2 m3 m5 : Option Value} {od an : Option Addr} {sl : Array (Option Value)} {oc kV dc pm cd ct : Value} {p1 p2 p3 p4 p5 p6 p7 : Pos} {to : Obj} {tn : Nat}
    (hf : fl = "value" ∨ fl = "name") (xC : K.lookup c = some (excClassObj nm q c N bs bm true sn sub ab col dd m0 m1 m2 m3 m5 "ValueError.__new__")) (rC : PySem.HandSPX.refsVE bm = true) (sa : PySem.W.findIn K (.ref c) "__setattr__" = some (some (.builtin "object.__setattr__")))
    (ga : PySem.W.findIn K (.ref c) "__getattribute__" = some (some (.builtin "BaseException.__getattribute__"))) (gg : PySem.W.findIn K (.ref c) "__getattr__" = some none) (nb : PySem.W.findIn K (.ref c) fl = some none) (ii : PySem.W.findIn K (.ref c) "__init__" = some (some (.ref f))) (ti : PySem.W.typeIn K (.ref f) = some (.type "function"))
    (li : K.lookup f = some ⟨oc, od, .func (PySem.W.fnOf "__init__" qual (iArgs fl p1 p2 p3) (iBody fl p4 p5 p6 p7) (iScope fl) (.ref T) kV dc pm an cd ct), sl⟩) (ci : PySem.W.codeIn K cd qual = true) (lt : K.lookup T = some to) (dt : to.data = .seq #[.none] tn) (kf : PySem.W.keepIn K (.ref f) = true) (kc : PySem.W.keepIn K (.ref c) = true)
    (ex : PySem.W.subIn K (.ref c) (.type "BaseException") = some true) (ty : PySem.W.typeIn K (.ref c) = some (.type "type")) (hd : PySem.W.hasDictIn K c = true) (cl : PySem.W.findIn K (.ref c) "__class__" = some (some (.builtin "object.__class__"))) (mo : PySem.W.mroIn K c (.type "object") = some true)
    (hn : PySem.W.specialIn K (.builtin "object.__class__") "__get__" = some (some (.builtin "getset_descriptor.__get__"))) (ht : PySem.W.takesIn K (.builtin "object.__class__") = some true) :
    Cl P w K mg base c f (PySem.W.fnOf "__init__" qual (iArgs fl p1 p2 p3) (iBody fl p4 p5 p6 p7) (iScope fl) (.ref T) kV dc pm an cd ct) fl := by
  have F : FunD K "__init__" qual (iArgs fl p1 p2 p3) (iBody fl p4 p5 p6 p7) (iScope fl) [.non] [] f (PySem.W.fnOf "__init__" qual (iArgs fl p1 p2 p3) (iBody fl p4 p5 p6 p7) (iScope fl) (.ref T) kV dc pm an cd ct) :=
    ⟨⟨oc, od, _, kV, dc, pm, an, cd, ct, sl, rfl, li, ci, .inr ⟨by simp, T, to, [.none], tn, rfl, lt, dt, .cons rfl .nil⟩, .inl rfl⟩, kf⟩
  have ox : OexC K c := ⟨⟨nm, q, N, bs, bm, sn, sub, ab, col, dd, m0, m1, m2, m3, m5, xC, rC⟩, sa, ex, ty, kc⟩
  refine ⟨⟨ox, ii, ti, nb, ⟨ga, gg, ex, hd, cl, hn, ht, mo⟩⟩, ?_, init_b1 F hf, init_bK F hf, init_bD F hf⟩
  rcases hf with rfl | rfl
  · exact ok_initV F
  · exact ok_initN F
/-- every class against every class -/
def kitTab (K : PySem.W.Frag) (cs : List Addr) (S : Addr) : Bool := (List.range 19).all fun i => PySem.W.kitOne K (.ref (cs.getD i 0)) (.ref S) == some true && PySem.W.kitOne K (.ref (cs.getD i 0)) (.type "ValueError") == some true &&
  (List.range 19).all fun j => PySem.W.kitOne K (.ref (cs.getD i 0)) (.ref (cs.getD j 0)) == some (decide (i = j))
theorem kitTab_at {K : PySem.W.Frag} {cs : List Addr} {S : Addr} (h : kitTab K cs S = true) {i : Nat} (hi : i < 19) : PySem.W.kitOne K (.ref (cs.getD i 0)) (.ref S) = some true ∧ PySem.W.kitOne K (.ref (cs.getD i 0)) (.type "ValueError") = some true ∧
    ∀ j, j < 19 → PySem.W.kitOne K (.ref (cs.getD i 0)) (.ref (cs.getD j 0)) = some (decide (i = j)) := by
  have h1 := List.all_eq_true.mp h i (List.mem_range.mpr hi)
  obtain ⟨h2, h3⟩ := Bool.and_eq_true_iff.mp h1
  obtain ⟨h4, h5⟩ := Bool.and_eq_true_iff.mp h2
  exact ⟨beq_iff_eq.mp h4, beq_iff_eq.mp h5, fun j hj => beq_iff_eq.mp (List.all_eq_true.mp h3 j (List.mem_range.mpr hj))⟩

theorem cls_all {P : Program} {w : World} {K : PySem.W.Frag} {mg : Str → Option Value} {base : Heap} {cs fs : List Addr} {fds : List FuncData} {dflt : FuncData} (h0 : Cl P w K mg base (cs.getD 0 0) (fs.getD 0 0) (fds.getD 0 dflt) (fld 0)) (h1 : Cl P w K mg base (cs.getD 1 0) (fs.getD 1 0) (fds.getD 1 dflt) (fld 1)) (h2 : Cl P w K mg base (cs.getD 2 0) (fs.getD 2 0) (fds.getD 2 dflt) (fld 2)) (h3 : Cl P w K mg base (cs.getD 3 0) (fs.getD 3 0) (fds.getD 3 dflt) (fld 3)) (h4 : Cl P w K mg base (cs.getD 4 0) (fs.getD 4 0) (fds.getD 4 dflt) (fld 4)) (h5 : Cl P w K mg base (cs.getD 5 0) (fs.getD 5 0) (fds.getD 5 dflt) (fld 5)) (h6 : Cl P w K mg base (cs.getD 6 0) (fs.getD 6 0) (fds.getD 6 dflt) (fld 6)) (h7 : Cl P w K mg base (cs.getD 7 0) (fs.getD 7 0) (fds.getD 7 dflt) (fld 7)) (h8 : Cl P w K mg base (cs.getD 8 0) (fs.getD 8 0) (fds.getD 8 dflt) (fld 8)) (h9 : Cl P w K mg base (cs.getD 9 0) (fs.getD 9 0) (fds.getD 9 dflt) (fld 9)) (h10 : Cl P w K mg base (cs.getD 10 0) (fs.getD 10 0) (fds.getD 10 dflt) (fld 10)) (h11 : Cl P w K mg base (cs.getD 11 0) (fs.getD 11 0) (fds.getD 11 dflt) (fld 11)) (h12 : Cl P w K mg base (cs.getD 12 0) (fs.getD 12 0) (fds.getD 12 dflt) (fld 12)) (h13 : Cl P w K mg base (cs.getD 13 0) (fs.getD 13 0) (fds.getD 13 dflt) (fld 13)) (h14 : Cl P w K mg base (cs.getD 14 0) (fs.getD 14 0) (fds.getD 14 dflt) (fld 14)) (h15 : Cl P w K mg base (cs.getD 15 0) (fs.getD 15 0) (fds.getD 15 dflt) (fld 15)) (h16 : Cl P w K mg base (cs.getD 16 0) (fs.getD 16 0) (fds.getD 16 dflt) (fld 16)) (h17 : Cl P w K mg base (cs.getD 17 0) (fs.getD 17 0) (fds.getD 17 dflt) (fld 17)) : ∀ i, i < 18 → Cl P w K mg base (cs.getD i 0) (fs.getD i 0) (fds.getD i dflt) (fld i)
  | 0, _ => h0
  | 1, _ => h1
  | 2, _ => h2
  | 3, _ => h3
  | 4, _ => h4
  | 5, _ => h5
  | 6, _ => h6
  | 7, _ => h7
  | 8, _ => h8
  | 9, _ => h9
  | 10, _ => h10
  | 11, _ => h11
  | 12, _ => h12
  | 13, _ => h13
  | 14, _ => h14
  | 15, _ => h15
  | 16, _ => h16
  | 17, _ => h17
  | k + 18, h => by omega
theorem mgs_all {mg : Str → Option Value} {cs : List Addr} (h0 : mg (nm 0) = some (.ref (cs.getD 0 0))) (h1 : mg (nm 1) = some (.ref (cs.getD 1 0))) (h2 : mg (nm 2) = some (.ref (cs.getD 2 0))) (h3 : mg (nm 3) = some (.ref (cs.getD 3 0))) (h4 : mg (nm 4) = some (.ref (cs.getD 4 0))) (h5 : mg (nm 5) = some (.ref (cs.getD 5 0))) (h6 : mg (nm 6) = some (.ref (cs.getD 6 0))) (h7 : mg (nm 7) = some (.ref (cs.getD 7 0))) (h8 : mg (nm 8) = some (.ref (cs.getD 8 0))) (h9 : mg (nm 9) = some (.ref (cs.getD 9 0))) (h10 : mg (nm 10) = some (.ref (cs.getD 10 0))) (h11 : mg (nm 11) = some (.ref (cs.getD 11 0))) (h12 : mg (nm 12) = some (.ref (cs.getD 12 0))) (h13 : mg (nm 13) = some (.ref (cs.getD 13 0))) (h14 : mg (nm 14) = some (.ref (cs.getD 14 0))) (h15 : mg (nm 15) = some (.ref (cs.getD 15 0))) (h16 : mg (nm 16) = some (.ref (cs.getD 16 0))) (h17 : mg (nm 17) = some (.ref (cs.getD 17 0))) (h18 : mg (nm 18) = some (.ref (cs.getD 18 0))) : ∀ i, i < 19 → mg (nm i) = some (.ref (cs.getD i 0))
  | 0, _ => h0
  | 1, _ => h1
  | 2, _ => h2
  | 3, _ => h3
  | 4, _ => h4
  | 5, _ => h5
  | 6, _ => h6
  | 7, _ => h7
  | 8, _ => h8
  | 9, _ => h9
  | 10, _ => h10
  | 11, _ => h11
  | 12, _ => h12
  | 13, _ => h13
  | 14, _ => h14
  | 15, _ => h15
  | 16, _ => h16
  | 17, _ => h17
  | 18, _ => h18
  | k + 19, h => by omega
theorem all_mk {P : Program} {w : World} {K : PySem.W.Frag} {h : Heap} {mg : Str → Option Value} {fa cS : Addr} {c0 c1 c2 c3 c4 c5 c6 c7 c8 c9 c10 c11 c12 c13 c14 c15 c16 c17 c18 f0 f1 f2 f3 f4 f5 f6 f7 f8 f9 f10 f11 f12 f13 f14 f15 f16 f17 : Addr} {fd0 fd1 fd2 fd3 fd4 fd5 fd6 fd7 fd8 fd9 fd10 fd11 fd12 fd13 fd14 fd15 fd16 fd17 : FuncData}
    {gCe gHa gGe gRa gKi gFi gRi gPl gNa gBa gLa : Addr} {odCe anCe odHa anHa odGe anGe odRa anRa odKi anKi odFi anFi odRi anRi odPl anPl odNa anNa odBa anBa odLa anLa : Option Addr} {slCe slHa slGe slRa slKi slFi slRi slPl slNa slBa slLa : Array (Option Value)} {ocCe kVCe dcCe pmCe cdCe ctCe ocHa kVHa dcHa pmHa cdHa ctHa ocGe kVGe dcGe pmGe cdGe ctGe ocRa kVRa dcRa pmRa cdRa ctRa ocKi kVKi dcKi pmKi cdKi ctKi ocFi kVFi dcFi pmFi cdFi ctFi ocRi kVRi dcRi pmRi cdRi ctRi ocPl kVPl dcPl pmPl cdPl ctPl ocNa kVNa dcNa pmNa cdNa ctNa ocBa kVBa dcBa pmBa cdBa ctBa ocLa kVLa dcLa pmLa cdLa ctLa : Value}
    (X : K.In h) (G : h.Ns mainGlobals mg) (hfa : mg "law" = some (.ref fa))
    (a0 : PySem.W.nsIn K mainGlobals "InvalidNumber" = some (some (.ref c0)))
    (a1 : PySem.W.nsIn K mainGlobals "InvalidCell" = some (some (.ref c1)))
    (a2 : PySem.W.nsIn K mainGlobals "InvalidRow" = some (some (.ref c2)))
    (a3 : PySem.W.nsIn K mainGlobals "InvalidTerm" = some (some (.ref c3)))
    (a4 : PySem.W.nsIn K mainGlobals "InvalidForm" = some (some (.ref c4)))
    (a5 : PySem.W.nsIn K mainGlobals "InvalidList" = some (some (.ref c5)))
    (a6 : PySem.W.nsIn K mainGlobals "InvalidChange" = some (some (.ref c6)))
    (a7 : PySem.W.nsIn K mainGlobals "InvalidAsk" = some (some (.ref c7)))
    (a8 : PySem.W.nsIn K mainGlobals "InvalidItem" = some (some (.ref c8)))
    (a9 : PySem.W.nsIn K mainGlobals "InvalidWish" = some (some (.ref c9)))
    (a10 : PySem.W.nsIn K mainGlobals "InvalidPlan" = some (some (.ref c10)))
    (a11 : PySem.W.nsIn K mainGlobals "InvalidStory" = some (some (.ref c11)))
    (a12 : PySem.W.nsIn K mainGlobals "InvalidTree" = some (some (.ref c12)))
    (a13 : PySem.W.nsIn K mainGlobals "InvalidText" = some (some (.ref c13)))
    (a14 : PySem.W.nsIn K mainGlobals "Unfit" = some (some (.ref c14)))
    (a15 : PySem.W.nsIn K mainGlobals "InvalidName" = some (some (.ref c15)))
    (a16 : PySem.W.nsIn K mainGlobals "TakenName" = some (some (.ref c16)))
    (a17 : PySem.W.nsIn K mainGlobals "UnknownName" = some (some (.ref c17)))
    (a18 : PySem.W.nsIn K mainGlobals "NothingToUndo" = some (some (.ref c18)))
    (aS : PySem.W.nsIn K mainGlobals "SumsError" = some (some (.ref cS)))
    (h0 : ∀ base : Heap, Cl P w K mg base c0 f0 fd0 "value")
    (h1 : ∀ base : Heap, Cl P w K mg base c1 f1 fd1 "value")
    (h2 : ∀ base : Heap, Cl P w K mg base c2 f2 fd2 "value")
    (h3 : ∀ base : Heap, Cl P w K mg base c3 f3 fd3 "value")
    (h4 : ∀ base : Heap, Cl P w K mg base c4 f4 fd4 "value")
    (h5 : ∀ base : Heap, Cl P w K mg base c5 f5 fd5 "value")
    (h6 : ∀ base : Heap, Cl P w K mg base c6 f6 fd6 "value")
    (h7 : ∀ base : Heap, Cl P w K mg base c7 f7 fd7 "value")
    (h8 : ∀ base : Heap, Cl P w K mg base c8 f8 fd8 "value")
    (h9 : ∀ base : Heap, Cl P w K mg base c9 f9 fd9 "value")
    (h10 : ∀ base : Heap, Cl P w K mg base c10 f10 fd10 "value")
    (h11 : ∀ base : Heap, Cl P w K mg base c11 f11 fd11 "value")
    (h12 : ∀ base : Heap, Cl P w K mg base c12 f12 fd12 "value")
    (h13 : ∀ base : Heap, Cl P w K mg base c13 f13 fd13 "value")
    (h14 : ∀ base : Heap, Cl P w K mg base c14 f14 fd14 "name")
    (h15 : ∀ base : Heap, Cl P w K mg base c15 f15 fd15 "name")
    (h16 : ∀ base : Heap, Cl P w K mg base c16 f16 fd16 "name")
    (h17 : ∀ base : Heap, Cl P w K mg base c17 f17 fd17 "name")
    (q18 : PySem.W.excIn K c18 [.type "ValueError", .type "Exception", .type "BaseException", .type "object"] "ValueError.__new__" = true) (k18 : PySem.W.keepIn K (.ref c18) = true) (x18 : ExcC K c18) (tab : kitTab K [c0, c1, c2, c3, c4, c5, c6, c7, c8, c9, c10, c11, c12, c13, c14, c15, c16, c17, c18] cS = true)
    (aCe : PySem.W.nsIn K mainGlobals "_law_cell" = some (some (.ref gCe))) (lCe : K.lookup gCe = some ⟨ocCe, odCe, .func (PySem.W.fnOf "_law_cell" "_law_cell" (defArgs sCe) (defBody sCe) (defScope sCe) .none kVCe dcCe pmCe anCe cdCe ctCe), slCe⟩) (cCe : PySem.W.codeIn K cdCe "_law_cell" = true) (kCe : PySem.W.keepIn K (.ref gCe) = true)
    (aHa : PySem.W.nsIn K mainGlobals "_law_hash" = some (some (.ref gHa))) (lHa : K.lookup gHa = some ⟨ocHa, odHa, .func (PySem.W.fnOf "_law_hash" "_law_hash" (defArgs sHa) (defBody sHa) (defScope sHa) .none kVHa dcHa pmHa anHa cdHa ctHa), slHa⟩) (cHa : PySem.W.codeIn K cdHa "_law_hash" = true) (kHa : PySem.W.keepIn K (.ref gHa) = true)
    (aGe : PySem.W.nsIn K mainGlobals "_law_generator" = some (some (.ref gGe))) (lGe : K.lookup gGe = some ⟨ocGe, odGe, .func (PySem.W.fnOf "_law_generator" "_law_generator" (defArgs sGe) (defBody sGe) (defScope sGe) .none kVGe dcGe pmGe anGe cdGe ctGe), slGe⟩) (cGe : PySem.W.codeIn K cdGe "_law_generator" = true) (kGe : PySem.W.keepIn K (.ref gGe) = true)
    (aRa : PySem.W.nsIn K mainGlobals "_law_random" = some (some (.ref gRa))) (lRa : K.lookup gRa = some ⟨ocRa, odRa, .func (PySem.W.fnOf "_law_random" "_law_random" (defArgs sRa) (defBody sRa) (defScope sRa) .none kVRa dcRa pmRa anRa cdRa ctRa), slRa⟩) (cRa : PySem.W.codeIn K cdRa "_law_random" = true) (kRa : PySem.W.keepIn K (.ref gRa) = true)
    (aKi : PySem.W.nsIn K mainGlobals "_law_kinds" = some (some (.ref gKi))) (lKi : K.lookup gKi = some ⟨ocKi, odKi, .func (PySem.W.fnOf "_law_kinds" "_law_kinds" (defArgs sKi) (defBody sKi) (defScope sKi) .none kVKi dcKi pmKi anKi cdKi ctKi), slKi⟩) (cKi : PySem.W.codeIn K cdKi "_law_kinds" = true) (kKi : PySem.W.keepIn K (.ref gKi) = true)
    (aFi : PySem.W.nsIn K mainGlobals "_law_fields" = some (some (.ref gFi))) (lFi : K.lookup gFi = some ⟨ocFi, odFi, .func (PySem.W.fnOf "_law_fields" "_law_fields" (defArgs sFi) (defBody sFi) (defScope sFi) .none kVFi dcFi pmFi anFi cdFi ctFi), slFi⟩) (cFi : PySem.W.codeIn K cdFi "_law_fields" = true) (kFi : PySem.W.keepIn K (.ref gFi) = true)
    (aRi : PySem.W.nsIn K mainGlobals "_law_right" = some (some (.ref gRi))) (lRi : K.lookup gRi = some ⟨ocRi, odRi, .func (PySem.W.fnOf "_law_right" "_law_right" (defArgs sRi) (defBody sRi) (defScope sRi) .none kVRi dcRi pmRi anRi cdRi ctRi), slRi⟩) (cRi : PySem.W.codeIn K cdRi "_law_right" = true) (kRi : PySem.W.keepIn K (.ref gRi) = true)
    (aPl : PySem.W.nsIn K mainGlobals "_law_placed" = some (some (.ref gPl))) (lPl : K.lookup gPl = some ⟨ocPl, odPl, .func (PySem.W.fnOf "_law_placed" "_law_placed" (defArgs sPl) (defBody sPl) (defScope sPl) .none kVPl dcPl pmPl anPl cdPl ctPl), slPl⟩) (cPl : PySem.W.codeIn K cdPl "_law_placed" = true) (kPl : PySem.W.keepIn K (.ref gPl) = true)
    (aNa : PySem.W.nsIn K mainGlobals "_law_named" = some (some (.ref gNa))) (lNa : K.lookup gNa = some ⟨ocNa, odNa, .func (PySem.W.fnOf "_law_named" "_law_named" (defArgs sNa) (defBody sNa) (defScope sNa) .none kVNa dcNa pmNa anNa cdNa ctNa), slNa⟩) (cNa : PySem.W.codeIn K cdNa "_law_named" = true) (kNa : PySem.W.keepIn K (.ref gNa) = true)
    (aBa : PySem.W.nsIn K mainGlobals "_law_bare" = some (some (.ref gBa))) (lBa : K.lookup gBa = some ⟨ocBa, odBa, .func (PySem.W.fnOf "_law_bare" "_law_bare" (defArgs sBa) (defBody sBa) (defScope sBa) .none kVBa dcBa pmBa anBa cdBa ctBa), slBa⟩) (cBa : PySem.W.codeIn K cdBa "_law_bare" = true) (kBa : PySem.W.keepIn K (.ref gBa) = true)
    (aLa : PySem.W.nsIn K mainGlobals "law" = some (some (.ref gLa))) (lLa : K.lookup gLa = some ⟨ocLa, odLa, .func (PySem.W.fnOf "law" "law" (defArgs sLa) (defBody sLa) (defScope sLa) .none kVLa dcLa pmLa anLa cdLa ctLa), slLa⟩) (cLa : PySem.W.codeIn K cdLa "law" = true) (kLa : PySem.W.keepIn K (.ref gLa) = true)
    (nIsi : PySem.W.nsIn K mainGlobals "isinstance" = some none)    (nVal : PySem.W.nsIn K mainGlobals "ValueError" = some none)    (nRng : PySem.W.nsIn K mainGlobals "range" = some none)    (nLen : PySem.W.nsIn K mainGlobals "len" = some none)    (nInt : PySem.W.nsIn K mainGlobals "int" = some none)    (nMax : PySem.W.nsIn K mainGlobals "max" = some none)    (nLst : PySem.W.nsIn K mainGlobals "list" = some none)    (nDct : PySem.W.nsIn K mainGlobals "dict" = some none)    (nRep : PySem.W.nsIn K mainGlobals "repr" = some none) :
    ∃ fd : FuncData, (∀ (s : Shared) (v : Value), BindsTo s fd ⟨[v], []⟩ [("_law_script", v)]) ∧ ∀ base : Heap, K.In base → base.Ns mainGlobals mg → FnG P w K mg base CX0 4 fa fd ["_law_script"] (spLa K) := by
  have e := hfa.symm.trans (PySem.W.mg_of X G aLa)
  cases e
  have FCe := fun_mk (st := sCe) lCe cCe kCe
  have FHa := fun_mk (st := sHa) lHa cHa kHa
  have FGe := fun_mk (st := sGe) lGe cGe kGe
  have FRa := fun_mk (st := sRa) lRa cRa kRa
  have FKi := fun_mk (st := sKi) lKi cKi kKi
  have FFi := fun_mk (st := sFi) lFi cFi kFi
  have FRi := fun_mk (st := sRi) lRi cRi kRi
  have FPl := fun_mk (st := sPl) lPl cPl kPl
  have FNa := fun_mk (st := sNa) lNa cNa kNa
  have FBa := fun_mk (st := sBa) lBa cBa kBa
  have FLa := fun_mk (st := sLa) lLa cLa kLa
  have bCe := FCe.binds (ps := ["_law_script", "_law_index"]) fun _ _ _ _ _ _ us hl => match us, hl with | [_, _], _ => rfl
  have bHa := FHa.binds (ps := ["_law_seed", "_law_index"]) fun _ _ _ _ _ _ us hl => match us, hl with | [_, _], _ => rfl
  have bGe := FGe.binds (ps := ["_law_script", "_law_index"]) fun _ _ _ _ _ _ us hl => match us, hl with | [_, _], _ => rfl
  have bRa := FRa.binds (ps := ["_law_generator_here", "_law_bound"]) fun _ _ _ _ _ _ us hl => match us, hl with | [_, _], _ => rfl
  have bKi := FKi.binds (ps := ["_law_error"]) fun _ _ _ _ _ _ us hl => match us, hl with | [_], _ => rfl
  have bFi := FFi.binds (ps := ["_law_errors"]) fun _ _ _ _ _ _ us hl => match us, hl with | [_], _ => rfl
  have bRi := FRi.binds (ps := ["_law_errors", "_law_given"]) fun _ _ _ _ _ _ us hl => match us, hl with | [_, _], _ => rfl
  have bPl := FPl.binds (ps := ["_law_given"]) fun _ _ _ _ _ _ us hl => match us, hl with | [_], _ => rfl
  have bNa := FNa.binds (ps := ["_law_given"]) fun _ _ _ _ _ _ us hl => match us, hl with | [_], _ => rfl
  have bBa := FBa.binds (ps := []) fun _ _ _ _ _ _ us hl => match us, hl with | [], _ => rfl
  have m := fun (n : Str) (g : Addr) (e : PySem.W.nsIn K mainGlobals n = some (some (.ref g))) => PySem.W.mg_of X G e
  refine ⟨_, fun s v => BindsTo.of_eq (show bindArgs (PySem.W.fnOf "law" "law" (defArgs sLa) (defBody sLa) (defScope sLa) .none kVLa dcLa pmLa anLa cdLa ctLa) ⟨[v], []⟩ = _ from rfl), fun base _ _ => ?_⟩
  have A := cls_all (P := P) (w := w) (K := K) (mg := mg) (base := base) (cs := [c0, c1, c2, c3, c4, c5, c6, c7, c8, c9, c10, c11, c12, c13, c14, c15, c16, c17, c18]) (fs := [f0, f1, f2, f3, f4, f5, f6, f7, f8, f9, f10, f11, f12, f13, f14, f15, f16, f17]) (fds := [fd0, fd1, fd2, fd3, fd4, fd5, fd6, fd7, fd8, fd9, fd10, fd11, fd12, fd13, fd14, fd15, fd16, fd17]) (dflt := fd0) (h0 base) (h1 base) (h2 base) (h3 base) (h4 base) (h5 base) (h6 base) (h7 base) (h8 base) (h9 base) (h10 base) (h11 base) (h12 base) (h13 base) (h14 base) (h15 base) (h16 base) (h17 base)
  have T : T1 P w K mg base (fun i => ([c0, c1, c2, c3, c4, c5, c6, c7, c8, c9, c10, c11, c12, c13, c14, c15, c16, c17, c18] : List Addr).getD i 0) (fun i => ([f0, f1, f2, f3, f4, f5, f6, f7, f8, f9, f10, f11, f12, f13, f14, f15, f16, f17] : List Addr).getD i 0) (fun i => ([fd0, fd1, fd2, fd3, fd4, fd5, fd6, fd7, fd8, fd9, fd10, fd11, fd12, fd13, fd14, fd15, fd16, fd17] : List FuncData).getD i fd0) cS :=
    ⟨fun i hi => (A i hi).er, fun i hi => (A i hi).fi, fun i hi => (A i hi).b1, fun i hi => (A i hi).bK, fun i hi => (A i hi).bD, x18, q18, k18, mgs_all (PySem.W.mg_of X G a0) (PySem.W.mg_of X G a1) (PySem.W.mg_of X G a2) (PySem.W.mg_of X G a3) (PySem.W.mg_of X G a4) (PySem.W.mg_of X G a5) (PySem.W.mg_of X G a6) (PySem.W.mg_of X G a7) (PySem.W.mg_of X G a8) (PySem.W.mg_of X G a9) (PySem.W.mg_of X G a10) (PySem.W.mg_of X G a11) (PySem.W.mg_of X G a12) (PySem.W.mg_of X G a13) (PySem.W.mg_of X G a14) (PySem.W.mg_of X G a15) (PySem.W.mg_of X G a16) (PySem.W.mg_of X G a17) (PySem.W.mg_of X G a18), PySem.W.mg_of X G aS, fun i hi j hj => (kitTab_at tab hi).2.2 j hj, fun i hi => (kitTab_at tab hi).1, fun i hi => (kitTab_at tab hi).2.1, PySem.W.mg_none_of X G nIsi, PySem.W.mg_none_of X G nVal, PySem.W.mg_none_of X G nRng, PySem.W.mg_none_of X G nLen, PySem.W.mg_none_of X G nInt, PySem.W.mg_none_of X G nMax, PySem.W.mg_none_of X G nLst, PySem.W.mg_none_of X G nDct, PySem.W.mg_none_of X G nRep⟩
  have oCe := ok_ce FCe T
  have oHa := ok_ha FHa T
  have oGe := ok_ge FGe T oCe (PySem.W.mg_of X G aCe) kCe bCe
  have oRa := ok_ra FRa T oHa (PySem.W.mg_of X G aHa) kHa bHa
  have oKi := ok_ki FKi T
  have oFi := ok_fi FFi T
  have oRi := ok_ri FRi T oKi (PySem.W.mg_of X G aKi) kKi bKi oFi (PySem.W.mg_of X G aFi) kFi bFi
  have oPl := ok_pl FPl T
  have oNa := ok_na FNa T
  have oBa := ok_ba FBa T
  exact ok_la FLa T ⟨oRa, oGe, oPl, oNa, oBa, oKi, oRi, PySem.W.mg_of X G aRa, PySem.W.mg_of X G aGe, PySem.W.mg_of X G aPl, PySem.W.mg_of X G aNa, PySem.W.mg_of X G aBa, PySem.W.mg_of X G aKi, PySem.W.mg_of X G aRi, kRa, kGe, kPl, kNa, kBa, kKi, kRi, bRa, bGe, bPl, bNa, bBa, bKi, bRi⟩
theorem walk {l : PySem.W.OpenLaw} {q : Program} {loose : List Str} {XP : (Str → Option Value) → Heap → Prop} {YP : World → Heap → Prop} {d : DefRec} {K : Params → PySem.W.Frag} (hn : l.most = some 63) (hdf : d.params.defaults = []) (hY : ∀ (w : World) (h : Heap), YP w h → (K w.params).In h)
    (F : ∀ (w : World) (mg : Str → Option Value) (fa : Addr) (h : Heap), (K w.params).In h → h.Ns mainGlobals mg → mg d.name = some (.ref fa) → ∃ fd : FuncData, (∀ (s : Shared) (u : Value), BindsTo s fd ⟨[u], []⟩ [("_law_script", u)]) ∧
      ∀ base : Heap, (K w.params).In base → base.Ns mainGlobals mg → FnG l.prog w (K w.params) mg base CX0 4 fa fd ["_law_script"] (spLa (K w.params))) : PySem.W.WalkO q loose XP YP l.row.toRowW d [] (fun f vs => PySem.call f vs) :=
  walkG (n := 63) (k := 4) (x := "_law_script") (sp := spLa) hn (by decide) hdf ⟨rfl, by decide, by decide⟩ hY F fun _ _ a ns _ _ hS => ⟨a, ns, rfl, hS, fun _ => rfl⟩
end L2.Er

open PySem PySem.W PyProof.Rows
set_option maxRecDepth 100000 in
set_option maxHeartbeats 0 in
theorem PySem.Challenge.cw_latesums_k01_errors_holds : PySem.Challenge.rw_latesums_k01_errors.Holds := by
  w_on; o_law; k_head; (case hw => w_witness2)
  k_fill
  refine L2.Er.walk (l := PySem.Challenge.rw_latesums_k01_errors) rfl rfl (fun w h Y => PySem.W.kIn_of Y) ?F
  case F =>
    intro w mg fa h KX G hmg
    refine' L2.Er.all_mk KX G hmg ?a0 ?a1 ?a2 ?a3 ?a4 ?a5 ?a6 ?a7 ?a8 ?a9 ?a10 ?a11 ?a12 ?a13 ?a14 ?a15 ?a16 ?a17 ?a18 ?aS ?h0 ?h1 ?h2 ?h3 ?h4 ?h5 ?h6 ?h7 ?h8 ?h9 ?h10 ?h11 ?h12 ?h13 ?h14 ?h15 ?h16 ?h17 ?q18 ?k18 ?x18 ?tab ?aCe ?lCe ?cCe ?kCe ?aHa ?lHa ?cHa ?kHa ?aGe ?lGe ?cGe ?kGe ?aRa ?lRa ?cRa ?kRa ?aKi ?lKi ?cKi ?kKi ?aFi ?lFi ?cFi ?kFi ?aRi ?lRi ?cRi ?kRi ?aPl ?lPl ?cPl ?kPl ?aNa ?lNa ?cNa ?kNa ?aBa ?lBa ?cBa ?kBa ?aLa ?lLa ?cLa ?kLa ?nIsi ?nVal ?nRng ?nLen ?nInt ?nMax ?nLst ?nDct ?nRep
    (case a0 => k_is)
    (case a1 => k_is)
    (case a2 => k_is)
    (case a3 => k_is)
    (case a4 => k_is)
    (case a5 => k_is)
    (case a6 => k_is)
    (case a7 => k_is)
    (case a8 => k_is)
    (case a9 => k_is)
    (case a10 => k_is)
    (case a11 => k_is)
    (case a12 => k_is)
    (case a13 => k_is)
    (case a14 => k_is)
    (case a15 => k_is)
    (case a16 => k_is)
    (case a17 => k_is)
    (case a18 => k_is)
    (case aS => k_is)
    (case h0 => intro base; refine' L2.Er.cl_mk (.inl rfl) ?xC ?rC ?sa ?ga ?gg ?nb ?ii ?ti ?li ?ci ?lt ?dt ?kf ?kc ?ex ?ty ?hd ?cl ?mo ?hn ?ht; (case xC => k_is); (case rC => decide +kernel); (case sa => k_is); (case ga => k_is); (case gg => k_is); (case nb => k_is); (case ii => k_is); (case ti => k_is); (case li => k_is); (case ci => k_is); (case lt => k_is); (case dt => exact rfl); (case kf => k_is); (case kc => k_is); (case ex => k_is); (case ty => k_is); (case hd => k_is); (case cl => k_is); (case mo => k_is); (case hn => k_is); (case ht => k_is))
    (case h1 => intro base; refine' L2.Er.cl_mk (.inl rfl) ?xC ?rC ?sa ?ga ?gg ?nb ?ii ?ti ?li ?ci ?lt ?dt ?kf ?kc ?ex ?ty ?hd ?cl ?mo ?hn ?ht; (case xC => k_is); (case rC => decide +kernel); (case sa => k_is); (case ga => k_is); (case gg => k_is); (case nb => k_is); (case ii => k_is); (case ti => k_is); (case li => k_is); (case ci => k_is); (case lt => k_is); (case dt => exact rfl); (case kf => k_is); (case kc => k_is); (case ex => k_is); (case ty => k_is); (case hd => k_is); (case cl => k_is); (case mo => k_is); (case hn => k_is); (case ht => k_is))
    (case h2 => intro base; refine' L2.Er.cl_mk (.inl rfl) ?xC ?rC ?sa ?ga ?gg ?nb ?ii ?ti ?li ?ci ?lt ?dt ?kf ?kc ?ex ?ty ?hd ?cl ?mo ?hn ?ht; (case xC => k_is); (case rC => decide +kernel); (case sa => k_is); (case ga => k_is); (case gg => k_is); (case nb => k_is); (case ii => k_is); (case ti => k_is); (case li => k_is); (case ci => k_is); (case lt => k_is); (case dt => exact rfl); (case kf => k_is); (case kc => k_is); (case ex => k_is); (case ty => k_is); (case hd => k_is); (case cl => k_is); (case mo => k_is); (case hn => k_is); (case ht => k_is))
    (case h3 => intro base; refine' L2.Er.cl_mk (.inl rfl) ?xC ?rC ?sa ?ga ?gg ?nb ?ii ?ti ?li ?ci ?lt ?dt ?kf ?kc ?ex ?ty ?hd ?cl ?mo ?hn ?ht; (case xC => k_is); (case rC => decide +kernel); (case sa => k_is); (case ga => k_is); (case gg => k_is); (case nb => k_is); (case ii => k_is); (case ti => k_is); (case li => k_is); (case ci => k_is); (case lt => k_is); (case dt => exact rfl); (case kf => k_is); (case kc => k_is); (case ex => k_is); (case ty => k_is); (case hd => k_is); (case cl => k_is); (case mo => k_is); (case hn => k_is); (case ht => k_is))
    (case h4 => intro base; refine' L2.Er.cl_mk (.inl rfl) ?xC ?rC ?sa ?ga ?gg ?nb ?ii ?ti ?li ?ci ?lt ?dt ?kf ?kc ?ex ?ty ?hd ?cl ?mo ?hn ?ht; (case xC => k_is); (case rC => decide +kernel); (case sa => k_is); (case ga => k_is); (case gg => k_is); (case nb => k_is); (case ii => k_is); (case ti => k_is); (case li => k_is); (case ci => k_is); (case lt => k_is); (case dt => exact rfl); (case kf => k_is); (case kc => k_is); (case ex => k_is); (case ty => k_is); (case hd => k_is); (case cl => k_is); (case mo => k_is); (case hn => k_is); (case ht => k_is))
    (case h5 => intro base; refine' L2.Er.cl_mk (.inl rfl) ?xC ?rC ?sa ?ga ?gg ?nb ?ii ?ti ?li ?ci ?lt ?dt ?kf ?kc ?ex ?ty ?hd ?cl ?mo ?hn ?ht; (case xC => k_is); (case rC => decide +kernel); (case sa => k_is); (case ga => k_is); (case gg => k_is); (case nb => k_is); (case ii => k_is); (case ti => k_is); (case li => k_is); (case ci => k_is); (case lt => k_is); (case dt => exact rfl); (case kf => k_is); (case kc => k_is); (case ex => k_is); (case ty => k_is); (case hd => k_is); (case cl => k_is); (case mo => k_is); (case hn => k_is); (case ht => k_is))
    (case h6 => intro base; refine' L2.Er.cl_mk (.inl rfl) ?xC ?rC ?sa ?ga ?gg ?nb ?ii ?ti ?li ?ci ?lt ?dt ?kf ?kc ?ex ?ty ?hd ?cl ?mo ?hn ?ht; (case xC => k_is); (case rC => decide +kernel); (case sa => k_is); (case ga => k_is); (case gg => k_is); (case nb => k_is); (case ii => k_is); (case ti => k_is); (case li => k_is); (case ci => k_is); (case lt => k_is); (case dt => exact rfl); (case kf => k_is); (case kc => k_is); (case ex => k_is); (case ty => k_is); (case hd => k_is); (case cl => k_is); (case mo => k_is); (case hn => k_is); (case ht => k_is))
    (case h7 => intro base; refine' L2.Er.cl_mk (.inl rfl) ?xC ?rC ?sa ?ga ?gg ?nb ?ii ?ti ?li ?ci ?lt ?dt ?kf ?kc ?ex ?ty ?hd ?cl ?mo ?hn ?ht; (case xC => k_is); (case rC => decide +kernel); (case sa => k_is); (case ga => k_is); (case gg => k_is); (case nb => k_is); (case ii => k_is); (case ti => k_is); (case li => k_is); (case ci => k_is); (case lt => k_is); (case dt => exact rfl); (case kf => k_is); (case kc => k_is); (case ex => k_is); (case ty => k_is); (case hd => k_is); (case cl => k_is); (case mo => k_is); (case hn => k_is); (case ht => k_is))
    (case h8 => intro base; refine' L2.Er.cl_mk (.inl rfl) ?xC ?rC ?sa ?ga ?gg ?nb ?ii ?ti ?li ?ci ?lt ?dt ?kf ?kc ?ex ?ty ?hd ?cl ?mo ?hn ?ht; (case xC => k_is); (case rC => decide +kernel); (case sa => k_is); (case ga => k_is); (case gg => k_is); (case nb => k_is); (case ii => k_is); (case ti => k_is); (case li => k_is); (case ci => k_is); (case lt => k_is); (case dt => exact rfl); (case kf => k_is); (case kc => k_is); (case ex => k_is); (case ty => k_is); (case hd => k_is); (case cl => k_is); (case mo => k_is); (case hn => k_is); (case ht => k_is))
    (case h9 => intro base; refine' L2.Er.cl_mk (.inl rfl) ?xC ?rC ?sa ?ga ?gg ?nb ?ii ?ti ?li ?ci ?lt ?dt ?kf ?kc ?ex ?ty ?hd ?cl ?mo ?hn ?ht; (case xC => k_is); (case rC => decide +kernel); (case sa => k_is); (case ga => k_is); (case gg => k_is); (case nb => k_is); (case ii => k_is); (case ti => k_is); (case li => k_is); (case ci => k_is); (case lt => k_is); (case dt => exact rfl); (case kf => k_is); (case kc => k_is); (case ex => k_is); (case ty => k_is); (case hd => k_is); (case cl => k_is); (case mo => k_is); (case hn => k_is); (case ht => k_is))
    (case h10 => intro base; refine' L2.Er.cl_mk (.inl rfl) ?xC ?rC ?sa ?ga ?gg ?nb ?ii ?ti ?li ?ci ?lt ?dt ?kf ?kc ?ex ?ty ?hd ?cl ?mo ?hn ?ht; (case xC => k_is); (case rC => decide +kernel); (case sa => k_is); (case ga => k_is); (case gg => k_is); (case nb => k_is); (case ii => k_is); (case ti => k_is); (case li => k_is); (case ci => k_is); (case lt => k_is); (case dt => exact rfl); (case kf => k_is); (case kc => k_is); (case ex => k_is); (case ty => k_is); (case hd => k_is); (case cl => k_is); (case mo => k_is); (case hn => k_is); (case ht => k_is))
    (case h11 => intro base; refine' L2.Er.cl_mk (.inl rfl) ?xC ?rC ?sa ?ga ?gg ?nb ?ii ?ti ?li ?ci ?lt ?dt ?kf ?kc ?ex ?ty ?hd ?cl ?mo ?hn ?ht; (case xC => k_is); (case rC => decide +kernel); (case sa => k_is); (case ga => k_is); (case gg => k_is); (case nb => k_is); (case ii => k_is); (case ti => k_is); (case li => k_is); (case ci => k_is); (case lt => k_is); (case dt => exact rfl); (case kf => k_is); (case kc => k_is); (case ex => k_is); (case ty => k_is); (case hd => k_is); (case cl => k_is); (case mo => k_is); (case hn => k_is); (case ht => k_is))
    (case h12 => intro base; refine' L2.Er.cl_mk (.inl rfl) ?xC ?rC ?sa ?ga ?gg ?nb ?ii ?ti ?li ?ci ?lt ?dt ?kf ?kc ?ex ?ty ?hd ?cl ?mo ?hn ?ht; (case xC => k_is); (case rC => decide +kernel); (case sa => k_is); (case ga => k_is); (case gg => k_is); (case nb => k_is); (case ii => k_is); (case ti => k_is); (case li => k_is); (case ci => k_is); (case lt => k_is); (case dt => exact rfl); (case kf => k_is); (case kc => k_is); (case ex => k_is); (case ty => k_is); (case hd => k_is); (case cl => k_is); (case mo => k_is); (case hn => k_is); (case ht => k_is))
    (case h13 => intro base; refine' L2.Er.cl_mk (.inl rfl) ?xC ?rC ?sa ?ga ?gg ?nb ?ii ?ti ?li ?ci ?lt ?dt ?kf ?kc ?ex ?ty ?hd ?cl ?mo ?hn ?ht; (case xC => k_is); (case rC => decide +kernel); (case sa => k_is); (case ga => k_is); (case gg => k_is); (case nb => k_is); (case ii => k_is); (case ti => k_is); (case li => k_is); (case ci => k_is); (case lt => k_is); (case dt => exact rfl); (case kf => k_is); (case kc => k_is); (case ex => k_is); (case ty => k_is); (case hd => k_is); (case cl => k_is); (case mo => k_is); (case hn => k_is); (case ht => k_is))
    (case h14 => intro base; refine' L2.Er.cl_mk (.inr rfl) ?xC ?rC ?sa ?ga ?gg ?nb ?ii ?ti ?li ?ci ?lt ?dt ?kf ?kc ?ex ?ty ?hd ?cl ?mo ?hn ?ht; (case xC => k_is); (case rC => decide +kernel); (case sa => k_is); (case ga => k_is); (case gg => k_is); (case nb => k_is); (case ii => k_is); (case ti => k_is); (case li => k_is); (case ci => k_is); (case lt => k_is); (case dt => exact rfl); (case kf => k_is); (case kc => k_is); (case ex => k_is); (case ty => k_is); (case hd => k_is); (case cl => k_is); (case mo => k_is); (case hn => k_is); (case ht => k_is))
    (case h15 => intro base; refine' L2.Er.cl_mk (.inr rfl) ?xC ?rC ?sa ?ga ?gg ?nb ?ii ?ti ?li ?ci ?lt ?dt ?kf ?kc ?ex ?ty ?hd ?cl ?mo ?hn ?ht; (case xC => k_is); (case rC => decide +kernel); (case sa => k_is); (case ga => k_is); (case gg => k_is); (case nb => k_is); (case ii => k_is); (case ti => k_is); (case li => k_is); (case ci => k_is); (case lt => k_is); (case dt => exact rfl); (case kf => k_is); (case kc => k_is); (case ex => k_is); (case ty => k_is); (case hd => k_is); (case cl => k_is); (case mo => k_is); (case hn => k_is); (case ht => k_is))
    (case h16 => intro base; refine' L2.Er.cl_mk (.inr rfl) ?xC ?rC ?sa ?ga ?gg ?nb ?ii ?ti ?li ?ci ?lt ?dt ?kf ?kc ?ex ?ty ?hd ?cl ?mo ?hn ?ht; (case xC => k_is); (case rC => decide +kernel); (case sa => k_is); (case ga => k_is); (case gg => k_is); (case nb => k_is); (case ii => k_is); (case ti => k_is); (case li => k_is); (case ci => k_is); (case lt => k_is); (case dt => exact rfl); (case kf => k_is); (case kc => k_is); (case ex => k_is); (case ty => k_is); (case hd => k_is); (case cl => k_is); (case mo => k_is); (case hn => k_is); (case ht => k_is))
    (case h17 => intro base; refine' L2.Er.cl_mk (.inr rfl) ?xC ?rC ?sa ?ga ?gg ?nb ?ii ?ti ?li ?ci ?lt ?dt ?kf ?kc ?ex ?ty ?hd ?cl ?mo ?hn ?ht; (case xC => k_is); (case rC => decide +kernel); (case sa => k_is); (case ga => k_is); (case gg => k_is); (case nb => k_is); (case ii => k_is); (case ti => k_is); (case li => k_is); (case ci => k_is); (case lt => k_is); (case dt => exact rfl); (case kf => k_is); (case kc => k_is); (case ex => k_is); (case ty => k_is); (case hd => k_is); (case cl => k_is); (case mo => k_is); (case hn => k_is); (case ht => k_is))
    (case q18 => k_exc); (case k18 => k_is)
    (case x18 => refine' ⟨?ga, ?gg, ?ex, ?hd, ?cl, ?hn, ?ht, ?mo⟩; (case ga => k_is); (case gg => k_is); (case ex => k_is); (case hd => k_is); (case cl => k_is); (case hn => k_is); (case ht => k_is); (case mo => k_is))
    (case tab => kernel_rfl)
    (case aCe => k_is); (case lCe => k_is); (case cCe => k_is); (case kCe => k_is)
    (case aHa => k_is); (case lHa => k_is); (case cHa => k_is); (case kHa => k_is)
    (case aGe => k_is); (case lGe => k_is); (case cGe => k_is); (case kGe => k_is)
    (case aRa => k_is); (case lRa => k_is); (case cRa => k_is); (case kRa => k_is)
    (case aKi => k_is); (case lKi => k_is); (case cKi => k_is); (case kKi => k_is)
    (case aFi => k_is); (case lFi => k_is); (case cFi => k_is); (case kFi => k_is)
    (case aRi => k_is); (case lRi => k_is); (case cRi => k_is); (case kRi => k_is)
    (case aPl => k_is); (case lPl => k_is); (case cPl => k_is); (case kPl => k_is)
    (case aNa => k_is); (case lNa => k_is); (case cNa => k_is); (case kNa => k_is)
    (case aBa => k_is); (case lBa => k_is); (case cBa => k_is); (case kBa => k_is)
    (case aLa => k_is); (case lLa => k_is); (case cLa => k_is); (case kLa => k_is)
    (case nIsi => k_is); (case nVal => k_is); (case nRng => k_is); (case nLen => k_is); (case nInt => k_is); (case nMax => k_is); (case nLst => k_is); (case nDct => k_is); (case nRep => k_is)
