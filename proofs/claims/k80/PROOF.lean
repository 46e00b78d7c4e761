import PyProof.Rows.All
import Wide.All
import OpenK.AllK
import Wide.FinOn
import HandS.ForMost
import HandS.IsInst
import HandS.Walk
import HandS.Conv
import HandS.Style
import HandS.Flow
import PyProof.ListStr
import PyProof.ReprRoads
import HandS.Set
import HandS.SetTxt0
import PyProof.Rows.SetFrom
import PyProof.Rows.SortStr
import HandS.SetKeys
import HandS.ExcInit
import KE.KExcInit
import KE.KExcIs
import KE.KIsAll
import HandS.ExcValue
import HandS.HotCalls
import HandS.ExcValueHot
import HandS.TryOnly
import PyProof.ReprLen
import HandS.Codes
import PySem.Challenge.RW_amidread_k80_errors
import PyProof.ReprBulk
set_option Elab.async false
set_option linter.all false
set_option maxRecDepth 100000
set_option maxHeartbeats 2000000
namespace Ami
open PySem PySem.Spec PyProof.Rows L2

/-! ### texts -/
/-- a text of one sign -/
def one (c : Nat) : Str := ⟨#[c]⟩
/-- the signs of a text, each as a text -/
def letts (z : Str) : List Str := z.cps.toList.map one
theorem letts_length (z : Str) : (letts z).length = z.length := by
  unfold letts
  rw [List.length_map, Array.length_toList]
  rfl

section
variable {X : Cx}
/-- list(z) -/
theorem cr_listStr (hc : X.calm = true) : CallR X (.type "list") (fun vs H Q => ∃ z : Str, vs = [.str z] ∧ z.length ≤ sizeLine ∧ ∀ p, H p = none → Q (.ref p) (upd H p (.lst ((letts z).map V.str)))) := by
  intro pins s σ H vs us Q I r h
  obtain ⟨z, rfl, hz, q⟩ := h
  obtain ⟨u, rfl, t, rfl⟩ := vals1 r
  refine call_list_str (I.ok.hd hc) z t (fun h' tk acc c' k hS hacc => ?_) hz
  have hl : acc.size = z.cps.size := hacc.1
  have hv : Vals ((letts z).map V.str) acc.toList := by
    refine vals_of_at ?_ fun j x u hx hu => ?_
    · rw [List.length_map, letts_length, Array.length_toList, hl]; rfl
    · have hu' : acc[j]? = some u := by rw [← Array.getElem?_toList]; exact hu
      have hj : j < acc.size := (Array.getElem?_eq_some_iff.mp hu').1
      obtain ⟨c, t', e1, e2⟩ := hacc.2 j u hu'
      subst e2
      have e3 : (letts z)[j]? = some (one c) := by
        unfold letts
        rw [List.getElem?_map, Array.getElem?_toList, e1]; rfl
      rw [List.getElem?_map, e3] at hx
      cases hx
      exact ⟨t', rfl⟩
  refine ⟨.ref s.heap.objs.size, _, I.laid (t' := tk) k (Nat.le_refl _) (show ObjOk X.prog X.w _ h' _ (.lst ((letts z).map V.str)) from ⟨?_, acc.toList, c', hv, by simpa using hS⟩), rfl, q _ (I.hok.fresh (Nat.le_refl _))⟩
  rw [List.length_map, letts_length]; exact hz

/-- z * n, as a text -/
def repS (z : Str) (n : Nat) : Str := ⟨(List.replicate n z.cps.toList).flatten.toArray⟩
theorem flat_rep (l : List Nat) : ∀ (n : Nat) (acc : List Nat), (List.replicate n l.toArray).foldl (· ++ ·) acc.toArray = (acc ++ (List.replicate n l).flatten).toArray := by
  intro n
  induction n with
  | zero => intro acc; simp
  | succ n ih =>
    intro acc
    rw [List.replicate_succ, List.foldl_cons, List.append_toArray, ih, List.replicate_succ, List.flatten_cons, List.append_assoc]
theorem repS_length (z : Str) (n : Nat) : (repS z n).length = n * z.length := by
  show ((List.replicate n z.cps.toList).flatten.toArray).size = n * z.cps.size
  rw [List.size_toArray, List.length_flatten, List.map_replicate, List.sum_replicate_nat, Array.length_toList]
theorem repS_mem {z : Str} {n c : Nat} (h : c ∈ (repS z n).cps.toList) : c ∈ z.cps.toList := by
  have h' : c ∈ (List.replicate n z.cps.toList).flatten := h
  obtain ⟨l, h1, h2⟩ := List.mem_flatten.mp h'
  rw [(List.mem_replicate.mp h1).2] at h2
  exact h2
/-- text * int -/
theorem op_repS : OpR X (binaryOp .Mult) (fun x y H Q => ∃ (z : Str) (n : Nat), x = .str z ∧ y = .int n ∧ n * z.length ≤ sizeLine ∧ n < 2 ^ 62 ∧ Q (.str (repS z n)) H) := by
  intro pins s σ H x y v u Q I rx ry h
  obtain ⟨z, n, rfl, rfl, hz, hn, q⟩ := h
  obtain ⟨t, rfl⟩ := rx
  obtain ⟨t', rfl⟩ := ry
  have hline := sizeLine_eq
  have e0 : (List.replicate n z.cps).foldl (· ++ ·) #[] = (repS z n).cps := by
    have := flat_rep z.cps.toList n []
    simpa [repS] using this
  have fin : ∀ t' k, EP X pins σ Q (.str (repS z n) t') { s with toks := k } := fun t' k => ⟨.str (repS z n), H, I.tok _, ⟨t', rfl⟩, q⟩
  refine PySem.P.mul_str ?_ ?_ ?_ ?_
  · have h1 : ¬ ((n : Int) < -(2 ^ 63 : Int)) := by omega
    have h2 : ¬ ((n : Int) ≥ 2 ^ 63) := by omega
    rw [decide_eq_false h1, decide_eq_false h2]; rfl
  · intro h1 _
    have hn0 : 0 < n := by omega
    have hz' : z.length ≤ n * z.length := Nat.le_mul_of_pos_left _ hn0
    have hq : (2 ^ 63 - 1 : Int) / n ≥ z.length := by
      refine Int.le_ediv_of_mul_le (by omega) ?_
      have e : (z.length : Int) * (n : Int) = ((n * z.length : Nat) : Int) := by
        rw [Nat.mul_comm n z.length]; exact (Int.natCast_mul _ _).symm
      rw [e]
      omega
    omega
  · intro h1 _
    show decide (z.length * n > sizeLine) = false
    rw [Nat.mul_comm]
    exact decide_eq_false (by omega)
  · by_cases c1 : (n : Int) < 1
    · rw [if_pos c1]
      have hn0 : n = 0 := by omega
      subst hn0
      exact ⟨Nat.zero_le _, by have e : Str.empty = repS z 0 := by simp [repS, Str.empty]
                               rw [e]; exact fin _ _⟩
    · rw [if_neg c1]
      by_cases c2 : ((n : Int) == 1 || z.length == 0) = true
      · rw [if_pos c2]
        have e : z = repS z n := by
          rcases (Bool.or_eq_true _ _).mp c2 with k | k
          · have : n = 1 := by have := of_decide_eq_true k; omega
            subst this
            simp [repS]
          · have k' : z.length = 0 := by simpa using k
            have z0 : z.cps = #[] := Array.eq_empty_of_size_eq_zero k'
            obtain ⟨a⟩ := z
            simp only at z0
            subst z0
            simp [repS]
        show EP X pins σ Q (.str z t) s
        exact ⟨.str z, H, I, ⟨t, rfl⟩, by rw [e]; exact q⟩
      · rw [if_neg c2]
        refine ⟨?_, ?_⟩
        · show ((List.replicate ((n : Int)).toNat z.cps).foldl (· ++ ·) #[]).size ≤ sizeLine
          rw [Int.toNat_natCast, e0]
          have := repS_length z n
          unfold Str.length at this
          rw [this]
          exact hz
        · have e1 : (⟨(List.replicate ((n : Int)).toNat z.cps).foldl (· ++ ·) #[]⟩ : Str) = repS z n := by
            rw [Int.toNat_natCast, e0]
          rw [e1]
          exact fin _ _

/-- z[::-1], as a text -/
def revS (z : Str) : Str := ⟨z.cps.toList.reverse.toArray⟩
theorem revS_length (z : Str) : (revS z).length = z.length := by
  show z.cps.toList.reverse.toArray.size = z.cps.size
  rw [List.size_toArray, List.length_reverse, Array.length_toList]
def tRevS (te : TE) : TE := fun σ H Q => te σ H fun x H1 => ∃ z : Str, x = .str z ∧ z.length ≤ sizeLine ∧ Q (.str (revS z)) H1
theorem sliceMade_rev (z : Str) (t uk : Tok) : sliceMade z t none none (some (-1, uk)) = .str (revS z) := by
  unfold sliceMade
  rw [if_neg (by simp)]
  have e : slicePicked z none none (some (-1, uk)) = (List.range z.length).map fun k => z.length - 1 - k := by
    show sliceRange ((z.length : Int) - 1) (-1) (-1) = _
    exact PySem.W.krv_sliceRange z.length
  rw [e]
  have e2 := PySem.W.krv_range z.length
  rw [e2, List.filterMap_reverse]
  have e3 := PySem.W.krv_all z.cps
  unfold Str.length
  rw [e3]
  rfl
theorem pe_revS {e : Expr} {te : TE} {k : Nat} {p1 p2 p3 pos : Pos} (he : PE X e te) : PE X (.Subscript e (.Slice none none (some (.UnaryOp .USub (.Constant (.int 1) k p1) p2)) p3) pos) (tRevS te) := by
  refine ⟨fun pins s σ H Q I h => ?_⟩
  refine Subscript_ (thn (he.run pins s σ H _ I h) fun v s1 ⟨x, H1, I1, r1, z, ex, hz, q⟩ => ?_)
  subst ex
  obtain ⟨t, rfl⟩ := r1
  have hst : PO X (some (.UnaryOp .USub (.Constant (.int 1) k p1) p2)) (tPart (tUn (rU fun i => .int (-i)) (tC (.int 1)))) := po_some (pe_un un_neg pe_int)
  refine wpAny_Slice (thn (po_none.run pins s1 σ H1 (fun o H2 => o = none ∧ H2 = H1) I1 ⟨rfl, rfl⟩) fun vl s2 ⟨l, H2, I2, pl, el, e2⟩ => ?_)
  subst el e2
  refine thn (po_none.run pins s2 σ H2 (fun o H3 => o = none ∧ H3 = H2) I2 ⟨rfl, rfl⟩) fun vu s3 ⟨u, H3, I3, pu, eu, e3⟩ => ?_
  subst eu e3
  refine thn (hst.run pins s3 σ H3 (fun o H4 => o = some (-1) ∧ H4 = H3) I3 ⟨1, rfl, -1, rfl, rfl, rfl⟩) fun vs s4 ⟨o, H4, I4, ps, eo, e4⟩ => ?_
  subst eo e4
  have I5 : Inv X pins σ H4 { s4 with heap := s4.heap.push { cls := .type "slice", data := .fields #[vl, vu, vs] } } := I4.kept (t' := s4.toks) fun b ob q => Heap.get?_push_of_some _ q
  obtain ⟨l0, e1, e2⟩ := IsPart.raw pl
  obtain ⟨u0, e3, e4⟩ := IsPart.raw pu
  obtain ⟨k0, e5, e6⟩ := IsPart.raw ps
  have l00 : l0 = none := by cases l0 with | none => rfl | some p => cases e2
  have u00 : u0 = none := by cases u0 with | none => rfl | some p => cases e4
  obtain ⟨uk, k00⟩ : ∃ uk, k0 = some (-1, uk) := by
    cases k0 with
    | none => cases e6
    | some p =>
      obtain ⟨i, uk⟩ := p
      have : i = -1 := Option.some.inj e6
      subst this
      exact ⟨uk, rfl⟩
  subst l00 u00 k00 e1 e3 e5
  show wpAny (model X.prog X.w) X.A (subscriptTail e (.Slice none none (some (.UnaryOp .USub (.Constant (.int 1) k p1) p2)) p3) (.str z t) (.ref s4.heap.objs.size)) (EP X pins σ Q) X.xe { s4 with heap := s4.heap.push { cls := .type "slice", data := .fields #[partValue none, partValue none, partValue (some (-1, uk))] } }
  refine tail_any (ops := [.ref s4.heap.objs.size, .str z t]) (typeIs_str _ _ _) (PySem.F.slot_str_getitem.lookup) ?_ (by with_unfolding_all rfl)
  refine wpAny_getItem_str_slice (l := none) (u := none) (st := some (-1, uk)) ⟨_, Heap.get?_push_size _ rfl, rfl, rfl⟩ rfl ?_
  rw [sliceMade_rev]
  exact ⟨by rw [revS_length]; exact hz, .str (revS z), _, I5.tok _, ⟨_, rfl⟩, q⟩
end

/-! ### what repr shows -/
mutual
inductive Dq (K : PySem.W.Frag) (H : Hp) : V → PyData → Prop
  | non : Dq K H .non .none
  | bl (b : Bool) : Dq K H (.bl b) (.bool b)
  | int (i : Int) : Dq K H (.int i) (.int i)
  | str (x : Str) : Dq K H (.str x) (.str x)
  | lst {a : Addr} {xs : List V} {ds : List PyData} : SqL K H a xs → DqAll K H xs ds → Dq K H (.ref a) (.list ds)
  | tup {a : Addr} {xs : List V} {ds : List PyData} : SqT K H a xs → DqAll K H xs ds → Dq K H (.ref a) (.tuple ds)
  | dct {a : Addr} {kvs : List (Key × V)} {ds : List (PyData × PyData)} : H a = some (.dK kvs) → DqAll K H (kvs.map fun p => kV p.1) (ds.map (·.1)) → DqAll K H (kvs.map (·.2)) (ds.map (·.2)) → Dq K H (.ref a) (.dict ds)
inductive DqAll (K : PySem.W.Frag) (H : Hp) : List V → List PyData → Prop
  | nil : DqAll K H [] []
  | cons {v : V} {vs : List V} {d : PyData} {ds : List PyData} : Dq K H v d → DqAll K H vs ds → DqAll K H (v :: vs) (d :: ds)
end
mutual
theorem Dq.same {K : PySem.W.Frag} {H H' : Hp} (k : ∀ a, (∀ xs, SqL K H a xs → SqL K H' a xs) ∧ (∀ xs, SqT K H a xs → SqT K H' a xs) ∧ ∀ kvs, H a = some (.dK kvs) → H' a = some (.dK kvs)) : ∀ {v : V} {d : PyData}, Dq K H v d → Dq K H' v d
  | _, _, .non => .non
  | _, _, .bl b => .bl b
  | _, _, .int i => .int i
  | _, _, .str x => .str x
  | _, _, .lst h t => .lst ((k _).1 _ h) (DqAll.same k t)
  | _, _, .tup h t => .tup ((k _).2.1 _ h) (DqAll.same k t)
  | _, _, .dct h t u => .dct ((k _).2.2 _ h) (DqAll.same k t) (DqAll.same k u)
theorem DqAll.same {K : PySem.W.Frag} {H H' : Hp} (k : ∀ a, (∀ xs, SqL K H a xs → SqL K H' a xs) ∧ (∀ xs, SqT K H a xs → SqT K H' a xs) ∧ ∀ kvs, H a = some (.dK kvs) → H' a = some (.dK kvs)) : ∀ {vs : List V} {ds : List PyData}, DqAll K H vs ds → DqAll K H' vs ds
  | _, _, .nil => .nil
  | _, _, .cons h t => .cons (Dq.same k h) (DqAll.same k t)
end
theorem pairs_vals {P : Program} {w : World} : ∀ {es : List DictEntry} {vs : List (Key × Value)} {kvs : List (Key × V)}, Pairs (mixKind P w) es vs → KV kvs vs →
    Vals (kvs.map fun p => kV p.1) (es.map (·.key)) ∧ Vals (kvs.map (·.2)) (es.map (·.val))
  | _, _, _, .nil, .nil => ⟨.nil, .nil⟩
  | _, _, _, .cons h1 h2 h3, .cons q1 q2 => by
    obtain ⟨t1, t2⟩ := pairs_vals h3 q2
    refine ⟨.cons ?_ t1, .cons ?_ t2⟩
    · dsimp only; rw [q1.1]; exact keyIs_rel h1
    · dsimp only; rw [h2]; exact q1.2
section
variable {X : Cx} {pins : List (Addr × Obj)} {σ : L2.St} {H : Hp} {s : Shared}
mutual
theorem Dq.reads (I : Inv X pins σ H s) : ∀ {v : V} {d : PyData} (u : Value), Dq X.K H v d → RelV v u → ∃ as, Reads s.heap u d as
  | _, _, _, .non, r => by cases r; exact ⟨_, Reads.none⟩
  | _, _, _, .bl b, r => by cases r; exact ⟨_, Reads.bool b⟩
  | _, _, _, .int i, r => by obtain ⟨t, rfl⟩ := r; exact ⟨_, Reads.int i t⟩
  | _, _, _, .str x, r => by obtain ⟨t, rfl⟩ := r; exact ⟨_, Reads.str x t⟩
  | _, _, _, .lst hs ha, r => by
    cases r
    obtain ⟨its, rv, ⟨o, n, ho, hc, _, hd⟩, _⟩ := I.list hs
    obtain ⟨as, hr⟩ := DqAll.reads I its ha rv
    exact ⟨_, Reads.list ho hc hd hr⟩
  | _, _, _, .tup hs ha, r => by
    cases r
    obtain ⟨its, rv, ⟨o, ho, hc, n, hd⟩, _⟩ := I.tuple hs
    obtain ⟨as, hr⟩ := DqAll.reads I its ha rv
    exact ⟨_, Reads.tuple ho hc hd hr⟩
  | _, _, _, @Dq.dct _ _ a kvs ds ha h1 h2, r => by
    cases r
    obtain ⟨_, _, vs, kv, o, es, ep, ho, hx, hd, _, pr, _⟩ := dk_of I.hok ha
    obtain ⟨p1, p2⟩ := pairs_vals pr kv
    obtain ⟨as, q1⟩ := DqAll.reads I _ h1 p1
    obtain ⟨bs, q2⟩ := DqAll.reads I _ h2 p2
    exact ⟨_, Reads.dict ho hx.1 hd q1 q2⟩
theorem DqAll.reads (I : Inv X pins σ H s) : ∀ {vs : List V} {ds : List PyData} (us : List Value), DqAll X.K H vs ds → Vals vs us → ∃ as, ReadsAll s.heap us ds as
  | _, _, _, .nil, r => by cases r; exact ⟨_, ReadsAll.nil⟩
  | _, _, _, .cons h1 h2, r => by
    cases r with
    | cons r1 r2 =>
      obtain ⟨as, q1⟩ := Dq.reads I _ h1 r1
      obtain ⟨bs, q2⟩ := DqAll.reads I _ h2 r2
      exact ⟨_, ReadsAll.cons q1 q2⟩
end

/-- what has no object of its own -/
def flatD : PyData → Bool
  | .none | .bool _ | .int _ | .str _ => true
  | _ => false
theorem DqAll.flat (I : Inv X pins σ H s) : ∀ {vs : List V} {ds : List PyData} (us : List Value), DqAll X.K H vs ds → ds.all flatD = true → Vals vs us → ReadsAll s.heap us ds []
  | _, _, _, .nil, _, r => by cases r; exact ReadsAll.nil
  | _, _, _, .cons h1 h2, f, r => by
    cases r with
    | cons r1 r2 =>
      rw [List.all_cons, Bool.and_eq_true] at f
      have q2 := DqAll.flat I _ h2 f.2 r2
      cases h1 with
      | non => cases r1; exact ReadsAll.cons Reads.none q2
      | bl b => cases r1; exact ReadsAll.cons (Reads.bool b) q2
      | int i => obtain ⟨t, rfl⟩ := r1; exact ReadsAll.cons (Reads.int i t) q2
      | str x => obtain ⟨t, rfl⟩ := r1; exact ReadsAll.cons (Reads.str x t) q2
      | _ => cases f.1
/-- no dict within, or itself a dict of what has no object of its own -/
def dictFlat : PyData → Bool
  | .dict kvs => (kvs.map (·.1)).all flatD && (kvs.map (·.2)).all flatD
  | d => !d.hasDict
theorem Dq.readsF (I : Inv X pins σ H s) {v : V} {d : PyData} (u : Value) (h : Dq X.K H v d) (r : RelV v u) (f : dictFlat d = true) : ∃ as, Reads s.heap u d as ∧ (d.hasDict = true → sysModules ∉ as) := by
  cases h with
  | @dct a kvs ds ha h1 h2 =>
    cases r
    obtain ⟨_, hsy, vs, kv, o, es, ep, ho, hx, hd, _, pr, _⟩ := dk_of I.hok ha
    obtain ⟨p1, p2⟩ := pairs_vals pr kv
    have f' : ((ds.map (·.1)).all flatD && (ds.map (·.2)).all flatD) = true := f
    rw [Bool.and_eq_true] at f'
    refine ⟨_, Reads.dict ho hx.1 hd (DqAll.flat I _ h1 f'.1 p1) (DqAll.flat I _ h2 f'.2 p2), fun _ m => ?_⟩
    have m' : sysModules = a := by simpa using m
    rw [m'] at hsy
    simp at hsy
  | non => exact (Dq.reads I u .non r).imp fun as q => ⟨q, fun z => by cases z⟩
  | bl b => exact (Dq.reads I u (.bl b) r).imp fun as q => ⟨q, fun z => by cases z⟩
  | int i => exact (Dq.reads I u (.int i) r).imp fun as q => ⟨q, fun z => by cases z⟩
  | str x => exact (Dq.reads I u (.str x) r).imp fun as q => ⟨q, fun z => by cases z⟩
  | lst hs ha =>
    have f' : (!(PyData.list _).hasDict) = true := f
    exact (Dq.reads I u (.lst hs ha) r).imp fun as q => ⟨q, fun z => by rw [z] at f'; cases f'⟩
  | tup hs ha =>
    have f' : (!(PyData.tuple _).hasDict) = true := f
    exact (Dq.reads I u (.tup hs ha) r).imp fun as q => ⟨q, fun z => by rw [z] at f'; cases f'⟩
end
section
variable {X : Cx}
/-- repr(x) -/
def rRepr (K : PySem.W.Frag) : List V → Hp → VK → Prop := fun xs H Q => ∃ (x : V) (d : PyData), xs = [x] ∧ Dq K H x d ∧ dictFlat d = true ∧ d.showable = true ∧ d.shown.length ≤ sizeLine ∧ d.depth ≤ 50 ∧ Q (.str d.shown) H
theorem cr_repr (hg : X.A.guards = some []) (hu : X.A.units + 64 < cLine) : CallR X (.builtin "repr") (rRepr X.K) := by
  intro pins s σ H xs us Q I r h
  obtain ⟨x, d, rfl, hd, hf, hs, hl, hdep, q⟩ := h
  obtain ⟨u, rfl, rx⟩ := vals1 r
  obtain ⟨as, hr, hsm⟩ := Dq.readsF I u hd rx hf
  have hfin : ∀ (h' : Heap) (t : Tok) (tk : Nat), (∀ b o, s.heap.get? b = some o → h'.get? b = some o) → EP X pins σ Q (.str d.shown t) { s with heap := h', toks := tk } :=
    fun h' t tk k => ⟨.str d.shown, H, I.kept (t' := tk) k, ⟨t, rfl⟩, q⟩
  have hsame : EP X pins σ Q (.str d.shown s.toks) { s with toks := s.toks + 1 } := hfin s.heap s.toks (s.toks + 1) fun _ _ e => e
  cases hd with
  | non => cases rx; exact PySem.P.repr_of_none hsame
  | bl b => cases rx; exact PySem.P.repr_of_bool hsame
  | int i =>
    obtain ⟨t, rfl⟩ := rx
    exact PySem.P.repr_of_int (of_decide_eq_true hs) hsame
  | str y =>
    obtain ⟨t, rfl⟩ := rx
    exact PySem.P.repr_of_str hsame hl
  | lst => cases rx; exact repr_of_reads' hr hs hsm hg (by omega) (fun _ _ e => e) hfin hl
  | tup => cases rx; exact repr_of_reads' hr hs hsm hg (by omega) (fun _ _ e => e) hfin hl
  | dct => cases rx; exact repr_of_reads' hr hs hsm hg (by omega) (fun _ _ e => e) hfin hl
end
end Ami

set_option Elab.async false
set_option linter.all false
set_option maxRecDepth 100000
set_option maxHeartbeats 2000000
namespace Ami
open PySem PySem.Spec PyProof.Rows L2

/-- the key that a member of a set stands for -/
def kOf : Value → Key
  | .int i _ => .inl i
  | .str x _ => .inr x
  | _ => .inl 0
theorem kOf_is {k : Key} {v : Value} (h : keyIs k v = true) : kOf v = k := by
  rcases keyIs_shape h with ⟨i, t, rfl, rfl⟩ | ⟨x, t, rfl, rfl⟩ <;> rfl
def Mem (w : World) (e : Int × Value) : Prop := keyIs (kOf e.2) e.2 = true ∧ e.1 = keyH w (kOf e.2)
theorem scan_of {k : Key} {v : Value} (h : keyIs k v = true) : v.scannable = true := by
  rcases keyIs_shape h with ⟨i, t, rfl, rfl⟩ | ⟨x, t, rfl, rfl⟩ <;> rfl
abbrev keysIn (es : List (Int × Value)) : List Key := es.map fun e => kOf e.2

/-- at a stands a set; its members are the keys of l, each once there -/
def SetW (w : World) (h : Heap) (a : Addr) (l : List Key) : Prop :=
  ∃ o es ep t, h.get? a = some o ∧ o.ExactSet ∧ o.data = .set es ep t ∧ (∀ e ∈ es.toList, Mem w e) ∧ (keysIn es.toList).Nodup ∧ l.Perm (keysIn es.toList) ∧
    es.size < scanBound ∧ t.fits es.size = true ∧ Ris t.place.toList ∧ (w.params.followText "set-order" = true ∨ t.led = true)

section
variable {P : Program} {w : World} {h h' : Heap} {a : Addr} {l l' : List Key}
theorem SetW.at (R : SetW w h a l) (k : ∀ o, h.get? a = some o → h'.get? a = some o) : SetW w h' a l := by
  obtain ⟨o, es, ep, t, ho, r⟩ := R
  exact ⟨o, es, ep, t, k o ho, r⟩
theorem SetW.congr (R : SetW w h a l) (e : l'.Perm l) : SetW w h a l' := by
  obtain ⟨o, es, ep, t, ho, x, d, g, nd, m, r⟩ := R
  exact ⟨o, es, ep, t, ho, x, d, g, nd, e.trans m, r⟩
theorem SetW.nodup (R : SetW w h a l) : l.Nodup := by
  obtain ⟨o, es, ep, t, ho, x, d, g, nd, m, r⟩ := R
  exact m.nodup_iff.mpr nd
theorem elems_of {es : List (Int × Value)} (g : ∀ e ∈ es, Mem w e) : ElemsOf (mixKind P w) es := fun e he => ⟨⟨_, (g e he).1, (g e he).2⟩, scan_of (g e he).1⟩
theorem find_iff {es : List (Int × Value)} (g : ∀ e ∈ es, Mem w e) (k : Key) : k ∈ keysIn es ↔ ∃ e ∈ es, (mixKind P w).is k e.2 = true := by
  constructor
  · intro m
    obtain ⟨e, he, q⟩ := List.mem_map.mp m
    exact ⟨e, he, by rw [← q]; exact (g e he).1⟩
  · rintro ⟨e, he, q⟩
    exact List.mem_map.mpr ⟨e, he, kOf_is q⟩
theorem SetW.setOf (R : SetW w h a l) (S : Key → Bool) (hS : ∀ k, S k = true ↔ k ∈ l) : ∃ n, h.SetOf (mixKind P w) a S n := by
  obtain ⟨o, es, ep, t, ho, x, d, g, nd, m, b, f, r⟩ := R
  exact ⟨_, o, es, ep, t, ho, x, d, elems_of g, fun k => by rw [hS k, m.mem_iff]; exact find_iff g k, b, f, rfl⟩
theorem setW_fresh (w : World) (led : Bool) (hl : w.params.followText "set-order" = true ∨ led = true) :
    SetW w (h.push { cls := .type "set", dict := none, data := .set #[] 0 (.fresh 0 0 led) }) h.objs.size [] :=
  ⟨_, #[], 0, _, Heap.get?_push_size _ rfl, ⟨rfl, rfl, rfl⟩, rfl, (fun e he => by simp at he), List.nodup_nil, List.Perm.nil, (by decide), (by rfl), List.Pairwise.nil, hl⟩
end

section
variable {P : Program} {w : World} {A : Around} {E : Value → Shared → Prop} {s : Shared} {a : Addr} {l : List Key}

/-- the last part of an add: the entries are stored, and laid anew where the table is too full -/
theorem tail_w {g : Bool → Sem Unit} (hg : ∀ (b : Bool) (s₁ : Shared) (Q' : Unit → Shared → Prop), Q' () s₁ → wpAny (model P w) A (g b) Q' E s₁)
    {o : Obj} {es : Array (Int × Value)} {ep : Nat} {t : SetTable} (ho : s.heap.get? a = some o) (hx : o.ExactSet) (hd : o.data = .set es ep t)
    {es1 : Array (Int × Value)} {t1 : SetTable} {l1 : List Key} (g1 : ∀ e ∈ es1.toList, Mem w e) (nd1 : (keysIn es1.toList).Nodup) (m1 : l1.Perm (keysIn es1.toList))
    (hb : es1.size < scanBound) (hf : t1.fits es1.size = true) (hr : Ris t1.place.toList) (hl : w.params.followText "set-order" = true ∨ t1.led = true) {dummy : Bool} {R : Option Bool → Shared → Prop}
    (hR : ∀ h', Heap.SameBut a s.heap h' → SetW w h' a l1 → R (some true) { s with heap := h' }) :
    wpAny (model P w) A (do
        storeSet a es1 t1
        if (!dummy && t1.tooFull) = true then do
            g (relayAll t1 es1 (SetTable.grown es1.size)).2.2
            storeSet a (relayAll t1 es1 (SetTable.grown es1.size)).1 (relayAll t1 es1 (SetTable.grown es1.size)).2.1
            pure (some true)
          else pure (some true)) R E s := by
  have same1 := Heap.SameBut.update s.heap a (Obj.putSet es1 t1)
  have at1 := store_at (es' := es1) (t' := t1) ho hd
  refine wpAny_bind (wpAny_storeSet_of ho hd ?_ (fits_of_scanBound hb))
  by_cases c : (!dummy && t1.tooFull) = true
  · rw [if_pos c]
    obtain ⟨es2, t2, gave, eZ⟩ : ∃ es2 t2 gave, relayAll t1 es1 (SetTable.grown es1.size) = (es2, t2, gave) := ⟨_, _, _, rfl⟩
    have pm := relayAll_perm t1 es1 (SetTable.grown es1.size)
    have hf2 := relayAll_fits t1 es1 (SetTable.grown es1.size)
    have hr2 := relayAll_ris t1 es1 (SetTable.grown es1.size)
    have hl2 := relayAll_led t1 es1 (SetTable.grown es1.size)
    rw [eZ] at pm hf2 hr2 hl2 ⊢
    have hsz : es2.size = es1.size := by rw [← Array.length_toList, pm.length_eq, Array.length_toList]
    have pk : (keysIn es2.toList).Perm (keysIn es1.toList) := pm.map _
    refine wpAny_bind (hg _ _ _ ?_)
    refine wpAny_bind (wpAny_storeSet_of at1 rfl ?_ (fits_of_scanBound (by rw [hsz]; exact hb)))
    refine wpAny_pure (hR _ (same1.trans (Heap.SameBut.update _ a _)) ⟨_, es2, _, t2, store_at (es' := es2) (t' := t2) at1 rfl, hx, rfl, fun e he => g1 e (pm.mem_iff.mp he), pk.nodup_iff.mpr nd1,
      m1.trans pk.symm, by rw [hsz]; exact hb, hf2, hr2, hl.imp id fun z => hl2.trans z⟩)
  · rw [if_neg c]
    exact wpAny_pure (hR _ same1 ⟨_, es1, _, t1, at1, hx, rfl, g1, nd1, m1, hb, hf, hr, hl⟩)

/-- a key is added -/
theorem add_w {k : Key} {v : Value} {Q : Bool → Shared → Prop} (R : SetW w s.heap a l) (hk : keyIs k v = true) (room : l.length + 1 < scanBound)
    (hQ : ∀ (b : Bool) (h' : Heap) (l' : List Key), Heap.SameBut a s.heap h' → SetW w h' a l' → (k ∈ l → l' = l) → (k ∉ l → l' = k :: l) → Q b { s with heap := h' }) :
    wpAny (model P w) A (setAddHashed a v (keyH w k)) Q E s := by
  obtain ⟨o, es, ep, t, ho, hx, hd, g, ndE, m, hb, hf, hr, hl⟩ := R
  have el : ElemsOf (mixKind P w) es.toList := elems_of g
  have hsc := scan_of hk
  have hsize : es.size = l.length := by
    have := m.symm.length_eq
    rw [List.length_map, Array.length_toList] at this
    exact this
  unfold setAddHashed setAddHashedIn
  refine wpAny_holding (wpAny_bind (wpAny_setState_of ho hd hf ?_))
  dsimp only
  rw [byScan_of hsc hb el]
  simp only [↓reduceIte]
  unfold setAddByScan
  refine wpAny_bind ?_
  refine wpAny_bind (wpAny_rule ?_)
  refine wpAny_bind (wpAny_setScan_of (knd := mixKind P w) (k := k) hk ho hd hf el ?_)
  cases hfi : List.findIdx? (fun e => (mixKind P w).is k e.2) es.toList with
  | some j =>
    dsimp only
    obtain ⟨hj, pj, _⟩ := List.findIdx?_eq_some_iff_getElem.mp hfi
    have hkl : k ∈ l := m.mem_iff.mpr ((find_iff (P := P) g k).mpr ⟨_, List.getElem_mem hj, pj⟩)
    refine wpAny_pure (wpAny_pure ?_)
    exact hQ _ s.heap l (Heap.SameBut.refl a s.heap) ⟨o, es, ep, t, ho, hx, hd, g, ndE, m, hb, hf, hr, hl⟩ (fun _ => rfl) fun z => absurd hkl z
  | none =>
    dsimp only
    have hnk : k ∉ keysIn es.toList := fun z => by
      obtain ⟨e, he, q⟩ := (find_iff (P := P) g k).mp z
      have := List.findIdx?_eq_none_iff.mp hfi e he
      rw [q] at this
      cases this
    have hkl : k ∉ l := fun z => hnk (m.mem_iff.mp z)
    have gave : ∀ (b : Bool) {s₁ : Shared} {Q' : Unit → Shared → Prop}, Q' () s₁ → wpAny (model P w) A (match b with | true => rule "set.scan.the-table-gave-way" | false => pure ()) Q' E s₁ :=
      fun b s₁ Q' q => by cases b with | true => exact wpAny_rule q | false => exact wpAny_pure q
    obtain ⟨es1, t1, dummy, gv, eZ⟩ : ∃ es1 t1 dummy gv, layNew t es (keyH w k) v = (es1, t1, dummy, gv) := ⟨_, _, _, _, rfl⟩
    have pm := layNew_perm t es (keyH w k) v
    have hf1 := layNew_fits t es (keyH w k) v
    have hr1 := layNew_ris t es (keyH w k) v hr
    have hl1 := layNew_led t es (keyH w k) v
    have eZ' : layNew t es ((mixKind P w).hash k) v = (es1, t1, dummy, gv) := eZ
    rw [eZ] at pm hf1 hr1 hl1
    rw [eZ]
    dsimp only at pm hf1 hr1 hl1 ⊢
    rw [Array.toList_push] at pm
    have pc : es1.toList.Perm ((keyH w k, v) :: es.toList) := pm.trans (List.perm_append_singleton _ _)
    have pk : (keysIn es1.toList).Perm (k :: keysIn es.toList) := by
      have q := pc.map fun e : Int × Value => kOf e.2
      rw [List.map_cons, kOf_is hk] at q
      exact q
    have g1 : ∀ e ∈ es1.toList, Mem w e := fun e he => by
      rcases List.mem_cons.mp (pc.mem_iff.mp he) with z | z
      · rw [z]
        have e1 := kOf_is hk
        exact ⟨by show keyIs (kOf v) v = true; rw [e1]; exact hk, by show keyH w k = keyH w (kOf v); rw [e1]⟩
      · exact g e z
    have nd1 : (keysIn es1.toList).Nodup := pk.nodup_iff.mpr (List.nodup_cons.mpr ⟨hnk, ndE⟩)
    have m1 : (k :: l).Perm (keysIn es1.toList) := (m.cons k).trans pk.symm
    have hb1 : es1.size < scanBound := by
      have : es1.size = es.size + 1 := by rw [← Array.length_toList, pc.length_eq, List.length_cons, Array.length_toList]
      omega
    have led1 : w.params.followText "set-order" = true ∨ t1.led = true := hl.imp id fun z => hl1.trans z
    refine wpAny_bind (gave _ ?_)
    by_cases hpl : t1.plain = true
    · rw [if_pos hpl]
      refine wpAny_bind ?_
      rw [hashByValue_scannable 8 hsc]
      refine wpAny_pure ?_
      refine tail_w ?_ ho hx hd g1 nd1 m1 hb1 ?_ ?_ ?_ fun h' sb r => wpAny_pure (hQ _ h' (k :: l) sb r (fun z => absurd z hkl) fun _ => rfl)
      · intro b s₁ Q' q; exact gave b q
      · split
        · exact hf1
        · exact SetTable.fits_plain_off hf1
      · split <;> exact hr1
      · split <;> exact led1
    · rw [if_neg hpl]
      refine wpAny_bind (wpAny_pure ?_)
      simp only [↓reduceIte]
      refine tail_w ?_ ho hx hd g1 nd1 m1 hb1 hf1 hr1 led1 fun h' sb r => wpAny_pure (hQ _ h' (k :: l) sb r (fun z => absurd z hkl) fun _ => rfl)
      intro b s₁ Q' q; exact gave b q

/-- what is walked goes into the set -/
theorem loop_w {I : Addr} {fp : List Addr} {n : Nat} {Pv : Nat → Value → Prop} {St : Nat → Heap → Prop} (W : Walks P w A.in1 I fp [I] n Pv St) (haf : a ∉ fp) (hfI : I ∈ fp) {f : Nat → Key} (hf : ∀ i v, i < n → Pv i v → keyIs (f i) v = true) {R : Result → Shared → Prop} :
    ∀ (m i : Nat) (l : List Key) (s : Shared), n - i = m → i ≤ n → SetW w s.heap a l → St i s.heap → l.length + m < scanBound →
    (∀ (h' : Heap) (tk : Nat) (l' : List Key), (∀ b o, b ≠ a → b ≠ I → s.heap.get? b = some o → h'.get? b = some o) →
      SetW w h' a l' → (∀ k, k ∈ l' ↔ k ∈ l ∨ ∃ j, i ≤ j ∧ j < n ∧ k = f j) → R (.ok (.ret .none)) { s with heap := h', toks := tk }) →
    codeAny (model P w) A (.builtin "set.update.loop" ⟨[.ref a, .ref I], []⟩) R s := by
  have haI : a ≠ I := fun e => haf (e ▸ hfI)
  intro m
  induction m with
  | zero =>
    intro i l s hm hi ha hst hb h
    have hin : i = n := by omega
    subst hin
    refine codeAny_builtin PyProof.Rows.F.entry_set_update_loop ?_
    rw [Around.under_plainId PyProof.Rows.F.plain_set_update_loop _]
    show wpAny _ A.in1 (pyNext (.ref I) >>= _) _ _ s
    refine wpAny_bind (W.done s _ _ hst fun h' tk hk => ?_)
    show wpAny _ A.in1 (ret Value.none) _ _ _
    refine wpAny_pure (h h' tk l (fun b o _ hb e => hk b o (by simpa using hb) e) (ha.at fun o e => hk a o (by simpa using haI) e) fun k => ⟨.inl, fun z => z.elim id fun ⟨j, h1, h2, _⟩ => by omega⟩)
  | succ m ih =>
    intro i l s hm hi ha hst hb h
    have hlt : i < n := by omega
    refine codeAny_builtin PyProof.Rows.F.entry_set_update_loop ?_
    rw [Around.under_plainId PyProof.Rows.F.plain_set_update_loop _]
    show wpAny _ A.in1 (pyNext (.ref I) >>= _) _ _ s
    refine wpAny_bind (W.item i s _ _ hlt hst fun v h1 tk hP hst1 hk1 => ?_)
    have hkey : keyIs (f i) v = true := hf i v hlt hP
    show wpAny _ A.in1 (holding [v] (setAdd a v) >>= _) _ _ _
    refine wpAny_bind (wpAny_holding ?_)
    unfold setAdd
    refine wpAny_holding ?_
    refine wpAny_bind ((mixKind P w).pyHash (k := f i) hkey ?_)
    refine add_w (s := { s with heap := h1, toks := tk + 1 }) (ha.at fun o e => hk1 a o (by simpa using haI) e) hkey (by omega) fun b h2 l2 sb R2 q1 q2 => ?_
    have hl2 : l2.length ≤ l.length + 1 := by
      rcases Classical.em (f i ∈ l) with z | z
      · rw [q1 z]; omega
      · rw [q2 z, List.length_cons]; omega
    have hm2 : ∀ k, k ∈ l2 ↔ k ∈ l ∨ k = f i := fun k => by
      rcases Classical.em (f i ∈ l) with z | z
      · rw [q1 z]
        exact ⟨.inl, fun y => y.elim id fun e => e ▸ z⟩
      · rw [q2 z, List.mem_cons]
        exact Or.comm
    have hst2 : St (i + 1) h2 := W.frame _ _ _ hst1 fun c hc o e => (sb.2 c fun z => haf (z ▸ hc)).trans e
    refine wpAny_pure ⟨plainId_quiet PyProof.Rows.F.plain_set_update_loop _, ih (i + 1) l2 { s with heap := h2, toks := tk + 1 } (by omega) hlt R2 hst2 (by omega) fun h3 tk3 l3 k3 R3 m3 => ?_⟩
    refine h h3 tk3 l3 (fun c o hc1 hc2 e => k3 c o hc1 hc2 ((sb.2 c hc1).trans (hk1 c o (by simpa using hc2) e))) R3 fun k => ?_
    rw [m3 k, hm2 k]
    constructor
    · rintro ((q | q) | ⟨j, j1, j2, q⟩)
      · exact .inl q
      · exact .inr ⟨i, Nat.le_refl _, hlt, q⟩
      · exact .inr ⟨j, by omega, j2, q⟩
    · rintro (q | ⟨j, j1, j2, q⟩)
      · exact .inl (.inl q)
      · by_cases e : j = i
        · subst e; exact .inl (.inr q)
        · exact .inr ⟨j, by omega, j2, q⟩


theorem new_led (v : Value) {Q₁ : Value → Shared → Prop}
    (h : Q₁ (.ref s.heap.objs.size) { s with heap := s.heap.push { cls := .type "set", dict := none, data := .set #[] 0 (.fresh 0 0 (!w.params.followText "set-order")) } }) :
    codeAny (model P w) A (.call (.builtin "set.__new__") ⟨[.type "set", v], []⟩) (wants Q₁ E) s := by
  refine codeAny_of_tree ?_
  show wpAny _ A.in1 (do checkBuiltinCall "set.__new__" ⟨[.type "set", v], []⟩; again (.builtin "set.__new__" ⟨[.type "set", v], []⟩)) _ _ s
  refine wpAny_bind (wpAny_of_eq (PySem.F.newCall_set_1 v) (wpAny_pure ⟨plainId_quiet PySem.F.plain_set_new _, codeAny_builtin PySem.F.entry_set_new ?_⟩))
  rw [Around.under_plainId PySem.F.plain_set_new _]
  have hsub := PySem.sub_set_self
  unfold Builtin.«set.__new__» Builtin.Frozenset.newClass
  obtain ⟨hp, g, d, tk, os⟩ := s
  dsimp only
  wp_walk
  refine wpAny_askSetting (wpAny_pure ?_)
  dsimp only
  simp only [newObj]
  refine wpAny_bind (wpAny_alloc (wpAny_pure ?_))
  exact wpAny_pure h

/-- set(v): what is needed of v and its walk -/
structure Fills (P : Program) (w : World) (h : Heap) (v : Value) (T : String) (n : Nat) (f : Nat → Key) : Prop where
  ty : ∀ s' : Shared, (∀ b o, h.get? b = some o → s'.heap.get? b = some o) → s'.TypeIs v T
  s1 : isSubtype (.type T) (.type "set") = pure false
  s2 : isSubtype (.type T) (.type "frozenset") = pure false
  nd : (Value.type T == Value.type "dict") = false
  it : ∀ (A : Around) (E : Value → Shared → Prop) (s' : Shared) (Q : Value → Shared → Prop), (∀ b o, h.get? b = some o → s'.heap.get? b = some o) →
    (∀ (h' : Heap) (I : Addr) (fp : List Addr) (Pv : Nat → Value → Prop) (St : Nat → Heap → Prop), (∀ b o, s'.heap.get? b = some o → h'.get? b = some o) → s'.heap.objs.size ≤ I → I ∈ fp → (∀ b ∈ fp, b = I ∨ ∃ o, h.get? b = some o) →
      (∀ A2 : Around, A2.handled = none → Walks P w A2 I fp [I] n Pv St) → St 0 h' → (∀ i v, i < n → Pv i v → keyIs (f i) v = true) → Q (.ref I) { s' with heap := h' }) → wpAny (model P w) A (pyIter v) Q E s'

end
end Ami

set_option Elab.async false
set_option linter.all false
set_option maxRecDepth 100000
set_option maxHeartbeats 2000000
namespace Ami
open PySem PySem.Spec PyProof.Rows L2
section
variable {P : Program} {w : World} {A : Around} {E : Value → Shared → Prop} {s : Shared} {a : Addr} {l : List Key}
set_option maxHeartbeats 4000000 in
theorem call_set_w {v : Value} {T : String} {n : Nat} {f : Nat → Key} {Q : Value → Shared → Prop} (hh : A.handled = none) (hn : n < scanBound) (F : Fills P w s.heap v T n f)
    (h : ∀ (h' : Heap) (tk : Nat) (l : List Key), (∀ b o, s.heap.get? b = some o → h'.get? b = some o) → SetW w h' s.heap.objs.size l → (∀ k, k ∈ l ↔ ∃ j, j < n ∧ k = f j) → Q (.ref s.heap.objs.size) { s with heap := h', toks := tk }) :
    wpAny (model P w) A (call (.type "set") [v]) Q E s := by
  obtain ⟨c, tl, hmro⟩ := PySem.F.called_set.mro
  have hmade := PySem.F.called_set.made
  have hsub := PySem.F.called_set.sub
  have keep0 : ∀ b o, s.heap.get? b = some o → (s.heap.push { cls := .type "set", dict := none, data := .set #[] 0 (.fresh 0 0 (!w.params.followText "set-order")) }).get? b = some o := fun b o e => Heap.get?_push_of_some _ e
  refine wpAny_call (codeAny_of_tree ?_)
  show wpAny _ _ (callAny (.type "set") _) _ _ _
  refine wpAny_pure ⟨Code.quiet_builtin _ (by decide +kernel), codeAny_builtin PySem.F.entry_type_call ?_⟩
  rw [Around.under_plain (weight_type_call_type "set" [v] []) rfl]
  have h1 := PySem.F.called_set.notType
  have h2 := PySem.F.called_set.canCreate
  have hct := PySem.F.typeCall_set_1 v
  repeat (any_goals (first | assumption | wp_step))
  refine codeAny_mono (new_led v (E := E) (Q₁ := fun obj s₁ => obj = .ref s.heap.objs.size ∧ s₁ = { s with heap := s.heap.push { cls := .type "set", dict := none, data := .set #[] 0 (.fresh 0 0 (!w.params.followText "set-order")) } }) ⟨rfl, rfl⟩) fun r s₁ hr => ?_
  cases r with
  | error e => exact hr
  | ok fl =>
    cases fl with
    | ret obj =>
      obtain ⟨rfl, rfl⟩ := hr
      have hS : (s.heap.push { cls := .type "set", dict := none, data := .set #[] 0 (.fresh 0 0 (!w.params.followText "set-order")) }).get? s.heap.objs.size = some { cls := .type "set", dict := none, data := .set #[] 0 (.fresh 0 0 (!w.params.followText "set-order")) } := Heap.get?_push_size _ rfl
      have hT : Shared.TypeIs { s with heap := s.heap.push { cls := .type "set", dict := none, data := .set #[] 0 (.fresh 0 0 (!w.params.followText "set-order")) } } (.ref s.heap.objs.size) "set" := ⟨_, hS, rfl⟩
      have hli := PySem.F.called_set.init.lookup
      have hbi := PySem.F.called_set.init.bind (.ref s.heap.objs.size)
      repeat (any_goals (first | assumption | wp_step))
      refine codeAny_mono (codeAny_call_builtin (R := wants (fun r s₂ => r = .none ∧ ∃ h' tk l, s₂ = { s with heap := h', toks := tk } ∧ (∀ b o, s.heap.get? b = some o → h'.get? b = some o) ∧ SetW w h' s.heap.objs.size l ∧
          (∀ k, k ∈ l ↔ ∃ j, j < n ∧ k = f j)) E) PySem.F.called_set.init.plain PySem.F.entry_set_init (PySem.check_set_init_1 hT ?_)) fun r₂ s₂ hr₂ => ?_
      · have hTv := F.ty { s with heap := s.heap.push { cls := .type "set", dict := none, data := .set #[] 0 (.fresh 0 0 (!w.params.followText "set-order")) } } keep0
        have q1 := F.s1
        have q2 := F.s2
        have q3 := F.nd
        unfold Builtin.«set.__init__» noKeywords Builtin.Frozenset.updateFrom
        generalize hPI : pyIter = PI
        wp_walk
        subst hPI
        refine F.it _ _ _ _ keep0 fun h1' I fp Pv St k1 hI hfI hfp W st hkey => ?_
        have hI' : s.heap.objs.size + 1 ≤ I := by
          have z := hI
          simp only [Heap.size_push] at z
          exact z
        have haf : s.heap.objs.size ∉ fp := fun m => by
          rcases hfp _ m with z | ⟨o, z⟩
          · exact absurd hI' (by rw [← z]; exact Nat.not_succ_le_self _)
          · exact absurd (Heap.lt_size z) (Nat.lt_irrefl _)
        refine wpAny_bind (wpAny_runValue ?_)
        refine loop_w (A := A.in1.in1) (W _ (by simp [hh])) haf hfI hkey n 0 [] _ (Nat.sub_zero n) (Nat.zero_le _) ((setW_fresh w _ ?_).at fun o e => k1 _ o e) st (by simpa using hn) fun h2 tk l2 k2 R2 m2 => ?_
        · cases w.params.followText "set-order"
          · exact .inr rfl
          · exact .inl rfl
        · refine wpAny_pure ?_
          show wpAny _ _ (ret Value.none) _ _ _
          refine wpAny_pure ⟨rfl, h2, tk, l2, rfl, fun b o e => ?_, R2, fun k => ?_⟩
          · have hb := Heap.lt_size e
            exact k2 b o (Nat.ne_of_lt hb) (Nat.ne_of_lt (Nat.lt_of_lt_of_le hb (Nat.le_of_succ_le hI'))) (k1 b o (keep0 b o e))
          · rw [m2 k]
            constructor
            · rintro (z | ⟨j, _, h2, h3⟩)
              · cases z
              · exact ⟨j, h2, h3⟩
            · rintro ⟨j, h2, h3⟩
              exact .inr ⟨j, Nat.zero_le _, h2, h3⟩
      · cases r₂ with
        | error e => exact hr₂
        | ok fl₂ =>
          cases fl₂ with
          | ret r =>
            obtain ⟨rfl, h', tk, l, rfl, hk', hS', hm'⟩ := hr₂
            repeat (any_goals (first | assumption | wp_step))
            exact h _ _ l hk' hS' hm'
          | _ => exact hr₂.elim
    | _ => exact hr.elim

/-- a text's signs fill a set -/
theorem fills_text {x : Str} {t : Tok} {h : Heap} : Fills P w h (.str x t) "str" x.cps.size (fun i => .inr (one (x.cps.getD i 0))) where
  ty := fun s' _ => typeIs_str s' x t
  s1 := by rw [isSubtype_type]; kernel_rfl
  s2 := by rw [isSubtype_type]; kernel_rfl
  nd := by decide
  it := fun A E s' Q k hq => by
    refine wpAny_pyIter_str fun o St W hst => ?_
    refine hq _ s'.heap.objs.size [s'.heap.objs.size] (SignAt x) St (fun b o' e => Heap.get?_push_of_some _ e) (Nat.le_refl _) (List.mem_singleton.mpr rfl) (fun b hb => .inl (List.mem_singleton.mp hb)) (fun A2 h2 => W A2 h2) hst fun i v hi hv => ?_
    obtain ⟨c, u, e1, e2⟩ := hv
    subst e2
    have e3 : x.cps.getD i 0 = c := by
      rw [Array.getD_eq_getD_getElem?, e1]; rfl
    rw [e3]
    exact keyIs_str _ _
end
end Ami

set_option Elab.async false
set_option linter.all false
set_option maxRecDepth 100000
set_option maxHeartbeats 2000000
namespace Ami
open PySem PySem.Spec PyProof.Rows L2
section
variable {P : Program} {w : World} {A : Around} {E : Value → Shared → Prop} {s : Shared} {a : Addr} {l : List Key}
theorem strs_of_keys : ∀ {us : List Value} {ss : List Str}, us.map kOf = ss.map Sum.inr → (∀ v ∈ us, keyIs (kOf v) v = true) → StrsAre us ss
  | [], [], _, _ => .nil
  | [], _ :: _, e, _ => by cases e
  | _ :: _, [], e, _ => by cases e
  | v :: us, x :: ss, e, g => by
    rw [List.map_cons, List.map_cons] at e
    obtain ⟨e1, e2⟩ := List.cons.inj e
    have h1 := g v List.mem_cons_self
    rw [e1] at h1
    obtain ⟨t, rfl⟩ : ∃ t, v = .str x t := by
      rcases keyIs_shape h1 with ⟨i, t, h, _⟩ | ⟨y, t, h, h2⟩
      · cases h
      · cases h; exact ⟨t, h2⟩
    exact .cons x t (strs_of_keys e2 fun u hu => g u (List.mem_cons_of_mem _ hu))

/-- sorted of a set of texts -/
theorem sorted_w {ss : List Str} {Q : Value → Shared → Prop} (R : SetW w s.heap a (ss.map Sum.inr)) (hh : A.handled = none) (h64 : ss.length < 64)
    (hQ : ∀ s' p (out : Array Value) (c : Nat) (ys : List Str), (∀ b o, s.heap.get? b = some o → s'.heap.get? b = some o) → s'.gens = s.gens → s'.os = s.os → s.heap.objs.size ≤ p →
      s'.heap.get? p = some (seqObj "list" out c) → StrsAre out.toList ys → ys.Perm ss → sortedS ys = true → Q (.ref p) s') :
    wpAny (model P w) A (call (.builtin "sorted") [.ref a]) Q E s := by
  obtain ⟨o, es, ep, t, ho, hx, hd, g, nd, m, hb, hf, hr, hl⟩ := R
  refine Calls.call_function_entry kind_sorted plain_sorted entry_sorted (args_sorted1 _) ?_
  unfold Builtin.«sorted»
  refine wpAny_bind (m := checkCount "sorted" 1 1 _) (wpAny_pure ?_)
  refine wpAny_bind (collect_set (A := A.in1) hh ⟨o, ho, hx.1, hd⟩ hf hb hr hl fun s1 vs k1 hz g1 o1 pm => ?_)
  have pk : (vs.map kOf).Perm (ss.map Sum.inr) := by
    have q := pm.map kOf
    rw [List.map_map] at q
    exact q.trans m.symm
  obtain ⟨ts, et, pt⟩ : ∃ ts : List Str, vs.map kOf = ts.map Sum.inr ∧ ts.Perm ss := by
    refine ⟨(vs.map kOf).map fun k => (match k with | .inr x => x | .inl _ => Str.empty), ?_, ?_⟩
    · rw [List.map_map]
      have : ∀ k ∈ vs.map kOf, k = Sum.inr (match k with | .inr x => x | .inl _ => Str.empty) := fun k hk => by
        obtain ⟨x, _, e⟩ := List.mem_map.mp (pk.mem_iff.mp hk)
        rw [← e]
      conv => lhs; rw [← List.map_id (vs.map kOf)]
      exact List.map_congr_left this
    · have q := pk.map fun k : Key => (match k with | .inr x => x | .inl _ => Str.empty)
      rw [List.map_map (l := ss)] at q
      have e : (ss.map ((fun k : Key => (match k with | .inr x => x | .inl _ => Str.empty)) ∘ Sum.inr)) = ss := by
        conv => rhs; rw [← List.map_id ss]
        exact List.map_congr_left fun _ _ => rfl
      rw [e] at q
      exact q
  have hS : StrsAre vs ts := strs_of_keys et fun v hv => by
    obtain ⟨e, he, q⟩ := List.mem_map.mp (pm.mem_iff.mp hv)
    rw [← q]
    exact (g e he).1
  have hvl : vs.length = ss.length := by
    have := pk.length_eq
    rw [List.length_map, List.length_map] at this
    exact this
  refine wpAny_bind (wpAny_newList ?_ (by rw [hvl, sizeLine_eq]; omega))
  have hoL : (s1.heap.push (seqObj "list" vs.toArray 0)).get? s1.heap.objs.size = some (seqObj "list" vs.toArray 0) := Heap.get?_push_size _ rfl
  refine wpAny_bind (wpAny_holding (wpAny_call_entry slot_list_sort ⟨_, hoL, rfl⟩ entry_list_sort
    (list_sort_treeK strKind_oneLt hoL hS.keysOf (fun v₁ v₂ rest e => keyKind_strs (by rw [← e]; exact hS)) (by rw [hvl]; exact h64) fun st' hp hs => ⟨_, rfl, ?_⟩) (args_list_sort _)))
  obtain ⟨ys, g1', g2, g3⟩ := sorted_out_str hS hp hs
  obtain ⟨c, hc⟩ := sortedHeap_at (vs := vs) (out := (arrOf st').map (·.2)) hoL
  refine wpAny_pure ⟨_, rfl, hQ _ s1.heap.objs.size ((arrOf st').map (·.2)) c ys (fun b u e => ?_) g1 o1 hz hc g1' (g2.trans pt) g3⟩
  have q := k1 b u e
  have hlt := Heap.lt_size q
  show (sortedHeap (s1.heap.push (seqObj "list" vs.toArray 0)) s1.heap.objs.size vs ((arrOf st').map (·.2))).get? b = some u
  rw [sortedHeap_old (Nat.ne_of_lt hlt) (by rw [Heap.size_push]; exact Nat.lt_succ_of_lt hlt)]
  exact Heap.get?_push_of_some _ q
end

/-! ### the rules -/
/-- a set of keys, tracked -/
def SW (w : World) (a : Addr) (l : List Key) : HO := .ext fun h => SetW w h a l
section
variable {X : Cx}
theorem sw_new {H : Hp} {h : Heap} {a : Addr} {l : List Key} {P : Program} {w : World} (R : SetW w h a l) : ObjOk P w H h a (SW w a l) := by
  have ⟨o, _, _, _, ho, _⟩ := R
  exact ⟨R, ⟨o, ho⟩, fun h1 h2 p k => p.at k⟩
theorem sw_get {pins : List (Addr × Obj)} {σ : L2.St} {H : Hp} {s : Shared} {a : Addr} {l : List Key} (I : Inv X pins σ H s) (ha : H a = some (SW X.w a l)) : SetW X.w s.heap a l := (I.hok a _ ha).1
/-- set(z) -/
theorem cr_setStr (hc : X.calm = true) : CallR X (.type "set") (fun vs H Q => ∃ z : Str, vs = [.str z] ∧ z.length < scanBound ∧
    ∀ p l, H p = none → l.Nodup → (∀ x, Sum.inr x ∈ l ↔ x ∈ letts z) → (∀ k ∈ l, ∃ x, k = Sum.inr x) → Q (.ref p) (upd H p (SW X.w p l))) := by
  intro pins s σ H vs us Q I r h
  obtain ⟨z, rfl, hz, q⟩ := h
  obtain ⟨u, rfl, t, rfl⟩ := vals1 r
  refine call_set_w (I.ok.hd hc) (n := z.cps.size) hz fills_text fun h' tk l k R m => ?_
  have hm : ∀ k, k ∈ l ↔ ∃ x ∈ letts z, k = Sum.inr x := fun k => by
    rw [m k]
    constructor
    · rintro ⟨j, hj, e⟩
      refine ⟨one (z.cps.getD j 0), ?_, e⟩
      unfold letts
      refine List.mem_map.mpr ⟨_, ?_, rfl⟩
      rw [Array.getD_eq_getD_getElem?, Array.getElem?_eq_getElem hj]
      exact Array.mem_toList_iff.mpr (Array.getElem_mem hj)
    · rintro ⟨x, hx, e⟩
      obtain ⟨c, hc, e2⟩ := List.mem_map.mp hx
      obtain ⟨j, hj, e3⟩ := List.getElem_of_mem hc
      rw [Array.length_toList] at hj
      refine ⟨j, hj, ?_⟩
      rw [e, ← e2, Array.getD_eq_getD_getElem?, Array.getElem?_eq_getElem hj]
      rw [Array.getElem_toList] at e3
      rw [e3]; rfl
  refine ⟨.ref s.heap.objs.size, _, I.laid (t' := tk) k (Nat.le_refl _) (sw_new R), rfl, q _ l (I.hok.fresh (Nat.le_refl _)) R.nodup (fun x => ?_) fun k hk => ?_⟩
  · rw [hm]
    exact ⟨fun ⟨y, hy, e⟩ => by cases e; exact hy, fun hy => ⟨x, hy, rfl⟩⟩
  · obtain ⟨x, _, e⟩ := (hm k).mp hk
    exact ⟨x, e⟩
/-- sorted of such a set of texts -/
theorem cr_sortedW (hc : X.calm = true) : CallR X (.builtin "sorted") (fun vs H Q => ∃ (a : Addr) (ss : List Str), vs = [.ref a] ∧ H a = some (SW X.w a (ss.map Sum.inr)) ∧ ss.length < 64 ∧
    ∀ ys p, ys.Perm ss → sortedS ys = true → H p = none → Q (.ref p) (upd H p (.lst (ys.map V.str)))) := by
  intro pins s σ H vs us Q I r h
  obtain ⟨a, ss, rfl, ha, h64, q⟩ := h
  rw [Vals.ref1 r]
  refine sorted_w (sw_get I ha) (I.ok.hd hc) h64 fun s' p out c ys k g o hp hg hs hpm hso => ?_
  have hlen : (ys.map V.str).length ≤ sizeLine := by rw [List.length_map, hpm.length_eq, sizeLine_eq]; omega
  have hn : H p = none := I.hok.fresh hp
  have J : Inv X pins σ (upd H p (.lst (ys.map V.str))) { s with heap := s'.heap, gens := s'.gens, drawn := s'.drawn, toks := s'.toks } :=
    I.call (ch := []) (Un.laid k hp hn) (I.hok.laid k hp ⟨hlen, out.toList, c, vals_of_strs hs, hg⟩) (by rw [g]; exact I.bare) (fun _ z => nomatch z)
  have e : s' = { s with heap := s'.heap, gens := s'.gens, drawn := s'.drawn, toks := s'.toks } := by
    cases s'
    cases s
    cases o
    rfl
  rw [e]
  exact ⟨.ref p, _, J, rfl, q ys p hpm hso hn⟩
end
end Ami

set_option Elab.async false
set_option linter.all false
set_option maxRecDepth 100000
set_option maxHeartbeats 2000000
namespace Ami
open PySem PySem.Spec PyProof.Rows L2

/-- a def keeps a promise where nothing is being shown: no guard of repr stands below -/
structure FnG (P : Program) (w : World) (K : PySem.W.Frag) (mg : Str → Option Value) (base : Heap) (CX : CXT) (k : Nat) (f : Addr) (fd : FuncData) (ps : List Str) (sp : Sp) : Prop where
  len : ∀ vs H Q E, sp vs H Q E → vs.length = ps.length
  run : ∀ (A : Around) (outer : List Env) (s : Shared) (H : Hp) (args : Args) (us : List Value) (vs : List V) (Q : VK) (E : XK), A.guards = some [] → Room k A → Env0 P w K mg base A outer s H →
    BindsTo s fd args (ps.zip us) → Vals vs us → sp vs H Q E → codeAny (model P w) A (.call (.ref f) args) (CR CX outer P w H s Q E) s
theorem FnG.of {P : Program} {w : World} {K : PySem.W.Frag} {mg : Str → Option Value} {base : Heap} {CX : CXT} {k : Nat} {f : Addr} {fd : FuncData} {ps : List Str} {sp : Sp} (F : FnOk P w K mg base CX k f fd ps sp) : FnG P w K mg base CX k f fd ps sp :=
  ⟨F.len, fun A outer s H args us vs Q E _ => F.run A outer s H args us vs Q E⟩
theorem guards_deeper {A : Around} (env : Env) (h : A.guards = some []) : (A.deeper env).guards = some [] := by
  show (A.guards) = some []
  exact h

section
variable {P : Program} {w : World} {K : PySem.W.Frag} {mg : Str → Option Value} {base : Heap}
theorem Fun.okG {x qual : Str} {st : Stmt} {f : Addr} {fd : FuncData} {N ps : List Str} {k : Nat} {sp : Sp} (F : Fun K x qual st f fd) (S : FnScope N ps (defScope st)) (len : ∀ vs H Q E, sp vs H Q E → vs.length = ps.length)
    (hbody : ∀ (cdv : Value) (A : Around) (outer : List Env) (s : Shared) (H : Hp) (vs : List V) (Q : VK) (E : XK), A.guards = some [] → Room k (A.deeper (envOfC qual (defScope st) s.heap.objs.size f cdv)) → sp vs H Q E →
      ∃ t, PSs (cxOf CX0 P w K mg base N qual (defScope st) f cdv A outer s H E).nox (defBody st) t ∧ t { nx := fun _ H' => Q .non H', rt := Q } (start N vs) H) : FnG P w K mg base CX0 (k + 1) f fd ps sp := by
  obtain ⟨oc, od, kV, doc, pm, an, cdv, ct, osl, rfl, lk, hcd⟩ := F.ex
  refine ⟨len, fun A outer s H args us vs Q E hg hr e0 hb r hsp => ?_⟩
  have hl := len _ _ _ _ hsp
  have KX : K.In s.heap := e0.mod.kin.keeps fun b o e => (e0.bs b o e).1
  have lim : s.heap.NoLimit := e0.mod.nolimit.keeps fun b o e => (e0.bs b o e).1
  have par : ∀ y ∈ ps.zip us, (defScope st).names.lookup y.1 = some .local ∨ ((defScope st).names.lookup y.1 = some .cell ∧ ((cellsFrom (s.heap.objs.size + 1) (defScope st).names []).lookup y.1).isSome = true) := fun ⟨n, v⟩ hy => by
    rcases S.par n (List.of_mem_zip hy).1 with q | q
    · exact .inl q
    · exact .inr ⟨q, PySem.W.cellsFrom_some _ _ _ (.inl q)⟩
  refine codeAny_call_function hr.depth (KX _ _ lk) rfl S.co S.gen rfl (PySem.W.codeRec_of KX hcd) (hb _ _ _ _ ?_)
  refine wpAny_newFunctionEnv_cells S.kind par fun env he s1 x => ?_
  subst he
  refine ⟨lim.keeps x.toInCall.keep, codeAny_func ?_⟩
  obtain ⟨t, ht, hq⟩ := hbody cdv A outer s H vs Q E hg (hr.deeper _) hsp
  have I : Inv (cxOf CX0 P w K mg base N qual (defScope st) f cdv A outer s H E) [] (start N vs) H s1 := inv_start S hr.hd e0 hl r x
  refine wpAny_mono (ht.nox.run [] s1 (start N vs) H _ I hq) (fun fl s' hs => ?_) fun e s' hs => hs
  have fin : ∀ {σ' : L2.St} {H' : Hp} {v : V} {u : Value}, Inv (cxOf CX0 P w K mg base N qual (defScope st) f cdv A outer s H E) [] σ' H' s' → RelV v u → Q v H' → CE outer P w H s Q u s' :=
    fun {σ' H' v u} J rv q => ⟨v, H', J.os, J.bare, J.base, J.hok, rv, q⟩
  cases fl with
  | ret u => obtain ⟨v, σ', H', J, rv, q⟩ := hs; exact fin J rv q
  | next => obtain ⟨σ', H', J, q⟩ := hs; exact fin (v := V.non) (u := Value.none) J rfl q
  | brk => obtain ⟨_, _, _, q⟩ := hs; exact False.elim q
  | cont => obtain ⟨_, _, _, q⟩ := hs; exact False.elim q
end

section
variable {X : Cx} {CX : CXT} {k : Nat} {f C : Addr} {fd : FuncData} {ps : List Str} {sp : Sp} {dvs : List V} {ds : List Value} {E : XK} {x m : Str} {p pos apos : Pos} {e o : Expr} {es : List Expr} {ta : TE} {t : TA}
theorem run_fnG {pins : List (Addr × Obj)} {σ : L2.St} {H : Hp} {s : Shared} {Q : VK} {us : List Value} {vs : List V} (F : FnG X.prog X.w X.K X.mg X.base CX k f fd ps sp) (hg : X.A.guards = some []) (hr : Room k X.A) (hb : Binds X.K fd ps ds) (hd : Vals dvs ds) (hx : Passes CX X E)
    (I : Inv X pins σ H s) (r : Vals vs us) (h : sp (vs ++ dvs) H Q E) : wpAny (model X.prog X.w) X.A (call (.ref f) us) (EP X pins σ Q) X.xe s := by
  have r2 : Vals (vs ++ dvs) (us ++ ds) := r.append hd
  have hl : (us ++ ds).length = ps.length := by rw [← r2.length]; exact F.len _ _ _ _ h
  refine wpAny_call (codeAny_mono (F.run X.A X.stack s H ⟨us, []⟩ (us ++ ds) (vs ++ dvs) Q E hg hr I.env0 (hb s us I.kIn hl) r2 h) fun r s' hq => ?_)
  cases r with
  | error e => exact hx pins σ H s e s' I hq
  | ok fl =>
    cases fl with
    | ret u => exact I.after hq
    | next => exact False.elim hq
    | brk => exact False.elim hq
    | cont => exact False.elim hq
theorem pe_callG (F : FnG X.prog X.w X.K X.mg X.base CX k f fd ps sp) (hg : X.A.guards = some []) (hr : Room k X.A) (hgl : Gl X x) (hm : X.mg x = some (.ref f)) (hk : PySem.W.keepIn X.K (.ref f) = true) (hb : Binds X.K fd ps ds) (hd : Vals dvs ds) (hx : Passes CX X E)
    (ha : PA X (e :: es) t) (hdb : (x == ("__debug__" : Str)) = false := by decide) (he : starEach (e :: es) X.env = (false, eval e X.env) :: starEach es X.env := by rfl) (hpl : (backTo pos (starEach es X.env)).any (·.1) = false := by rfl) :
    PE X (.Call (.Name x p) (e :: es) [] pos) (tCall sp dvs E t) := by
  refine ⟨fun pins s σ H Q I h => ?_⟩
  refine wpAny_Call_Name_kw (ld_glob I hgl hm ?_ hdb)
  refine PySem.W.callWith_K (h₀ := X.base) I.ok.mod.kin hk (thn (ha.run pos pins s σ H _ I h) fun us s1 ⟨vs, H1, I1, r, q⟩ => ⟨I1.kIn, ?_⟩) he hpl
  exact run_fnG F hg hr hb hd hx I1 r q
end

/-- the law's call, at the heap behind the top -/
theorem law_callG {P : Program} {w : World} {K : PySem.W.Frag} {mg mb : Str → Option Value} {k : Nat} {fa a : Addr} {fd : FuncData} {x : Str} {sp : Sp} {s₁ : Shared} {vs : List Value} {ns : List Int}
    (KX : K.In s₁.heap) (hns : s₁.heap.Ns mainGlobals mg) (hb : s₁.heap.Ns builtinsNs mb) (hbb : ∀ x : Str, x ≠ "__name__" → mb x = bootBuiltins x) (hlim : s₁.heap.NoLimit) (hg : s₁.gens = #[])
    (ha : s₁.heap.get? a = some { cls := .type "list", data := .seq vs.toArray }) (hi : IntsAre vs ns) (hl : ns.length ≤ sizeLine) (hr : Room k callerA)
    (F : ∀ base : Heap, K.In base → base.Ns mainGlobals mg → FnG P w K mg base CX0 k fa fd [x] sp) (hbind : ∀ (s : Shared) (u : Value), BindsTo s fd ⟨[u], []⟩ [(x, u)])
    (hsp : ∀ H : Hp, Only H → SqL K H a (ns.map V.int) → sp [.ref a] H (fun v _ => v = .bl true) fun _ _ _ => False) :
    codeAny (model P w) callerA (.call (.ref fa) ⟨[.ref a], []⟩) (fun r s' => r = .ok (.ret (.bool true)) ∧ OldK s₁.heap s'.heap ∧ s'.os = s₁.os ∧ AllBare s'.gens) s₁ := by
  have hfake : ∀ (H0 : Hp), (∀ b, H0 b ≠ none → b = a) → Only H0 → SqL K H0 a (ns.map V.int) → HOk P w H0 s₁.heap → (H0 a ≠ none → K.lookup a = none) →
      codeAny (model P w) callerA (.call (.ref fa) ⟨[.ref a], []⟩) (fun r s' => r = .ok (.ret (.bool true)) ∧ OldK s₁.heap s'.heap ∧ s'.os = s₁.os ∧ AllBare s'.gens) s₁ := by
    intro H0 hA hO hS hok hK
    have isList : ∀ {b : Addr}, H0 b ≠ none → s₁.heap.get? b = some { cls := .type "list", data := .seq vs.toArray } := fun {b} h => by rw [hA b h]; exact ha
    have untr : ∀ {b : Addr} {o : Obj} {es : Array DictEntry} {ep : Nat}, s₁.heap.get? b = some o → o.data = .dict es ep → H0 b = none := fun {b o es ep} e d => by
      refine Classical.byContradiction fun c => ?_
      have e2 := isList c
      rw [e] at e2
      rw [Option.some.inj e2] at d
      exact nomatch d
    have hbase : ∀ {b : Addr} {o : Obj}, s₁.heap.get? b = some o → H0 b = none → (hidT s₁.heap H0).get? b = some o := fun e n => hidT_get e n
    have nsK : ∀ {b : Addr} {m : Str → Option Value}, s₁.heap.Ns b m → (hidT s₁.heap H0).Ns b m := fun {b m} ⟨o, es, ep, e, d, r⟩ => ⟨o, es, ep, hbase e (untr e d), d, r⟩
    have inK : K.In (hidT s₁.heap H0) := fun b o e => hbase (KX b o e) (Classical.byContradiction fun c => by
      have z := hA b c
      subst z
      rw [hK c] at e
      cases e)
    obtain ⟨mc, n1, n2⟩ := hlim
    have hM : Mod K mg (hidT s₁.heap H0) := ⟨inK, nsK hns, ⟨mb, nsK hb, hbb⟩, mc, nsK n1, n2⟩
    have e0 : Env0 P w K mg (hidT s₁.heap H0) callerA [] s₁ H0 := ⟨rfl, hM, fun b o e => of_hidT e, Nat.le_of_eq (hidT_size _ _), trivial, fun b hb => absurd (show b ∈ ([] : List Addr) from hb) (by simp), hok, .of_eq hg⟩
    refine codeAny_mono ((F _ inK (nsK hns)).run callerA [] s₁ H0 ⟨[.ref a], []⟩ [.ref a] [.ref a] _ _ rfl hr e0 (hbind s₁ (.ref a)) (.cons rfl .nil) (hsp H0 hO hS)) fun r s' h => ?_
    cases r with
    | error e => exact False.elim h
    | ok fl =>
      cases fl with
      | next => exact False.elim h
      | brk => exact False.elim h
      | cont => exact False.elim h
      | ret u =>
        obtain ⟨v, H', os, bare, un, hok', rv, q⟩ := h
        have q' : v = .bl true := q
        subst q'
        have hu : u = Value.bool true := rv
        subst hu
        refine ⟨rfl, OldK.of_keep fun b o e => ?_, os, bare⟩
        rcases hO b with z | ⟨ob, xs, z⟩
        · exact un.keep b o e z (fun m => absurd (show b ∈ ([] : List Addr) from m) (by simp)) (by simp)
        · have p1 := (hok b _ z).1
          have p2 := (hok' b _ (un.frzs b ob _ z)).1
          rw [e] at p1
          rw [Option.some.inj p1]
          exact p2
  cases hk : K.lookup a with
  | some o =>
    have e := KX a o hk
    rw [ha] at e
    cases e
    exact hfake (fun _ => none) (fun b z => absurd rfl z) (fun _ => .inl rfl) (.inr ⟨_, vs.toArray, _, hk, rfl, rfl, rfl, by rw [List.size_toArray, hi.length]; exact hl, by simpa using vals_ints hi⟩) (fun b u z => nomatch (show (none : Option HO) = some u from z)) fun z => absurd rfl z
  | none =>
    refine hfake (fun b => if b = a then some (.frz { cls := .type "list", data := .seq vs.toArray } (.lst (ns.map V.int))) else none) (fun b z => ?_) (fun b => ?_) (.inl (.inr ⟨{ cls := .type "list", data := .seq vs.toArray }, if_pos rfl⟩)) (fun b u z => ?_) fun _ => hk
    · exact Classical.byContradiction fun c => z (if_neg c)
    · by_cases c : b = a
      · exact .inr ⟨_, _, if_pos c⟩
      · exact .inl (if_neg c)
    · by_cases c : b = a
      · have z' := (if_pos c).symm.trans z
        cases z'
        subst c
        exact ⟨ha, by rw [List.length_map]; exact hl, vs, _, vals_ints hi, ha⟩
      · exact nomatch (if_neg c).symm.trans z

/-- the end: what k_head leaves, from the law's promise -/
theorem walk_ofG {l : PySem.W.OpenLaw} {n k : Nat} {q : Program} {loose : List Str} {XP : (Str → Option Value) → Heap → Prop} {YP : World → Heap → Prop} {d : DefRec} {K : Params → PySem.W.Frag} {sp : World → Sp} {x : Str}
    (hn : l.most = some n) (hn2 : n ≤ sizeLine) (hdf : d.params.defaults = []) (hr : Room k callerA) (hY : ∀ (w : World) (h : Heap), YP w h → (K w.params).In h)
    (F : ∀ (w : World) (mg : Str → Option Value) (fa : Addr) (h : Heap), (K w.params).In h → h.Ns mainGlobals mg → mg d.name = some (.ref fa) →
      ∃ fd : FuncData, (∀ (s : Shared) (u : Value), BindsTo s fd ⟨[u], []⟩ [(x, u)]) ∧
        ∀ base : Heap, (K w.params).In base → base.Ns mainGlobals mg → FnG l.prog w (K w.params) mg base CX0 k fa fd [x] (sp w))
    (hsp : ∀ (w : World) (H : Hp) (a : Addr) (ns : List Int), ns.length ≤ n → Only H → SqL (K w.params) H a (ns.map V.int) → sp w [.ref a] H (fun v _ => v = .bl true) fun _ _ _ => False) :
    PySem.W.WalkO q loose XP YP l.row.toRowW d [] (fun f vs => PySem.call f vs) := by
  refine Att.attach_call hn hdf fun w s₀ s₁ mg mb fa o pm cd doc a vs ns G Y ho hd hcd hmg hobj hints hlen hg => ?_
  obtain ⟨fd, hb, hF⟩ := F w mg fa _ (hY w _ Y) G.T.g hmg
  exact law_callG (hY w _ Y) G.T.g G.T.b G.T.builtins G.T.nolimit hg hobj hints (Nat.le_trans hlen hn2) hr hF hb fun H hO hS => hsp w H a ns hlen hO hS
end Ami

set_option Elab.async false
set_option linter.all false
set_option maxRecDepth 100000
set_option maxHeartbeats 2000000
namespace Ami
open PySem PySem.Spec PyProof.Rows L2

/-! ### calls by keywords alone -/
section
variable {X : Cx} {CX : CXT} {k : Nat} {f C : Addr} {fd : FuncData} {ps ks : List Str} {sp : Sp} {E : XK} {x : Str} {p pos : Pos} {kws : List Keyword} {tk : TA} {g : List Value → List Value → List Value} {gV : List V → List V → List V}
theorem pe_callK0 (F : FnOk X.prog X.w X.K X.mg X.base CX k f fd ps sp) (hr : Room k X.A) (hg : Gl X x) (hm : X.mg x = some (.ref f)) (hk : PySem.W.keepIn X.K (.ref f) = true) (hb : KBinds X.K fd ps ks g gV) (hx : Passes CX X E) (hkw : PK X kws tk)
    (hall : (backToKw pos (keywordEach kws X.env)).all (·.1.isSome) = true := by rfl) (hks : (backToKw pos (keywordEach kws X.env)).filterMap (·.1) = ks := by rfl) (hdb : (x == ("__debug__" : Str)) = false := by decide)
    (hpl : ((backTo pos (starEach [] X.env)).any (·.1) || (backToKw pos (keywordEach kws X.env)).any (·.1.isNone)) = false := by rfl) :
    PE X (.Call (.Name x p) [] kws pos) (tCallK sp gV E tNil tk) := by
  refine ⟨fun pins s σ H Q I h => ?_⟩
  refine wpAny_Call_Name_kw (ld_glob I hg hm ?_ hdb)
  refine PySem.W.callWith_KW0 (h₀ := X.base) I.ok.mod.kin hk hall ?_ hpl
  refine thn (hkw.run pos pins s σ H _ I h) fun ws s2 ⟨zs, H2, I2, rz, q2⟩ => ⟨I2.kIn, ?_⟩
  rw [hks]
  exact run_fnk F hr hb hx I2 .nil rz q2
end

/-! ### a def of the text, with all that a call of it wants -/
structure DefAt (K : PySem.W.Frag) (mg : Str → Option Value) (x : Str) (st : Stmt) (ps : List Str) (f : Addr) (fd : FuncData) : Prop where
  F : Fun K x x st f fd
  b : Binds K fd ps []
  g : mg x = some (.ref f)
section
variable {X : Cx} {k : Nat} {f : Addr} {fd : FuncData} {ps : List Str} {sp : Sp} {x : Str} {st : Stmt} {p pos : Pos} {e : Expr} {es : List Expr} {t : TA}
/-- f(e, ..), of a def that lets nothing out -/
theorem pc (D : DefAt X.K X.mg x st ps f fd) (G : FnOk X.prog X.w X.K X.mg X.base CX0 k f fd ps sp) (hr : Room k X.A) (ha : PA X (e :: es) t) (hg : Gl X x := by rfl) (hdb : (x == ("__debug__" : Str)) = false := by decide)
    (he : starEach (e :: es) X.env = (false, eval e X.env) :: starEach es X.env := by rfl) (hpl : (backTo pos (starEach es X.env)).any (·.1) = false := by rfl) : PE X (.Call (.Name x p) (e :: es) [] pos) (tCall sp [] E0 t) :=
  pe_call G hr hg D.g D.F.kp D.b .nil pass0 ha hdb he hpl
theorem pcG (D : DefAt X.K X.mg x st ps f fd) (G : FnG X.prog X.w X.K X.mg X.base CX0 k f fd ps sp) (hgu : X.A.guards = some []) (hr : Room k X.A) (ha : PA X (e :: es) t) (hg : Gl X x := by rfl) (hdb : (x == ("__debug__" : Str)) = false := by decide)
    (he : starEach (e :: es) X.env = (false, eval e X.env) :: starEach es X.env := by rfl) (hpl : (backTo pos (starEach es X.env)).any (·.1) = false := by rfl) : PE X (.Call (.Name x p) (e :: es) [] pos) (tCall sp [] E0 t) :=
  pe_callG G hgu hr hg D.g D.F.kp D.b .nil pass0 ha hdb he hpl
end

/-! ### the deck -/
/-- all but d and c stands as it stood -/
def But (d c : Addr) (H H' : Hp) : Prop := ∀ b o, b ≠ d → b ≠ c → H b = some o → H' b = some o
theorem But.refl (d c : Addr) (H : Hp) : But d c H H := fun _ _ _ _ e => e
theorem But.trans {d c : Addr} {H H1 H2 : Hp} (a : But d c H H1) (b : But d c H1 H2) : But d c H H2 := fun x o h1 h2 e => b x o h1 h2 (a x o h1 h2 e)
theorem But.same {d c : Addr} {H H' : Hp} (s : Same H H') : But d c H H' := fun b o _ _ e => s b o e
theorem Same.upd {H : Hp} {p : Addr} {o : HO} (hp : H p = none) : Same H (L2.upd H p o) := fun b u e => by
  rw [upd_ne (ne_of_none e hp)]; exact e
theorem But.new {d c : Addr} {H H' : Hp} (s : But d c H H') {p : Addr} {o : HO} (hp : H' p = none) : But d c H (L2.upd H' p o) := fun b u h1 h2 e => by
  have e' := s b u h1 h2 e
  rw [upd_ne (ne_of_none e' hp)]
  exact e'

/-- what stays whatever the deck does -/
def Stay (d c : Addr) (φ : Hp → Prop) (H : Hp) : Prop := ∀ H', But d c H H' → φ H'
theorem Stay.now {d c : Addr} {φ : Hp → Prop} {H : Hp} (h : Stay d c φ H) : φ H := h H (But.refl d c H)
theorem Stay.go {d c : Addr} {φ : Hp → Prop} {H H' : Hp} (h : Stay d c φ H) (k : But d c H H') : Stay d c φ H' := fun _ k' => h _ (k.trans k')
theorem Stay.all {d c : Addr} {φ : Hp → Prop} {H : Hp} (h : ∀ H', φ H') : Stay d c φ H := fun H' _ => h H'
theorem Stay.mono {d c : Addr} {φ ψ : Hp → Prop} {H : Hp} (h : Stay d c φ H) (i : ∀ H', φ H' → ψ H') : Stay d c ψ H := fun H' k => i _ (h H' k)

/-- the deck at d, its cells at c, behind n draws -/
def DeckAt (H : Hp) (d c : Addr) (n : Nat) : Prop := c ≠ d ∧ ∃ (b : Int) (cells : List Int), H d = some (.lst [.ref c, .int b, .int n]) ∧ H c = some (.lst (cells.map V.int)) ∧ cells.length ≤ 63
theorem DeckAt.same {H H' : Hp} {d c : Addr} {n : Nat} (D : DeckAt H d c n) (s : Same H H') : DeckAt H' d c n := by
  obtain ⟨h, b, cells, h1, h2, h3⟩ := D
  exact ⟨h, b, cells, s _ _ h1, s _ _ h2, h3⟩
theorem DeckAt.ned {H : Hp} {d c p : Addr} {n : Nat} (D : DeckAt H d c n) (hp : H p = none) : p ≠ d ∧ p ≠ c := by
  obtain ⟨h, b, cells, h1, h2, h3⟩ := D
  exact ⟨fun e => (by rw [e, h1] at hp; cases hp), fun e => (by rw [e, h2] at hp; cases hp)⟩
theorem DeckAt.new {H : Hp} {d c p : Addr} {n : Nat} {o : HO} (D : DeckAt H d c n) (hp : H p = none) : DeckAt (upd H p o) d c n := D.same (Same.upd hp)
theorem DeckAt.set {H : Hp} {d c p : Addr} {n : Nat} {o : HO} (D : DeckAt H d c n) (h1 : p ≠ d) (h2 : p ≠ c) : DeckAt (upd H p o) d c n := by
  obtain ⟨h, b, cells, e1, e2, e3⟩ := D
  exact ⟨h, b, cells, by rw [upd_ne (Ne.symm h1)]; exact e1, by rw [upd_ne (Ne.symm h2)]; exact e2, e3⟩

/-- a draw below bd: any number there is -/
def spDraw : Sp := fun vs H Q _ => ∃ (d c : Addr) (n : Nat) (bd : Int), vs = [.ref d, .int bd] ∧ 0 < bd ∧ bd < 1073741824 ∧ n < 1000000 ∧ DeckAt H d c n ∧
  ∀ (H' : Hp) (r : Int), 0 ≤ r → r < bd → DeckAt H' d c (n + 1) → But d c H H' → Q (.int r) H'

/-- an item of a list or a tuple, or a sign of a text -/
inductive Some1 (K : PySem.W.Frag) (H : Hp) : V → List V → Prop
  | lst {a : Addr} {xs : List V} (h : SqL K H a xs) : Some1 K H (.ref a) xs
  | txt (z : Str) (h : z.length ≤ sizeLine) : Some1 K H (.str z) ((letts z).map V.str)
def spPick (K : PySem.W.Frag) : Sp := fun vs H Q _ => ∃ (d c : Addr) (n : Nat) (x : V) (xs : List V), vs = [.ref d, x] ∧ xs ≠ [] ∧ xs.length < 1073741824 ∧ n < 1000000 ∧ DeckAt H d c n ∧ Stay d c (fun H' => Some1 K H' x xs) H ∧
  ∀ (H' : Hp) (y : V), y ∈ xs → DeckAt H' d c (n + 1) → But d c H H' → Q y H'
end Ami

set_option Elab.async false
set_option linter.all false
set_option maxRecDepth 100000
set_option maxHeartbeats 2000000
/-! errors of one's own as values: made, their attributes, isinstance -/
namespace Ami
open PySem PySem.Spec PyProof.Rows L2
abbrev eTail : List Value := [.type "Exception", .type "BaseException", .type "object"]
/-- what is asked of a class of errors at C -/
def exB (K : PySem.W.Frag) (C : Addr) : Bool :=
  PySem.W.excInitIn K C eTail "Exception.__new__" && PySem.W.excOver K C eTail && PySem.W.hasDictIn K C && (PySem.W.clsIn K C).isSome &&
  decide (PySem.W.findIn K (.ref C) "__setattr__" = some (some (.builtin "object.__setattr__"))) &&
  decide (PySem.W.findIn K (.ref C) "__getattribute__" = some (some (.builtin "BaseException.__getattribute__"))) &&
  decide (PySem.W.findIn K (.ref C) "__getattr__" = some none) &&
  decide (PySem.W.subIn K (.ref C) (.type "BaseException") = some true) &&
  decide (PySem.W.typeIn K (.ref C) = some (.type "type")) && PySem.W.keepIn K (.ref C) &&
  decide (PySem.W.findIn K (.ref C) "__class__" = some (some (.builtin "object.__class__"))) &&
  decide (PySem.W.specialIn K (.builtin "object.__class__") "__get__" = some (some (.builtin "getset_descriptor.__get__"))) &&
  decide (PySem.W.takesIn K (.builtin "object.__class__") = some true) &&
  decide (PySem.W.mroIn K C (.type "object") = some true)
structure EX (K : PySem.W.Frag) (C : Addr) : Prop where
  ini : PySem.W.excInitIn K C eTail "Exception.__new__" = true
  ovr : PySem.W.excOver K C eTail = true
  hd : PySem.W.hasDictIn K C = true
  cl : (PySem.W.clsIn K C).isSome = true
  sa : PySem.W.findIn K (.ref C) "__setattr__" = some (some (.builtin "object.__setattr__"))
  ga : PySem.W.findIn K (.ref C) "__getattribute__" = some (some (.builtin "BaseException.__getattribute__"))
  gg : PySem.W.findIn K (.ref C) "__getattr__" = some none
  ex : PySem.W.subIn K (.ref C) (.type "BaseException") = some true
  ty : PySem.W.typeIn K (.ref C) = some (.type "type")
  kp : PySem.W.keepIn K (.ref C) = true
  cc : PySem.W.findIn K (.ref C) "__class__" = some (some (.builtin "object.__class__"))
  sn : PySem.W.specialIn K (.builtin "object.__class__") "__get__" = some (some (.builtin "getset_descriptor.__get__"))
  tk : PySem.W.takesIn K (.builtin "object.__class__") = some true
  mo : PySem.W.mroIn K C (.type "object") = some true
theorem ex_of {K : PySem.W.Frag} {C : Addr} (h : exB K C = true) : EX K C := by
  unfold exB at h
  simp only [Bool.and_eq_true, decide_eq_true_eq] at h
  obtain ⟨⟨⟨⟨⟨⟨⟨⟨⟨⟨⟨⟨⟨h1, h2⟩, h3⟩, h4⟩, h5⟩, h6⟩, h7⟩, h8⟩, h9⟩, h10⟩, h11⟩, h12⟩, h13⟩, h14⟩ := h
  exact ⟨h1, h2, h3, h4, h5, h6, h7, h8, h9, h10, h11, h12, h13, h14⟩
theorem taker_none {K : PySem.W.Frag} {C : Addr} {f : Str} (h : PySem.W.findIn K (.ref C) f = some none) : PySem.W.takerIn K C f = some none := by
  unfold PySem.W.takerIn
  rw [h]; rfl
/-- the abstract heap behind the first attribute -/
theorem un_first {fr : List Addr} {H : Hp} {h h' : Heap} {a C dx : Addr} {fs : List (Str × V)} {o' : Obj} (e : H a = some (exo a C none)) (hnd : H dx = none) (dn : h.objs.size ≤ dx)
    (k : ∀ b o, b ≠ a → h.get? b = some o → h'.get? b = some o) (hx : h'.get? a = some o') : Un fr [] H (upd (upd H dx (exd dx fs)) a (exo a C (some dx))) h h' := by
  have far : ∀ {b : Addr} {o : Obj}, h.get? b = some o → b ≠ dx := fun {b o} q z => by
    have := Heap.lt_size q
    rw [z] at this
    exact absurd this (Nat.not_lt.mpr dn)
  have off : ∀ {b : Addr}, H b = none → b ≠ a := fun {b} n z => by rw [z, e] at n; cases n
  have two : ∀ {b : Addr} {w : HO}, H b = some w → b ≠ a → upd (upd H dx (exd dx fs)) a (exo a C (some dx)) b = some w := fun {b w} q n => by
    rw [upd_ne n, upd_ne (ne_of_none q hnd)]; exact q
  refine ⟨fun b o q n _ _ => k b o (off n) q, fun b o q n _ _ => ⟨o.slots, k b o (off n) q⟩, fun b o q n _ => ?_, fun b o q _ => ?_, fun b xs q => two q (at_ne e q exo_tup), fun b o v q => two q (at_ne e q exo_frz), fun b ps q => ⟨#[], ?_⟩⟩
  · rw [upd_ne (off n), upd_ne (far q)]; exact n
  · by_cases hb : b = a
    · exact ⟨o', by rw [hb]; exact hx⟩
    · exact ⟨o, k b o hb q⟩
  · rw [two q (at_ne e q exo_tbl)]; simp
section
variable {X : Cx} {pins : List (Addr × Obj)} {σ : L2.St} {H : Hp} {s : Shared} {a C dx : Addr} {f : Str} {y : V} {u : Value} {fs : List (Str × V)} {A : Around}
/-- the first attribute of an error that is being made -/
theorem set_first {Q : Unit → Shared → Prop} {E : Value → Shared → Prop} (T : EX X.K C) (I : Inv X pins σ H s) (e : H a = some (exo a C none)) (hno : PySem.W.findIn X.K (.ref C) f = some none) (ry : RelV y u)
    (h : ∀ dx s', H dx = none → dx ≠ a → Inv X pins σ (upd (upd H dx (exd dx [(f, y)])) a (exo a C (some dx))) s' → Q () s') : wpAny (model X.prog X.w) A (setAttr (.ref a) f u) Q E s := by
  obtain ⟨t1, ho⟩ := exo_at I.hok e
  obtain ⟨cd, hc, hh⟩ := PySem.W.any_some T.hd
  have J : PySem.W.InstAt s.heap a { cls := .ref C, dict := none, data := .fields #[.ref t1, .none, .none, .none, .bool false, .none] } C none := ⟨ho, rfl, rfl, trivial⟩
  refine PySem.W.set_plain I.kIn J T.sa ?_
  obtain ⟨hp, g, d, t, os⟩ := s
  have ha : a ≠ hp.objs.size := Nat.ne_of_lt (Heap.lt_size ho)
  refine PySem.W.osa_openX (s := ⟨hp, g, d, t + 1, os⟩) PySem.F.store_Exception I.kIn J T.ovr (taker_none hno) fun b => ?_
  have Lc : PySem.W.Looks (model X.prog X.w) hp (classData C) cd := PySem.W.looks_clsIn I.kIn hc
  obtain ⟨nm, bs, mro, ns, qn, hd, sn, sb, ab, col, del⟩ := cd
  dsimp only at hh
  subst hh
  show wpAny _ _ (Builtin.ObjectAttr.storeInOwnDict (.ref a) (.ref C) (.str f t) f u b) _ _ _
  unfold Builtin.ObjectAttr.storeInOwnDict
  unfold Builtin.ObjectAttr.ownDictForStores
  repeat (first
    | with_reducible refine PySem.HandSPX.store_in_new ?_ ?_
    | with_reducible refine wpAny_loadPart_at ho ?_
    | with_reducible refine Lc.at ?_
    | wp_step)
  · exact ⟨_, #[], _, (Heap.get?_update_ne _ _ _ _ ha.symm).trans (Heap.get?_push_at rfl rfl), rfl, fun e he => absurd he (by simp), fun _ => rfl⟩
  · intro h' tk' hn hs
    have p1 : (hp.push { cls := .type "dict", data := .dict #[] }).get? a = some { cls := .ref C, dict := none, data := .fields #[.ref t1, .none, .none, .none, .bool false, .none] } := Heap.get?_push_of_some _ ho
    have hx : h'.get? a = some { cls := .ref C, dict := some hp.objs.size, data := .fields #[.ref t1, .none, .none, .none, .bool false, .none] } := (hs.2 a ha).trans (Heap.get?_update_self _ p1 rfl)
    have kk : ∀ b o, b ≠ a → hp.get? b = some o → h'.get? b = some o := fun b o hb q =>
      (hs.2 b (Nat.ne_of_lt (Heap.lt_size q))).trans ((Heap.get?_update_ne _ _ _ _ hb).trans (Heap.get?_push_of_some _ q))
    have hnd : H hp.objs.size = none := I.hok.fresh (Nat.le_refl _)
    refine h hp.objs.size _ hnd ha.symm (I.un (t' := tk') (un_first e hnd (Nat.le_refl _) kk hx) fun b o q => ?_)
    by_cases hb : b = a
    · rw [hb, upd_same] at q
      cases q
      rw [hb]
      exact exo_ok hx
    · rw [upd_ne hb] at q
      by_cases hq : b = hp.objs.size
      · rw [hq, upd_same] at q
        cases q
        rw [hq]
        exact exd_ok hn (relO_put (fs := []) ry fun g => True.intro)
      · rw [upd_ne hq] at q
        have own : ∀ {c : Addr}, H c = some (.own b) → c ≠ a := fun z => at_ne e z exo_own
        refine (I.hok b o q).stay (fun c v hc z => kk c v ?_ z) (fun c z => ?_) (fun c xs z => ?_)
        · rcases hc with hc | hc
          · rw [hc]; exact hb
          · exact own hc
        · rw [upd_ne (own z), upd_ne (ne_of_none z hnd)]; exact z
        · rw [upd_ne (at_ne e z exo_tup), upd_ne (ne_of_none z hnd)]; exact z
/-- a further attribute -/
theorem set_more {Q : Unit → Shared → Prop} {E : Value → Shared → Prop} (T : EX X.K C) (I : Inv X pins σ H s) (e : H a = some (exo a C (some dx))) (ed : H dx = some (exd dx fs)) (hl : fs.length ≤ 900) (hno : PySem.W.findIn X.K (.ref C) f = some none) (ry : RelV y u)
    (h : ∀ s', Inv X pins σ (upd H dx (exd dx ((f, y) :: fs))) s' → Q () s') : wpAny (model X.prog X.w) A (setAttr (.ref a) f u) Q E s := by
  obtain ⟨t1, ho⟩ := exo_at I.hok e
  obtain ⟨mA, hns, rel⟩ := exd_at I.hok ed
  have hw := within_of rel
  obtain ⟨cd, hc, hh⟩ := PySem.W.any_some T.hd
  obtain ⟨oD, esD, epD, hoD, hdD, hcD⟩ := hns.count hw
  have J : PySem.W.InstAt s.heap a { cls := .ref C, dict := some dx, data := .fields #[.ref t1, .none, .none, .none, .bool false, .none] } C (some oD) := ⟨ho, rfl, rfl, hoD⟩
  refine PySem.W.set_plain I.kIn J T.sa ?_
  obtain ⟨hp, g, d, t, os⟩ := s
  refine PySem.W.osa_openX (s := ⟨hp, g, d, t + 1, os⟩) PySem.F.store_Exception I.kIn J T.ovr (taker_none hno) fun b => ?_
  have Lc : PySem.W.Looks (model X.prog X.w) hp (classData C) cd := PySem.W.looks_clsIn I.kIn hc
  obtain ⟨nm, bs, mro, ns, qn, hd, sn, sb, ab, col, del⟩ := cd
  dsimp only at hh
  subst hh
  show wpAny _ _ (Builtin.ObjectAttr.storeInOwnDict (.ref a) (.ref C) (.str f t) f u b) _ _ _
  unfold Builtin.ObjectAttr.storeInOwnDict
  unfold Builtin.ObjectAttr.ownDictForStores
  repeat (first
    | with_reducible refine PySem.OEX.store_in_old hns hw (by rw [List.length_map]; omega) ?_
    | with_reducible refine wpAny_loadPart_at ho ?_
    | with_reducible refine Lc.at ?_
    | wp_step)
  intro h' tk' hn hs
  have hx : ∃ o, h'.get? dx = some o := by
    obtain ⟨o, _, _, z, _⟩ := hn
    exact ⟨o, z⟩
  exact h _ (I.write (t' := tk') (x := dx) (e := dx) (o := exd dx ((f, y) :: fs)) (by rw [ed]; exact True.intro) (.inl rfl) (fun b o hb q => (hs.2 b hb).trans q) hx (exd_ok hn (relO_put ry rel)))
end

/-- o.f = e within the making of an error -/
def tSet (K : PySem.W.Frag) (f : Str) (to te : TE) : TS := fun D σ H => te σ H fun y H1 => to σ H1 fun x H2 => ∃ a C : Addr, x = .ref a ∧ EX K C ∧ PySem.W.findIn K (.ref C) f = some none ∧
  ((H2 a = some (exo a C none) ∧ ∀ dx, H2 dx = none → dx ≠ a → D.nx σ (upd (upd H2 dx (exd dx [(f, y)])) a (exo a C (some dx)))) ∨
    ∃ (dx : Addr) (fs : List (Str × V)), H2 a = some (exo a C (some dx)) ∧ H2 dx = some (exd dx fs) ∧ fs.length ≤ 900 ∧ D.nx σ (upd H2 dx (exd dx ((f, y) :: fs))))
section
variable {X : Cx} {o e : Expr} {to te : TE} {f : Str} {p' pos : Pos}
theorem ps_set_err (ho : PE X o to) (he : PE X e te) (hs : swapsWith e (some (.Attribute o f p')) pos.line X.env = pure false := by rfl) : PS X (.Assign [.Attribute o f p'] e pos) (tSet X.K f to te) := by
  refine ⟨fun pins s σ H D I h => ?_⟩
  refine plainObj_wpAny_Assign_Attribute (thn (he.run pins s σ H _ I h) fun v s1 hv => ?_) hs
  obtain ⟨y, H1, I1, r1, q1⟩ := hv
  refine thn (ho.run pins s1 σ H1 _ I1 q1) fun w s2 hw => ?_
  obtain ⟨x, H2, I2, r2, a, C, rfl, T, hno, q⟩ := hw
  obtain rfl : w = Value.ref a := r2
  rcases q with ⟨ea, q⟩ | ⟨dx, fs, ea, ed, hl, q⟩
  · exact set_first T I2 ea hno r1 fun dx s' n ne J => ⟨σ, _, J, q dx n ne⟩
  · exact set_more T I2 ea ed hl hno r1 fun s' J => ⟨σ, _, J, q⟩
end
end Ami

set_option Elab.async false
set_option linter.all false
set_option maxRecDepth 100000
set_option maxHeartbeats 2000000
/-! errors of one's own, made by keywords too -/
namespace Ami
open PySem PySem.Spec PyProof.Rows L2
section
variable {prog : Program} {w : World} {A : Around} {E : Value → Shared → Prop} {R : Result → Shared → Prop} {h : Heap} {g : Array GenState} {d : Drawn} {t : Nat} {os : OsState}
variable {nm q : Str} {C N : Addr} {bs bm bmB : List Value} {hdct : Bool} {sn : List Str} {sub : List Value} {ab : Bool} {col : Option Bool} {dd : Option Addr} {k0 k1 k2 k3 k5 : Option Value} {B newId initId : String}
theorem kw_new_check {M : Model} (F : ExcBaseFacts B newId initId bmB) (hT : ∀ X : String, bm.contains (.type X) = bmB.contains (.type X)) {us : List Value} {kw : List (Str × Value)} {Q : Unit → Shared → Prop}
    (hC : h.get? C = some (excClassObj nm q C N bs bm hdct sn sub ab col dd k0 k1 k2 k3 k5 newId)) (hq : Q () ⟨h, g, d, t, os⟩) : wpAny M A (checkBuiltinCall newId ⟨.ref C :: us, kw⟩) Q E ⟨h, g, d, t, os⟩ := by
  have isB : (Value.ref C :: bm).contains (.type B) = true := by rw [List.contains_cons, hT, F.hasB, Bool.or_true]
  have noS := F.noStar
  simp only [checkBuiltinCall, F.newKind, F.newSplit, F.newRow]
  repeat (first
    | refine wpAny_loadPart_at hC ?_
    | (refine wpAny_isSubtype_exc hC ?_; rw [isB])
    | refine wpAny_staticBase_exc hC ?_
    | refine wpAny_madeBy_exc hC ?_
    | simp only [bne_self_eq_false, Bool.false_eq_true, if_false]
    | wp_step)
  exact hq
theorem kw_new (F : ExcBaseFacts B newId initId bmB) (hT : ∀ X : String, bm.contains (.type X) = bmB.contains (.type X)) {us : List Value} {kw : List (Str × Value)}
    (hC : h.get? C = some (excClassObj nm q C N bs bm hdct sn sub ab col dd k0 k1 k2 k3 k5 newId)) (hl : us.length ≤ sizeLine)
    (hq : R (.ok (.ret (.ref (h.objs.size + 1)))) ⟨(h.push (PySem.W.kdv_tup us)).push (PySem.HandSPX.excO C h.objs.size), g, d, t, os⟩) :
    codeAny (model prog w) A (.builtin newId ⟨.ref C :: us, kw⟩) R ⟨h, g, d, t, os⟩ := by
  have fin := F.ends
  have isB : (Value.ref C :: bm).contains (.type B) = true := by rw [List.contains_cons, hT, F.hasB, Bool.or_true]
  have isA : (Value.ref C :: bm).contains (.type "AttributeError") = false := by rw [List.contains_cons, hT, F.noAttr]; rfl
  have isN : (Value.ref C :: bm).contains (.type "NameError") = false := by rw [List.contains_cons, hT, F.noName]; rfl
  refine codeAny_builtinAt F.entry ?_
  unfold Builtin.«BaseException.__new__»
  refine PySem.wpAt_bind ?_
  show PySem.wpAt _ _ _ (stack >>= _) _ _ _
  refine PySem.wpAt_bind (PySem.wpAt_stack fun p below => PySem.wpAt_of_wpAny ?_)
  wp_walk
  refine PySem.wpAt_of_wpAny ?_
  rw [F.owner]
  repeat (first
    | with_reducible refine wpAny_madeHere_exc F.canon hC ?_
    | with_reducible refine wpAny_loadPart_at hC ?_
    | (with_reducible refine wpAny_isSubtype_exc hC ?_; first | rw [isB] | rw [isA] | rw [isN])
    | wp_step)
  show R _ _
  rw [Heap.size_push]
  exact hq
theorem kw_type_call (F : ExcBaseFacts B newId initId bmB) (hT : ∀ X : String, bm.contains (.type X) = bmB.contains (.type X)) {us : List Value} {kw : List (Str × Value)} {fI : Addr} {Q : Fin → Shared → Prop}
    (hC : h.get? C = some (excClassObj nm q C N bs bm hdct sn sub ab col dd k0 k1 k2 k3 k5 newId)) (hl : us.length ≤ sizeLine)
    (hi : PySem.W.Looks (model prog w) h (typeLookup (.ref C) "__init__") (some (.ref fI))) (hb : ∀ self, PySem.W.Looks (model prog w) h (bindSpecial (.ref fI) self) (.ref fI, [self]))
    (hq : codeAny (model prog w) A (.call (.ref fI) ⟨.ref (h.objs.size + 1) :: us, kw⟩)
      (fun r s' => match r with | .ok (.ret v) => v = .none ∧ Q (.done (.ret (.ref (h.objs.size + 1)))) s' | .ok _ => False | .error e => E e s')
      ⟨(h.push (PySem.W.kdv_tup us)).push (PySem.HandSPX.excO C h.objs.size), g, d, t, os⟩) :
    wpAny (model prog w) A (Builtin.«type.__call__» ⟨.ref C :: us, kw⟩) Q E ⟨h, g, d, t, os⟩ := by
  repeat (first
    | with_reducible refine wpAny_loadPart_at hC ?_
    | with_reducible refine wpAny_madeBy_exc hC ?_
    | wp_step)
  refine codeAny_call_builtin_code (Code.quiet_builtin _ F.quiet) (kw_new_check F hT hC ?_)
  refine kw_new F hT hC hl ?_
  show wpAny _ _ _ _ _ _
  have kk : ∀ b o, h.get? b = some o → ((h.push (PySem.W.kdv_tup us)).push (PySem.HandSPX.excO C h.objs.size)).get? b = some o := fun b o e => Heap.get?_push_of_some _ (Heap.get?_push_of_some _ e)
  have cK := kk _ _ hC
  have eK : ((h.push (PySem.W.kdv_tup us)).push (PySem.HandSPX.excO C h.objs.size)).get? (h.objs.size + 1) = some (PySem.HandSPX.excO C h.objs.size) := by heap_get
  have self : (Value.ref C :: bm).contains (.ref C) = true := by simp
  have iK := hi.keeps kk
  have bK := (hb (.ref (h.objs.size + 1))).keeps kk
  unfold isInstance
  repeat (first
    | with_reducible refine wpAny_loadPart_at eK ?_
    | (with_reducible refine wpAny_isSubtype_exc cK ?_; rw [self])
    | wp_step)
  show wpAny _ _ (typeLookup (.ref C) _) _ _ _
  refine iK.at ?_
  refine wpAny_holding (wpAny_bind (bK.at ?_))
  refine wpAny_bind (wpAny_call (codeAny_mono hq fun r s' z => ?_))
  rcases r with e | (v | _ | _ | _) <;> first | exact z | exact z.elim | skip
  obtain ⟨rfl, z⟩ := z
  first
    | exact wpAny_pure (wpAny_pure z)
    | (wp_walk; exact z)
end
end Ami

set_option Elab.async false
set_option linter.all false
set_option maxRecDepth 100000
set_option maxHeartbeats 2000000
/-! the call of a class of errors, and what is made of it -/
namespace Ami
open PySem PySem.Spec PyProof.Rows L2
section
variable {prog : Program} {w : World} {A : Around} {R : Result → Shared → Prop} {h : Heap} {g : Array GenState} {d : Drawn} {t : Nat} {os : OsState}
variable {nm q : Str} {C N : Addr} {bs bm bmB : List Value} {hdct : Bool} {sn : List Str} {sub : List Value} {ab : Bool} {col : Option Bool} {dd : Option Addr} {k0 k1 k2 k3 k5 : Option Value} {B newId initId : String}
theorem kw_check {M : Model} {E : Value → Shared → Prop} {us : List Value} {kw : List (Str × Value)} {Q : Unit → Shared → Prop} (hC : h.get? C = some (excClassObj nm q C N bs bm hdct sn sub ab col dd k0 k1 k2 k3 k5 newId))
    (hq : Q () ⟨h, g, d, t, os⟩) : wpAny M A (checkBuiltinCall "type.__call__" ⟨.ref C :: us, kw⟩) Q E ⟨h, g, d, t, os⟩ := by
  have sb := PySem.tc_sub
  have isT : (⟨h, g, d, t, os⟩ : Shared).TypeIs (.ref C) "type" := ⟨_, hC, rfl⟩
  simp only [checkBuiltinCall, PySem.tc_kind, PySem.tc_split]
  repeat (any_goals (first
    | assumption
    | with_reducible refine wpAny_loadPart_at hC ?_
    | with_reducible refine wpAny_onRaise ?_
    | with_reducible refine wpAny_map ?_
    | wp_step))
theorem kw_call (F : ExcBaseFacts B newId initId bmB) (hT : ∀ X : String, bm.contains (.type X) = bmB.contains (.type X)) {us : List Value} {kw : List (Str × Value)} {fI : Addr}
    (hC : h.get? C = some (excClassObj nm q C N bs bm hdct sn sub ab col dd k0 k1 k2 k3 k5 newId)) (hl : us.length ≤ sizeLine)
    (hi : PySem.W.Looks (model prog w) h (typeLookup (.ref C) "__init__") (some (.ref fI))) (hb : ∀ self, PySem.W.Looks (model prog w) h (bindSpecial (.ref fI) self) (.ref fI, [self]))
    (hq : codeAny (model prog w) (A.under (.builtin "type.__call__" ⟨.ref C :: us, kw⟩)) (.call (.ref fI) ⟨.ref (h.objs.size + 1) :: us, kw⟩) (PySem.W.InitBack (h.objs.size + 1) R)
      ⟨(h.push (PySem.W.kdv_tup us)).push (PySem.HandSPX.excO C h.objs.size), g, d, t, os⟩) :
    codeAny (model prog w) A (.call (.ref C) ⟨us, kw⟩) R ⟨h, g, d, t, os⟩ := by
  have f1 := PySem.tc_lookup
  have f2 := PySem.tc_bind (.ref C)
  have isT : (⟨h, g, d, t, os⟩ : Shared).TypeIs (.ref C) "type" := ⟨_, hC, rfl⟩
  refine codeAny_of_tree ?_
  show wpAny _ _ (callAny (.ref C) _) _ _ _
  repeat (any_goals (first
    | assumption
    | with_reducible refine wpAny_loadPart_at hC ?_
    | wp_step))
  refine ⟨rfl, ?_⟩
  refine codeAny_call_builtin_at (Code.quiet_builtin _ (by decide +kernel)) entry_typeCall ?_
  refine kw_check hC (kw_type_call F hT hC hl hi hb ?_)
  refine codeAny_mono hq fun r s' z => ?_
  rcases r with e | (v | _ | _ | _) <;> exact z
end
end Ami

set_option Elab.async false
set_option linter.all false
set_option maxRecDepth 100000
set_option maxHeartbeats 2000000
/-! an error made, as a value -/
namespace Ami
open PySem PySem.Spec PyProof.Rows L2
/-- behind the making of an object at a: what was not ours stands -/
theorem un_made {fr : List Addr} {H1 H2 : Hp} {h1 hm h2 : Heap} {a : Addr} {o : HO} (ha : h1.objs.size ≤ a) (hn : H1 a = none) (k : ∀ b u, h1.get? b = some u → hm.get? b = some u) (un : Un fr [] (upd H1 a o) H2 hm h2) : Un fr [] H1 H2 h1 h2 := by
  have off : ∀ {b : Addr} {u : Obj}, h1.get? b = some u → b ≠ a := fun {b u} q z => by
    have := Heap.lt_size q
    rw [z] at this
    exact absurd this (Nat.not_lt.mpr ha)
  have up : ∀ {b : Addr} {u : Obj}, h1.get? b = some u → H1 b = none → upd H1 a o b = none := fun q n => by rw [upd_ne (off q)]; exact n
  have st : ∀ {b : Addr} {w : HO}, H1 b = some w → upd H1 a o b = some w := fun q => by rw [upd_ne (ne_of_none q hn)]; exact q
  exact ⟨fun b u q n hf hx => un.keep b u (k b u q) (up q n) hf hx, fun b u q n hf hx => un.slot b u (k b u q) (up q n) hf hx, fun b u q n hx => un.free b u (k b u q) (up q n) hx,
    fun b u q hx => un.there b u (k b u q) hx, fun b xs q => un.tups b xs (st q), fun b u v q => un.frzs b u v (st q), fun b ps q => un.tbls b ps (st q)⟩
/-- C(..) of a class of errors, its own __init__ keeping sp -/
def tMade (C : Addr) (sp : Sp) (gV : List V → List V → List V) (t tk : TA) : TE := fun σ H Q => t σ H fun vs H1 => tk σ H1 fun zs H2 => vs.length ≤ 1000 ∧ ∀ a, H2 a = none →
  sp (gV (.ref a :: vs) zs) (upd H2 a (exo a C none)) (fun v H3 => v = .non ∧ (∃ od, H3 a = some (exo a C od)) ∧ Q (.ref a) H3) E0
section
variable {X : Cx} {CX : CXT} {C fI : Addr} {k : Nat} {fd : FuncData} {ps ks : List Str} {sp : Sp} {g : List Value → List Value → List Value} {gV : List V → List V → List V}
theorem run_made {pins : List (Addr × Obj)} {σ : L2.St} {H : Hp} {s : Shared} {Q : VK} {us ws : List Value} {vs zs : List V} (T : EX X.K C) (iC : PySem.W.findIn X.K (.ref C) "__init__" = some (some (.ref fI))) (tI : PySem.W.typeIn X.K (.ref fI) = some (.type "function"))
    (F1 : FnOk X.prog X.w X.K X.mg X.base CX k fI fd ps sp) (hr : Room (k + 1) X.A) (hb : KBinds X.K fd ps ks g gV) (hx : Passes CX X E0) (I1 : Inv X pins σ H s) (r1 : Vals vs us) (rz : Vals zs ws) (hl : vs.length ≤ 1000)
    (q1 : ∀ a, H a = none → sp (gV (.ref a :: vs) zs) (upd H a (exo a C none)) (fun v H3 => v = .non ∧ (∃ od, H3 a = some (exo a C od)) ∧ Q (.ref a) H3) E0) :
    wpAny (model X.prog X.w) X.A (call (.ref C) us (ks.zip ws)) (EP X pins σ Q) X.xe s := by
  obtain ⟨nm, N, qn, bs, bm, hdct, sn, sub, ab, col, dd, k0, k1, k2, k3, k5, hC, hT⟩ := PySem.W.excInit_of I1.kIn T.ini
  obtain ⟨hp, gn, dr, tk, os⟩ := s
  have hn : H (hp.objs.size + 1) = none := I1.hok.fresh (Nat.le_succ _)
  have hq := q1 (hp.objs.size + 1) hn
  have kk : ∀ b o, hp.get? b = some o → ((hp.push (PySem.W.kdv_tup us)).push (PySem.HandSPX.excO C hp.objs.size)).get? b = some o := fun b o e => Heap.get?_push_of_some _ (Heap.get?_push_of_some _ e)
  have hget : ((hp.push (PySem.W.kdv_tup us)).push (PySem.HandSPX.excO C hp.objs.size)).get? (hp.objs.size + 1) = some (PySem.HandSPX.excO C hp.objs.size) := by heap_get
  have I2 : Inv X pins σ (upd H (hp.objs.size + 1) (exo (hp.objs.size + 1) C none)) ⟨(hp.push (PySem.W.kdv_tup us)).push (PySem.HandSPX.excO C hp.objs.size), gn, dr, tk, os⟩ :=
    I1.laid (t' := tk) (a := hp.objs.size + 1) (o := exo (hp.objs.size + 1) C none) (h' := (hp.push (PySem.W.kdv_tup us)).push (PySem.HandSPX.excO C hp.objs.size)) kk (Nat.le_succ _) (exo_ok hget)
  have r2 : Vals (gV (V.ref (hp.objs.size + 1) :: vs) zs) (g (Value.ref (hp.objs.size + 1) :: us) ws) := hb.rel (.cons rfl r1) rz
  have hlen : (g (Value.ref (hp.objs.size + 1) :: us) ws).length = ps.length := by
    have e := r2.length
    rw [F1.len _ _ _ _ hq] at e
    exact e.symm
  have hus : us.length ≤ sizeLine := by
    rw [← Paired.length r1, sizeLine_eq]
    omega
  refine wpAny_call (kw_call PySem.F.excBase_Exception hT hC hus (PySem.W.looks_findIn I1.kIn iC) (fun self => PySem.W.bind_fn I1.kIn self tI)
    (codeAny_mono (F1.run _ X.stack _ _ ⟨Value.ref (hp.objs.size + 1) :: us, ks.zip ws⟩ _ _ _ E0 (hr.make C us (ks.zip ws)) (I2.env0.make C us (ks.zip ws)) (hb.to _ (Value.ref (hp.objs.size + 1) :: us) ws I2.kIn hlen) r2 hq) fun r s' hq' => ?_))
  cases r with
  | error er => exact hx pins σ _ _ er s' I2 hq'
  | ok fl =>
    cases fl with
    | ret u =>
      obtain ⟨v, H3, os3, bare3, un3, hok3, rv, ev, _, q3⟩ := hq'
      subst ev
      have J : Inv X pins σ H3 s' := I1.call' (ch := []) os3 (un_made (Nat.le_succ _) hn kk un3) hok3 bare3 (fun b z => absurd z (by simp))
      exact ⟨rv, .ref _, H3, J, rfl, q3⟩
    | next => exact False.elim hq'
    | brk => exact False.elim hq'
    | cont => exact False.elim hq'
variable {x : Str} {p pos : Pos} {kws : List Keyword} {e : Expr} {es : List Expr} {t tk : TA}
theorem pe_made (T : EX X.K C) (iC : PySem.W.findIn X.K (.ref C) "__init__" = some (some (.ref fI))) (tI : PySem.W.typeIn X.K (.ref fI) = some (.type "function")) (F1 : FnOk X.prog X.w X.K X.mg X.base CX k fI fd ps sp) (hr : Room (k + 1) X.A) (hb : KBinds X.K fd ps ks g gV) (hx : Passes CX X E0)
    (hm : X.mg x = some (.ref C)) (ha : PA X (e :: es) t) (hkw : PK X kws tk) (hg : Gl X x := by rfl) (hall : (backToKw pos (keywordEach kws X.env)).all (·.1.isSome) = true := by rfl) (hks : (backToKw pos (keywordEach kws X.env)).filterMap (·.1) = ks := by rfl)
    (hdb : (x == ("__debug__" : Str)) = false := by decide) (he : starEach (e :: es) X.env = (false, eval e X.env) :: starEach es X.env := by rfl)
    (hpl : ((backTo pos (starEach (e :: es) X.env)).any (·.1) || (backToKw pos (keywordEach kws X.env)).any (·.1.isNone)) = false := by rfl) : PE X (.Call (.Name x p) (e :: es) kws pos) (tMade C sp gV t tk) := by
  refine ⟨fun pins s σ H Q I h => ?_⟩
  refine wpAny_Call_Name_kw (ld_glob I hg hm ?_ hdb)
  refine PySem.W.callWith_KW (h₀ := X.base) I.ok.mod.kin T.kp hall (thn (ha.run pos pins s σ H _ I h) fun us s1 hv => ?_) hpl he
  obtain ⟨vs, H1, I1, r, q⟩ := hv
  refine thn (hkw.run pos pins s1 σ H1 _ I1 q) fun ws s2 hw => ?_
  obtain ⟨zs, H2, I2, rz, hl, q2⟩ := hw
  refine ⟨I2.kIn, ?_⟩
  rw [hks]
  exact run_made T iC tI F1 hr hb hx I2 r rz hl q2
theorem pe_madeK (T : EX X.K C) (iC : PySem.W.findIn X.K (.ref C) "__init__" = some (some (.ref fI))) (tI : PySem.W.typeIn X.K (.ref fI) = some (.type "function")) (F1 : FnOk X.prog X.w X.K X.mg X.base CX k fI fd ps sp) (hr : Room (k + 1) X.A) (hb : KBinds X.K fd ps ks g gV) (hx : Passes CX X E0)
    (hm : X.mg x = some (.ref C)) (hkw : PK X kws tk) (hg : Gl X x := by rfl) (hall : (backToKw pos (keywordEach kws X.env)).all (·.1.isSome) = true := by rfl) (hks : (backToKw pos (keywordEach kws X.env)).filterMap (·.1) = ks := by rfl)
    (hdb : (x == ("__debug__" : Str)) = false := by decide) (hpl : ((backTo pos (starEach [] X.env)).any (·.1) || (backToKw pos (keywordEach kws X.env)).any (·.1.isNone)) = false := by rfl) : PE X (.Call (.Name x p) [] kws pos) (tMade C sp gV tNil tk) := by
  refine ⟨fun pins s σ H Q I h => ?_⟩
  refine wpAny_Call_Name_kw (ld_glob I hg hm ?_ hdb)
  refine PySem.W.callWith_KW0 (h₀ := X.base) I.ok.mod.kin T.kp hall ?_ hpl
  refine thn (hkw.run pos pins s σ H _ I h) fun ws s2 hw => ?_
  obtain ⟨zs, H2, I2, rz, hl, q2⟩ := hw
  refine ⟨I2.kIn, ?_⟩
  rw [hks]
  exact run_made T iC tI F1 hr hb hx I2 .nil rz hl q2
end

/-! ### isinstance, attributes -/
section
variable {X : Cx}
/-- at a stands an error of the class at C, its dict (none | at d) -/
def ErrAt (H : Hp) (a C : Addr) (od : Option Addr) : Prop := ∃ φ : Heap → Prop, H a = some (.ext φ) ∧ ∀ h : Heap, φ h → ∃ ox : Obj, h.get? a = some ox ∧ ox.cls = .ref C ∧ PySem.W.notCls ox = true ∧ ox.dict = od
theorem ErrAt.same {H H' : Hp} {a C : Addr} {od : Option Addr} (s : Same H H') (h : ErrAt H a C od) : ErrAt H' a C od := by
  obtain ⟨φ, e, k⟩ := h
  exact ⟨φ, s _ _ e, k⟩
theorem exo_err {H : Hp} {a C : Addr} {od : Option Addr} (e : H a = some (exo a C od)) : ErrAt H a C od := ⟨_, e, fun h z => by
  obtain ⟨t, ho⟩ := z
  exact ⟨_, ho, rfl, rfl, rfl⟩⟩
theorem exO_err {H : Hp} {a C : Addr} (e : H a = some (ExO (.ref C) a)) : ErrAt H a C none := ⟨_, e, fun h z => by
  obtain ⟨oe, vs, ho, hz, hd, _⟩ := z
  exact ⟨oe, ho, hz.1, by unfold PySem.W.notCls; rw [hd] <;> rfl, hz.2⟩⟩
/-- the object at a is an error of the class at C -/
theorem inst_at {pins : List (Addr × Obj)} {σ : L2.St} {H : Hp} {s : Shared} {a C : Addr} {od : Option Addr} (I : Inv X pins σ H s) (e : ErrAt H a C od) (hd : ∀ d, od = some d → ∃ fs, H d = some (exd d fs)) : ∃ ox oo, PySem.W.InstAt s.heap a ox C oo ∧ ox.dict = od := by
  obtain ⟨φ, ea, hφ⟩ := e
  obtain ⟨ox, ho, hc, hn, hdi⟩ := hφ _ (I.hok a _ ea).1
  cases od with
  | none => exact ⟨ox, none, ⟨ho, hc, hn, by rw [hdi]; trivial⟩, hdi⟩
  | some d =>
    obtain ⟨fs, ed⟩ := hd d rfl
    obtain ⟨mA, ⟨o, es, ep, z, _⟩, rel⟩ := exd_at I.hok ed
    exact ⟨ox, some o, ⟨ho, hc, hn, by rw [hdi]; exact z⟩, hdi⟩
/-- isinstance(e, c), e an error that was made -/
def rIsX (K : PySem.W.Frag) : List V → Hp → VK → Prop := fun xs H Q => ∃ (a C : Addr) (od : Option Addr) (c : V) (cv : Value) (b : Bool), xs = [.ref a, c] ∧ EX K C ∧ ErrAt H a C od ∧ (∀ d, od = some d → ∃ fs, H d = some (exd d fs)) ∧ (∀ u, RelV c u → u = cv) ∧ PySem.W.kitOne K (.ref C) cv = some b ∧ Q (.bl b) H
theorem call_isX : CallR X (.builtin "isinstance") (rIsX X.K) := by
  intro pins s σ H xs us Q I r h
  obtain ⟨a, C, od, c, cv, b, rfl, T, ea, ed, hcv, hk, q⟩ := h
  obtain ⟨ox, oo, J, _⟩ := inst_at I ea ed
  cases r with
  | cons rx rr =>
    cases rr with
    | cons rc rr =>
      cases rr
      cases rx
      obtain rfl := hcv _ rc
      exact PySem.W.kia_one (PySem.W.kitx_exc T.cl T.ga T.gg T.ex T.cc T.sn T.tk T.mo) I.kIn J hk (fun z => nomatch z) fun tk => ⟨.bl b, H, I.kept (t' := tk) fun _ _ z => z, rfl, q⟩
/-- the types' names in a tuple -/
theorem tys_of : ∀ {ns : List String} {us : List Value}, Vals (ns.map fun n => V.ty n) us → us = ns.map fun n => Value.type n
  | [], _, .nil => rfl
  | n :: ns, u :: us, .cons r t => by
    have e : u = Value.type n := r
    rw [e, tys_of t]; rfl
/-- isinstance(e, (A, ..)) of built-in classes -/
def rIsXs (K : PySem.W.Frag) : List V → Hp → VK → Prop := fun xs H Q => ∃ (a C tp : Addr) (od : Option Addr) (ns : List String) (b : Bool), xs = [.ref a, .ref tp] ∧ EX K C ∧ ErrAt H a C od ∧ (∀ d, od = some d → ∃ fs, H d = some (exd d fs)) ∧
  H tp = some (.tup (ns.map fun n => V.ty n)) ∧ PySem.W.kitAny K (.ref C) (ns.map fun n => Value.type n) = some b ∧ Q (.bl b) H
theorem call_isXs : CallR X (.builtin "isinstance") (rIsXs X.K) := by
  intro pins s σ H xs us Q I r h
  obtain ⟨a, C, tp, od, ns, b, rfl, T, ea, ed, et, hk, q⟩ := h
  obtain ⟨ox, oo, J, _⟩ := inst_at I ea ed
  cases r with
  | cons rx rr =>
    cases rr with
    | cons rc rr =>
      cases rr
      cases rx
      cases rc
      obtain ⟨_, its, rv, o, ho, hc, n, hd⟩ := I.hok tp _ et
      have e := tys_of rv
      subst e
      obtain ⟨oc, odi, oda, osl⟩ := o
      dsimp only at hc hd
      subst hc hd
      exact PySem.W.kia_tup (PySem.W.kitx_exc T.cl T.ga T.gg T.ex T.cc T.sn T.tk T.mo) I.kIn J ho hk (fun z => nomatch z) fun tk => ⟨.bl b, H, I.kept (t' := tk) fun _ _ z => z, rfl, q⟩
/-- e.f, e an error that was made -/
def tXget (K : PySem.W.Frag) (f : Str) (te : TE) : TE := fun σ H Q => te σ H fun x H1 => ∃ (a C d : Addr) (fs : List (Str × V)) (v : V), x = .ref a ∧ EX K C ∧ H1 a = some (exo a C (some d)) ∧ H1 d = some (exd d fs) ∧ PySem.W.findIn K (.ref C) f = some none ∧ fs.lookup f = some v ∧ Q v H1
theorem pe_xget {e : Expr} {te : TE} {pos : Pos} {f : Str} (he : PE X e te) (hb : attributeBase e f X.env (eval e X.env) = eval e X.env := by rfl) : PE X (.Attribute e f pos) (tXget X.K f te) := by
  refine ⟨fun pins s σ H Q I h => ?_⟩
  refine attr_of hb (thn (he.run pins s σ H _ I h) fun u s1 hv => ?_)
  obtain ⟨x, H1, I1, rx, a, C, d, fs, v, rfl, T, ea, ed, hno, l, q⟩ := hv
  obtain rfl : u = Value.ref a := rx
  obtain ⟨t1, ho⟩ := exo_at I1.hok ea
  obtain ⟨mA, hns, rel⟩ := exd_at I1.hok ed
  obtain ⟨oo, hoo, hlk⟩ := lookIn_ns hns
  have g := rel f
  rw [l] at g
  cases hm : mA f with
  | none => rw [hm] at g; exact absurd g (fun z => z)
  | some w =>
    rw [hm] at g
    have rw' : RelV v w := g
    have J : PySem.W.InstAt s1.heap a { cls := .ref C, dict := some d, data := .fields #[.ref t1, .none, .none, .none, .bool false, .none] } C (some oo) := ⟨ho, rfl, rfl, hoo⟩
    exact PySem.HandSPX.exc_get I1.kIn J T.ga T.gg T.ex (PySem.W.findObj_own T.hd hno rfl (by rw [hlk, hm])) (handed_of rw') ⟨v, H1, I1.tok _, rw', q⟩
end
end Ami

set_option Elab.async false
set_option linter.all false
set_option maxRecDepth 100000
set_option maxHeartbeats 2000000
/-! raised and caught: a def that is asked about the error that is being handled -/
namespace Ami
open PySem PySem.Spec PyProof.Rows L2
/-- a promise of a def that runs while the error p is handled -/
structure FnP (P : Program) (w : World) (K : PySem.W.Frag) (mg : Str → Option Value) (base : Heap) (k : Nat) (f : Addr) (fd : FuncData) (ps : List Str) (p : Addr × Obj) (sp : Sp) : Prop where
  run : ∀ (A : Around) (outer : List Env) (s : Shared) (H : Hp) (args : Args) (us : List Value) (vs : List V) (Q : VK) (E : XK), L2H.RoomH k A → L2H.Hot1 A p → L2H.PinOk outer H s p → Env0 P w K mg base A outer s H → BindsTo s fd args (ps.zip us) → Vals vs us → vs.length = ps.length → sp vs H Q E →
    codeAny (model P w) A (.call (.ref f) args) (CR CX0 outer P w H s Q E) s
section
variable {P : Program} {w : World} {K : PySem.W.Frag} {mg : Str → Option Value} {base : Heap}
theorem Fun.okP {x qual : Str} {st : Stmt} {f : Addr} {fd : FuncData} {N ps : List Str} {k : Nat} {p : Addr × Obj} {sp : Sp} (F : Fun K x qual st f fd) (S : FnScope N ps (defScope st))
    (hbody : ∀ (cdv : Value) (A : Around) (outer : List Env) (s : Shared) (H : Hp) (vs : List V) (Q : VK) (E : XK), L2H.Hot1 A p → sp vs H Q E →
      ∃ t, PSs (L2H.cxH CX0 P w K mg base N qual (defScope st) f cdv A outer s H E p) (defBody st) t ∧ t { nx := fun _ H' => Q .non H', rt := Q } (start N vs) H) : FnP P w K mg base (k + 1) f fd ps p sp := by
  obtain ⟨oc, od, kV, doc, pm, an, cdv, ct, osl, rfl, lk, hcd⟩ := F.ex
  refine ⟨fun A outer s H args us vs Q E hr hot hpin e0 hb r hl hsp => ?_⟩
  have kin : K.In s.heap := e0.mod.kin.keeps fun b o e => (e0.bs b o e).1
  have lim : s.heap.NoLimit := e0.mod.nolimit.keeps fun b o e => (e0.bs b o e).1
  have par : ∀ y ∈ ps.zip us, (defScope st).names.lookup y.1 = some .local ∨ ((defScope st).names.lookup y.1 = some .cell ∧ ((cellsFrom (s.heap.objs.size + 1) (defScope st).names []).lookup y.1).isSome = true) := fun ⟨n, v⟩ hy => by
    rcases S.par n (List.of_mem_zip hy).1 with q | q
    · exact .inl q
    · exact .inr ⟨q, PySem.W.cellsFrom_some _ _ _ (.inl q)⟩
  refine codeAny_call_function hr.depth (kin _ _ lk) rfl S.co S.gen rfl (PySem.W.codeRec_of kin hcd) (hb _ _ _ _ ?_)
  refine wpAny_newFunctionEnv_cells S.kind par fun env he s1 x => ?_
  subst he
  refine ⟨lim.keeps x.toInCall.keep, codeAny_func ?_⟩
  obtain ⟨t, ht, hq⟩ := hbody cdv A outer s H vs Q E hot hsp
  have I : Inv (L2H.cxH CX0 P w K mg base N qual (defScope st) f cdv A outer s H E p) [] (start N vs) H s1 := L2H.inv_startH S hpin e0 hl r x
  have fin : ∀ {σ' : L2.St} {H' : Hp} {s' : Shared} {v : V} {u : Value}, Inv (L2H.cxH CX0 P w K mg base N qual (defScope st) f cdv A outer s H E p) [] σ' H' s' → RelV v u → Q v H' → CE outer P w H s Q u s' := fun {σ' H' s' v u} J rv q => ⟨v, H', J.os, J.bare, J.base, J.hok, rv, q⟩
  refine wpAny_mono (ht.run [] s1 (start N vs) H _ I hq) (fun fl s' hs => ?_) fun e s' hs => hs
  cases fl with
  | ret u => obtain ⟨v, σ', H', J, rv, q⟩ := hs; exact fin J rv q
  | next => obtain ⟨σ', H', J, q⟩ := hs; exact fin (v := V.non) (u := Value.none) J rfl q
  | brk => obtain ⟨_, _, _, q⟩ := hs; exact False.elim q
  | cont => obtain ⟨_, _, _, q⟩ := hs; exact False.elim q
end
section
variable {X : Cx} {k : Nat} {f : Addr} {fd : FuncData} {ps : List Str} {sp : Sp} {p : Addr × Obj} {x : Str} {np pos : Pos} {e : Expr} {es : List Expr} {t : TA}
/-- f(e, ..) while p is handled -/
theorem pe_callP (F : FnP X.prog X.w X.K X.mg X.base k f fd ps p sp) (hr : L2H.RoomH k X.A) (hot : L2H.Hot1 X.A p) (hp : p ∈ X.pn) (hg : Gl X x) (hm : X.mg x = some (.ref f)) (hk : PySem.W.keepIn X.K (.ref f) = true) (hb : Binds X.K fd ps []) (hn : (e :: es).length = ps.length)
    (ha : PA X (e :: es) t) (hln : ∀ σ H Q, t σ H Q → t σ H fun vs H1 => vs.length = ps.length ∧ Q vs H1) (hdb : (x == ("__debug__" : Str)) = false := by decide) (he : starEach (e :: es) X.env = (false, eval e X.env) :: starEach es X.env := by rfl)
    (hpl : (backTo pos (starEach es X.env)).any (·.1) = false := by rfl) : PE X (.Call (.Name x np) (e :: es) [] pos) (fun σ H Q => t σ H fun vs H1 => sp vs H1 Q E0) := by
  refine ⟨fun pins s σ H Q I h => ?_⟩
  refine wpAny_Call_Name_kw (ld_glob I hg hm ?_ hdb)
  refine PySem.W.callWith_K (h₀ := X.base) I.ok.mod.kin hk (thn (ha.run pos pins s σ H _ I (hln σ H _ h)) fun us s1 hv => ?_) he hpl
  obtain ⟨vs, H1, I1, r, hlv, q⟩ := hv
  refine ⟨I1.kIn, ?_⟩
  have b := hb s1 us I1.kIn (by rw [List.append_nil, ← r.length]; exact hlv)
  rw [List.append_nil] at b
  have P1 := I1.pin p (List.mem_append_left _ hp)
  have hpin : L2H.PinOk X.stack H1 s1 p := ⟨P1.1, P1.2.1, fun hm => (List.mem_cons.mp (I1.stkSub p.1 hm)).elim P1.2.2.1 P1.2.2.2.1, P1.2.2.2.2⟩
  refine wpAny_call (codeAny_mono (F.run X.A X.stack s1 H1 ⟨us, []⟩ us vs Q E0 hr hot hpin I1.env0 b r hlv q) fun r s' hq => ?_)
  cases r with
  | error e => exact False.elim hq
  | ok fl =>
    cases fl with
    | ret u => exact I1.after hq
    | next => exact False.elim hq
    | brk => exact False.elim hq
    | cont => exact False.elim hq
/-- isinstance(e, c), e an error of a class without more: pinned, by its object -/
def rIsP (K : PySem.W.Frag) (p : Addr × Obj) : List V → Hp → VK → Prop := fun xs H Q => ∃ (C : Addr) (c : V) (cv : Value) (b : Bool), xs = [.ref p.1, c] ∧ EX K C ∧ p.2.cls = .ref C ∧ (∃ vs, p.2.data = .fields vs) ∧ (∀ d, p.2.dict = some d → ∃ fs, H d = some (exd d fs)) ∧ (∀ u, RelV c u → u = cv) ∧ PySem.W.kitOne K (.ref C) cv = some b ∧ Q (.bl b) H
theorem call_isP (hp : p ∈ X.pn) : CallR X (.builtin "isinstance") (rIsP X.K p) := by
  intro pins s σ H xs us Q I r h
  obtain ⟨C, c, cv, b, rfl, T, hC, ⟨fv, hfv⟩, hd, hcv, hk, q⟩ := h
  have P1 := I.pin p (List.mem_append_left _ hp)
  have J : ∃ oo, PySem.W.InstAt s.heap p.1 p.2 C oo := by
    cases ed : p.2.dict with
    | none => exact ⟨none, P1.1, hC, by unfold PySem.W.notCls; rw [hfv] <;> rfl, by rw [ed]; trivial⟩
    | some d =>
      obtain ⟨fs, z⟩ := hd d ed
      obtain ⟨mA, ⟨o, _, _, z2, _⟩, _⟩ := exd_at I.hok z
      exact ⟨some o, P1.1, hC, by unfold PySem.W.notCls; rw [hfv] <;> rfl, by rw [ed]; exact z2⟩
  obtain ⟨oo, J⟩ := J
  cases r with
  | cons rx rr =>
    cases rr with
    | cons rc rr =>
      cases rr
      cases rx
      obtain rfl := hcv _ rc
      exact PySem.W.kia_one (PySem.W.kitx_exc T.cl T.ga T.gg T.ex T.cc T.sn T.tk T.mo) I.kIn J hk (fun z => nomatch z) fun tk => ⟨.bl b, H, I.kept (t' := tk) fun _ _ z => z, rfl, q⟩
/-- raise C(..), by the value that was made -/
theorem pmk_made {e : Expr} {te : TE} (hx : X.ex = []) (he : PE X e te) :
    L2N.PMk X e (fun σ H Q => te σ H fun x H1 => ∃ (a C : Addr) (od : Option Addr), x = .ref a ∧ H1 a = some (exo a C od) ∧ Fr0 X.H_0 a ∧ EX X.K C ∧ Q (.ref C) od (delH H1 a)) := by
  intro pins s σ H Q I h
  refine wpAny_mono (he.run pins s σ H _ I h) (fun u s1 hu => ?_) fun _ _ x => x
  obtain ⟨v, H1, I1, r1, a, C, od, rfl, ha, h0, T, q⟩ := hu
  cases r1
  obtain ⟨t1, ho⟩ := exo_at I1.hok ha
  obtain ⟨G, gs, ga, J⟩ := I1.untrack ha h0 hx
  refine ⟨a, _, _, { s1 with heap := G }, delH H1 a, .ref C, od, rfl, J, gs, ga, ho, ⟨rfl, rfl, fun vs' e' => ?_⟩, rfl, rfl, delH_same, rfl, I1.bare, raises_own T.ex T.ty, q⟩
  cases e'
  rfl
end
end Ami

set_option Elab.async false
set_option linter.all false
set_option maxRecDepth 100000
set_option maxHeartbeats 2000000
namespace Ami
open PySem PySem.Spec PyProof.Rows L2

/-! ### rows of flat values as data -/
def fD : V → PyData
  | .bl b => .bool b
  | .int i => .int i
  | .str x => .str x
  | _ => .none
/-- None, a bool, an int, a text that can be laid -/
def okF : V → Bool
  | .non => true
  | .bl _ => true
  | .int _ => true
  | .str x => PyData.strOk x
  | _ => false
theorem dp_flat {K : PySem.W.Frag} {H : Hp} : ∀ {v : V}, okF v = true → Dp K H v (fD v)
  | .non, _ => .non
  | .bl b, _ => .bl b
  | .int i, _ => .int i
  | .str x, _ => .str x
theorem dpAll_flat {K : PySem.W.Frag} {H : Hp} : ∀ {xs : List V}, xs.all okF = true → DpAll K H xs (xs.map fD)
  | [], _ => .nil
  | v :: xs, h => by
    rw [List.all_cons, Bool.and_eq_true] at h
    exact .cons (dp_flat h.1) (dpAll_flat h.2)
theorem dq_flat {K : PySem.W.Frag} {H : Hp} : ∀ {v : V}, okF v = true → Dq K H v (fD v)
  | .non, _ => .non
  | .bl b, _ => .bl b
  | .int i, _ => .int i
  | .str x, _ => .str x
theorem dqAll_flat {K : PySem.W.Frag} {H : Hp} : ∀ {xs : List V}, xs.all okF = true → DqAll K H xs (xs.map fD)
  | [], _ => .nil
  | v :: xs, h => by
    rw [List.all_cons, Bool.and_eq_true] at h
    exact .cons (dq_flat h.1) (dqAll_flat h.2)
theorem canLay_flat : ∀ {v : V}, okF v = true → (fD v).canLay0 = true
  | .non, _ => rfl
  | .bl _, _ => rfl
  | .int _, _ => rfl
  | .str x, h => h
theorem canLayAll_flat : ∀ {xs : List V}, xs.all okF = true → PyData.canLayAll0 (xs.map fD) = true
  | [], _ => rfl
  | v :: xs, h => by
    rw [List.all_cons, Bool.and_eq_true] at h
    show ((fD v).canLay0 && PyData.canLayAll0 (xs.map fD)) = true
    rw [canLay_flat h.1, canLayAll_flat h.2]; rfl
theorem depth_flat : ∀ v : V, (fD v).depth = 0
  | .non => rfl
  | .bl _ => rfl
  | .int _ => rfl
  | .str _ => rfl
  | .byt _ => rfl
  | .flt _ => rfl
  | .ref _ => rfl
  | .ty _ => rfl
theorem depthAll_flat : ∀ xs : List V, PyData.depthAll (xs.map fD) = 0
  | [] => rfl
  | v :: xs => by
    show max (fD v).depth (PyData.depthAll (xs.map fD)) = 0
    rw [depth_flat, depthAll_flat]; rfl
theorem shaped_list {xs : List V} (h : xs.all okF = true) : SeqAt.shaped (.list (xs.map fD)) = true := by
  show ((PyData.list (xs.map fD)).canLay0 && decide ((PyData.list (xs.map fD)).depth ≤ 64)) = true
  have e1 : (PyData.list (xs.map fD)).canLay0 = true := canLayAll_flat h
  have e2 : (PyData.list (xs.map fD)).depth = 1 := by
    show PyData.depthAll (xs.map fD) + 1 = 1
    rw [depthAll_flat]
  rw [e1, e2]; rfl
theorem shaped_tup {xs : List V} (h : xs.all okF = true) : SeqAt.shaped (.tuple (xs.map fD)) = true := by
  show ((PyData.tuple (xs.map fD)).canLay0 && decide ((PyData.tuple (xs.map fD)).depth ≤ 64)) = true
  have e1 : (PyData.tuple (xs.map fD)).canLay0 = true := canLayAll_flat h
  have e2 : (PyData.tuple (xs.map fD)).depth = 1 := by
    show PyData.depthAll (xs.map fD) + 1 = 1
    rw [depthAll_flat]
  rw [e1, e2]; rfl
theorem eqvAll_nil : ∀ xs : List V, PyData.eqvAll (xs.map fD) [] = xs.isEmpty
  | [] => rfl
  | _ :: _ => rfl
theorem all_ints (ns : List Int) : (ns.map V.int).all okF = true := by
  rw [List.all_eq_true]
  intro v hv
  obtain ⟨n, _, rfl⟩ := List.mem_map.mp hv
  rfl
theorem all_bls (bs : List Bool) : (bs.map V.bl).all okF = true := by
  rw [List.all_eq_true]
  intro v hv
  obtain ⟨n, _, rfl⟩ := List.mem_map.mp hv
  rfl

/-- xs != [], xs == [] over flat items: the answer -/
theorem ne_nil {K : PySem.W.Frag} {H : Hp} {a p : Addr} {xs : List V} {Q : VK} (ha : SqL K H a xs) (hp : SqL K H p []) (h : xs.all okF = true) (q : Q (.bl (!xs.isEmpty)) H) : rNeD K (.ref a) (.ref p) H Q :=
  ⟨_, _, .lst ha (dpAll_flat h), .lst hp .nil, shaped_list h, rfl, by
    have e : PyData.eqv (.list (xs.map fD)) (.list []) = xs.isEmpty := eqvAll_nil xs
    rw [e]; exact q⟩
theorem eq_nil {K : PySem.W.Frag} {H : Hp} {a p : Addr} {xs : List V} {Q : VK} (ha : SqL K H a xs) (hp : SqL K H p []) (h : xs.all okF = true) (q : Q (.bl xs.isEmpty) H) : rEqD K (.ref a) (.ref p) H Q :=
  ⟨_, _, .lst ha (dpAll_flat h), .lst hp .nil, shaped_list h, rfl, by
    have e : PyData.eqv (.list (xs.map fD)) (.list []) = xs.isEmpty := eqvAll_nil xs
    rw [e]; exact q⟩
theorem pow18 : CPow 10 18 := ⟨by decide, by decide, by decide⟩
theorem pow39 : CPow 10 39 := ⟨by decide, by decide, by decide⟩
theorem mod_range (a : Int) {m : Int} (h : 0 < m) : 0 ≤ a % m ∧ a % m < m := ⟨Int.emod_nonneg _ (by omega), Int.emod_lt_of_pos _ h⟩
end Ami

set_option Elab.async false
set_option linter.all false
set_option maxRecDepth 100000
set_option maxHeartbeats 2000000
namespace Ami
open PySem PySem.Spec PyProof.Rows L2

/-! ### texts of signs, sorted and joined -/
theorem joinOnes (cs : List Nat) : Txt.join ⟨#[]⟩ (cs.map one) = ⟨cs.toArray⟩ := by
  have h := join_nil_signs ⟨cs.toArray⟩
  have e : PyProof.Rows.signs ⟨cs.toArray⟩ = cs.map one := rfl
  rw [e] at h
  show Builtin.Str.glued ⟨#[]⟩ (cs.map one) = _
  rw [StrLaws.glued_eq_join]
  exact h
theorem eraseMap {α β : Type} (f : α → β) : ∀ (l : List α) (n : Nat), (l.map f).eraseIdx n = (l.eraseIdx n).map f
  | [], _ => rfl
  | _ :: _, 0 => rfl
  | a :: l, n + 1 => by
    show f a :: (l.map f).eraseIdx n = f a :: (l.eraseIdx n).map f
    rw [eraseMap f l n]
theorem one_inj {a b : Nat} (h : one a = one b) : a = b := by
  have e : [a] = [b] := congrArg (fun y : Str => y.cps.toList) h
  exact (List.cons.inj e).1
theorem unmap_ones {ys : List Str} {cs : List Nat} (h : ys.Perm (cs.map one)) : ∃ ds : List Nat, ys = ds.map one ∧ ds.Perm cs := by
  have e : ys = (ys.map fun y => y.cps.getD 0 0).map one := by
    rw [List.map_map]
    conv => lhs; rw [← List.map_id ys]
    refine List.map_congr_left fun y hy => ?_
    obtain ⟨c, _, rfl⟩ := List.mem_map.mp (h.mem_iff.mp hy)
    rfl
  refine ⟨ys.map fun y => y.cps.getD 0 0, e, ?_⟩
  have q := h.map fun y => y.cps.getD 0 0
  rw [List.map_map] at q
  have e2 : cs.map ((fun y : Str => y.cps.getD 0 0) ∘ one) = cs := by
    conv => rhs; rw [← List.map_id cs]
    exact List.map_congr_left fun _ _ => rfl
  rw [e2] at q
  exact q
theorem rising_ones : ∀ (p : Nat) (cs : List Nat), risingS (one p) (cs.map one) = true → (p :: cs).Pairwise (· ≤ ·)
  | p, [], _ => List.pairwise_singleton _ _
  | p, x :: r, h => by
    have h' : (!ltCps [x] [p] && risingS (one x) (r.map one)) = true := h
    rw [Bool.and_eq_true] at h'
    have ih := rising_ones x r h'.2
    have hx : p ≤ x := by
      have e : ltCps [x] [p] = false := by simpa using h'.1
      have e2 : (decide (x < p) || (x == p && false)) = false := e
      simp at e2
      omega
    refine List.pairwise_cons.mpr ⟨fun y hy => ?_, ih⟩
    rcases List.mem_cons.mp hy with rfl | hy
    · exact hx
    · exact Nat.le_trans hx ((List.pairwise_cons.mp ih).1 y hy)
theorem sorted_ones : ∀ {cs : List Nat}, sortedS (cs.map one) = true → cs.Pairwise (· ≤ ·)
  | [], _ => .nil
  | x :: r, h => rising_ones x r h
theorem lt_of_le {cs : List Nat} (h : cs.Pairwise (· ≤ ·)) (nd : cs.Nodup) : cs.Pairwise (· < ·) := by
  induction cs with
  | nil => exact .nil
  | cons x r ih =>
    obtain ⟨h1, h2⟩ := List.pairwise_cons.mp h
    obtain ⟨n1, n2⟩ := List.nodup_cons.mp nd
    refine List.pairwise_cons.mpr ⟨fun y hy => ?_, ih h2 n2⟩
    have := h1 y hy
    have : x ≠ y := fun e => n1 (e ▸ hy)
    omega
/-- two rising rows with the same members are one -/
theorem rows_eq {xs ys : List Nat} (hx : xs.Pairwise (· < ·)) (hy : ys.Pairwise (· < ·)) (h : ∀ c, c ∈ xs ↔ c ∈ ys) : xs = ys := by
  have nx : xs.Nodup := hx.imp fun a => Nat.ne_of_lt a
  have ny : ys.Nodup := hy.imp fun a => Nat.ne_of_lt a
  have p : xs.Perm ys := (List.perm_ext_iff_of_nodup nx ny).mpr h
  exact p.eq_of_pairwise (fun a b _ _ h1 h2 => absurd (Nat.lt_trans h1 h2) (Nat.lt_irrefl _)) hx hy

/-- all signs below 128 -/
def Asc (z : Str) : Prop := ∀ c ∈ z.cps.toList, c < 128
theorem Asc.mem {z y : Str} (h : Asc z) (k : ∀ c ∈ y.cps.toList, c ∈ z.cps.toList) : Asc y := fun c hc => h c (k c hc)
theorem Asc.append {z y : Str} (h : Asc z) (k : Asc y) : Asc (z ++ y) := fun c hc => by
  have e : (z ++ y).cps.toList = z.cps.toList ++ y.cps.toList := Array.toList_append
  rw [e] at hc
  exact (List.mem_append.mp hc).elim (h c) (k c)
theorem Asc.cut {z : Str} (h : Asc z) (lo hi : Option Int) : Asc (cutS z lo hi) := h.mem fun c hc => List.mem_of_mem_drop (List.mem_of_mem_take hc)
theorem Asc.rev {z : Str} (h : Asc z) : Asc (revS z) := h.mem fun c hc => List.mem_reverse.mp hc
theorem Asc.rep {z : Str} (h : Asc z) (n : Nat) : Asc (repS z n) := h.mem fun c hc => repS_mem hc
theorem Asc.ok {z : Str} (h : Asc z) : PyData.strOk z = true := by
  show (z.cps.all (· < 0x110000)) = true
  rw [← Array.all_toList, List.all_eq_true]
  intro c hc
  have := h c hc
  exact decide_eq_true (by omega)
theorem Asc.repr {z : Str} (h : Asc z) (hl : z.length ≤ 100000) : (reprText z).length ≤ sizeLine := by
  have := StrLaws.reprText_len z fun c hc => Nat.lt_of_lt_of_le (h c hc) (by decide)
  rw [sizeLine_eq]
  omega
theorem append_length (z y : Str) : (z ++ y).length = z.length + y.length := Str.length_append z y

/-- letters as the laws draw them: two to so many of ten letters, ascending -/
def pool : List Nat := [97, 98, 99, 100, 101, 104, 109, 120, 121, 122]
def Sgn (top : Nat) (z : Str) : Prop := ∃ cs : List Nat, z = ⟨cs.toArray⟩ ∧ cs.Pairwise (· < ·) ∧ 2 ≤ cs.length ∧ cs.length ≤ top ∧ ∀ c ∈ cs, c ∈ pool
theorem Sgn.len {top : Nat} {z : Str} (h : Sgn top z) : 2 ≤ z.length ∧ z.length ≤ top := by
  obtain ⟨cs, rfl, _, h1, h2, _⟩ := h
  have e : (⟨cs.toArray⟩ : Str).length = cs.length := by simp [Str.length]
  omega
theorem Sgn.asc {top : Nat} {z : Str} (h : Sgn top z) : Asc z := by
  obtain ⟨cs, rfl, _, _, _, h3⟩ := h
  intro c hc
  have := h3 c hc
  simp [pool] at this
  omega
/-- letters drawn, as a promise -/
def spSigns : Sp := fun vs H Q _ => ∃ (d c : Addr) (n top : Nat), vs = [.ref d, .int top] ∧ 2 ≤ top ∧ top ≤ 10 ∧ n + 20 < 1000000 ∧ DeckAt H d c n ∧
  ∀ (H' : Hp) (z : Str) (n' : Nat), Sgn top z → n' ≤ n + 11 → DeckAt H' d c n' → But d c H H' → Q (.str z) H'
end Ami

set_option Elab.async false
set_option linter.all false
set_option maxRecDepth 100000
set_option maxHeartbeats 2000000
namespace Ami
open PySem PySem.Spec PyProof.Rows L2
theorem Same.seqT {K : PySem.W.Frag} {H H' : Hp} {a : Addr} {xs : List V} (e : Same H H') (h : SqT K H a xs) : SqT K H' a xs := by
  rcases h with (h | ⟨o, h⟩) | h
  · exact .inl (.inl (e _ _ h))
  · exact .inl (.inr ⟨o, e _ _ h⟩)
  · exact .inr h
theorem TyOf.same {K : PySem.W.Frag} {H H' : Hp} (e : Same H H') {x : V} {t : Value} (h : TyOf K H x t) : TyOf K H' x t := by
  cases h with
  | non => exact .non
  | bl b => exact .bl b
  | int i => exact .int i
  | str z => exact .str z
  | flt z => exact .flt z
  | lst h => exact .lst (e _ _ h)
  | frz h => exact .frz (e _ _ h)
  | tup h => exact .tup (e _ _ h)
  | dK h => exact .dK (e _ _ h)
  | dT h => exact .dT (e _ _ h)
  | ins h cl ha hn htk hm => exact .ins (e _ _ h) cl ha hn htk hm
theorem TyX.same {K : PySem.W.Frag} {H H' : Hp} (e : Same H H') {x : V} {t : Value} (h : TyX K H x t) : TyX K H' x t := by
  cases h with
  | base h => exact .base (TyOf.same e h)
  | byt b => exact .byt b
  | set h => exact .set (e _ _ h)
  | kList h c => exact .kList h c
  | kTuple h c => exact .kTuple h c
  | kDict h c => exact .kDict h c
  | fTuple h => exact .fTuple (e _ _ h)
  | fDict h => exact .fDict (e _ _ h)
theorem Dq.up {K : PySem.W.Frag} {H H' : Hp} (e : Same H H') {v : V} {d : PyData} (h : Dq K H v d) : Dq K H' v d :=
  h.same fun a => ⟨fun _ q => e.seq q, fun _ q => Same.seqT e q, fun _ q => e _ _ q⟩
/-- a row of two answers, as data -/
def D2b (b : Bool) : PyData := .list [.bool b, .bool b]
theorem d2_len (b : Bool) : (D2b b).shown.length ≤ sizeLine := by cases b <;> decide +kernel
theorem d2_at {K : PySem.W.Frag} {H : Hp} {a : Addr} {b : Bool} (h : H a = some (.lst [.bl b, .bl b])) : Dq K H (.ref a) (D2b b) := .lst (SqL.of h) (.cons (.bl b) (.cons (.bl b) .nil))
/-- by keyword, one parameter -/
def g1 {α : Type} : List α → List α → List α
  | [], [t] => [t]
  | _, _ => []
/-- by keywords, two parameters, the second one first -/
def g2 {α : Type} : List α → List α → List α
  | [], [t, l] => [l, t]
  | _, _ => []
theorem g1_rel {vs : List V} {us : List Value} {zs : List V} {ws : List Value} (r : Vals vs us) (rz : Vals zs ws) : Vals (g1 vs zs) (g1 us ws) := by
  cases r with
  | cons a b => exact .nil
  | nil =>
    cases rz with
    | nil => exact .nil
    | cons a b =>
      cases b with
      | nil => exact .cons a .nil
      | cons _ _ => exact .nil
theorem g2_rel {vs : List V} {us : List Value} {zs : List V} {ws : List Value} (r : Vals vs us) (rz : Vals zs ws) : Vals (g2 vs zs) (g2 us ws) := by
  cases r with
  | cons a b => exact .nil
  | nil =>
    cases rz with
    | nil => exact .nil
    | cons a b =>
      cases b with
      | nil => exact .nil
      | cons a2 b2 =>
        cases b2 with
        | nil => exact .cons a2 (.cons a .nil)
        | cons _ _ => exact .nil
end Ami

set_option Elab.async false
set_option linter.all false
set_option maxRecDepth 100000
set_option maxHeartbeats 2000000
namespace Ami
open PySem PySem.Spec PyProof.Rows L2
theorem leaves_texts : ∀ {ss : List Str}, (∀ z ∈ ss, Asc z) → PyData.leavesShortAll 8 ((ss.map V.str).map fD) = true
  | [], _ => rfl
  | z :: ss, h => by
    show ((z.cps.toList.all fun c => decide (c < 16 ^ 8)) && PyData.leavesShortAll 8 ((ss.map V.str).map fD)) = true
    rw [Bool.and_eq_true]
    refine ⟨List.all_eq_true.mpr fun c hc => decide_eq_true (Nat.lt_of_lt_of_le (h z List.mem_cons_self c hc) (by decide)), leaves_texts fun y hy => h y (List.mem_cons_of_mem _ hy)⟩
theorem weight_texts : ∀ ss : List Str, PyData.weightAll ((ss.map V.str).map fD) = (ss.map (fun z => z.length)).sum + ss.length
  | [] => rfl
  | z :: ss => by
    show z.cps.size + 1 + PyData.weightAll ((ss.map V.str).map fD) = z.length + (ss.map (fun z => z.length)).sum + (ss.length + 1)
    rw [weight_texts ss]
    unfold Str.length
    omega
theorem okF_texts {ss : List Str} (h : ∀ z ∈ ss, Asc z) : (ss.map V.str).all okF = true := by
  rw [List.all_eq_true]
  intro v hv
  obtain ⟨z, hz, rfl⟩ := List.mem_map.mp hv
  exact (h z hz).ok
theorem noDict_texts : ∀ ss : List Str, PyData.hasDictAll ((ss.map V.str).map fD) = false
  | [] => rfl
  | z :: ss => by show (false || PyData.hasDictAll ((ss.map V.str).map fD)) = false; rw [noDict_texts ss]; rfl
theorem showable_texts : ∀ ss : List Str, PyData.showableAll ((ss.map V.str).map fD) = true
  | [] => rfl
  | z :: ss => by show (true && PyData.showableAll ((ss.map V.str).map fD)) = true; rw [showable_texts ss]; rfl
theorem shownL_texts {ss : List Str} (h : ∀ z ∈ ss, Asc z) (hl : (ss.map (fun z => z.length)).sum + ss.length ≤ 1000000) : (PyData.list ((ss.map V.str).map fD)).shown.length ≤ sizeLine := by
  have q := PyData.shown_le 8 (Nat.le_refl _) (.list ((ss.map V.str).map fD)) (leaves_texts h)
  have e : PyData.weight (.list ((ss.map V.str).map fD)) = (ss.map (fun z => z.length)).sum + ss.length := weight_texts ss
  rw [e] at q
  rw [sizeLine_eq]
  omega
theorem shownT_texts {ss : List Str} (h : ∀ z ∈ ss, Asc z) (hl : (ss.map (fun z => z.length)).sum + ss.length ≤ 1000000) : (PyData.tuple ((ss.map V.str).map fD)).shown.length ≤ sizeLine := by
  have q := PyData.shown_le 8 (Nat.le_refl _) (.tuple ((ss.map V.str).map fD)) (leaves_texts h)
  have e : PyData.weight (.tuple ((ss.map V.str).map fD)) = (ss.map (fun z => z.length)).sum + ss.length := weight_texts ss
  rw [e] at q
  rw [sizeLine_eq]
  omega
theorem ones_sum (z : Str) : ((letts z).map (fun y => y.length)).sum = z.length := by
  unfold letts
  rw [List.map_map]
  have e : (fun y : Str => y.length) ∘ one = fun _ => 1 := rfl
  rw [e, List.map_const', List.sum_replicate_nat]
  show z.cps.toList.length * 1 = z.cps.size
  rw [Array.length_toList]; omega
theorem letts_asc {z : Str} (h : Asc z) : ∀ y ∈ letts z, Asc y := by
  intro y hy
  obtain ⟨c, hc, rfl⟩ := List.mem_map.mp hy
  intro d hd
  have : d = c := by simpa [one] using hd
  rw [this]
  exact h c hc
end Ami

set_option Elab.async false
set_option linter.all false
set_option maxRecDepth 100000
set_option maxHeartbeats 2000000
namespace K80
open PySem PySem.Spec PyProof.Rows L2 Ami
def top (i : Nat) : Stmt := PySem.Challenge.pw_amidread_k80_errors.main.body.getD i (.Pass ⟨0, 0, 0, 0⟩)
abbrev sDeck : Stmt := top 16
abbrev sDraw : Stmt := top 17
abbrev sPick : Stmt := top 18
abbrev sValue : Stmt := top 19
abbrev sOne : Stmt := top 20
abbrev sHeld : Stmt := top 21
abbrev sClasses : Stmt := top 22
abbrev sAlone : Stmt := top 23
abbrev sRaised : Stmt := top 24
abbrev sLaw : Stmt := top 25
/-- the deck as a dict -/
def dkv (c : Addr) (b n : Int) : List (Key × V) := [(.inr "heap", .ref c), (.inr "mixed", .int b), (.inr "lap", .int n)]
theorem nHM : ¬ (Sum.inr (Str.ofString "heap") : Key) = .inr (Str.ofString "mixed") := by decide +kernel
theorem nHL : ¬ (Sum.inr (Str.ofString "heap") : Key) = .inr (Str.ofString "lap") := by decide +kernel
theorem nML : ¬ (Sum.inr (Str.ofString "mixed") : Key) = .inr (Str.ofString "lap") := by decide +kernel
theorem val_heap (c : Addr) (b n : Int) : valV (dkv c b n) (.inr "heap") = some (.ref c) := valV_pos rfl
theorem val_mixed (c : Addr) (b n : Int) : valV (dkv c b n) (.inr "mixed") = some (.int b) := (valV_neg nHM).trans (valV_pos rfl)
theorem val_lap (c : Addr) (b n : Int) : valV (dkv c b n) (.inr "lap") = some (.int n) := (valV_neg nHL).trans ((valV_neg nML).trans (valV_pos rfl))
theorem put_lap (c : Addr) (b n m : Int) : putK (dkv c b n) (.inr "lap") (.int m) = dkv c b m := by
  unfold putK
  rw [valV_any, val_lap, Option.isSome_some, if_pos rfl]
  simp only [dkv, List.map_cons, List.map_nil, if_neg nHL, if_neg nML, if_true]
theorem merge_deck (c : Addr) (b n : Int) : mergeK [] (dkv c b n) = dkv c b n := by
  unfold mergeK dkv
  simp only [List.foldl_cons, List.foldl_nil, putK, List.any_nil, List.any_cons, Bool.false_eq_true, if_false, List.nil_append, List.cons_append, decide_eq_false nHM, decide_eq_false nHL, decide_eq_false nML, Bool.or_false]
theorem get_heap {H : Hp} {d c : Addr} {b n : Int} (h : H d = some (.dK (dkv c b n))) : DGet H d (.str "heap") (some (.ref c)) := by
  have q := DGet.k (k := .inr "heap") h
  rw [val_heap] at q
  exact q
theorem get_mixed {H : Hp} {d c : Addr} {b n : Int} (h : H d = some (.dK (dkv c b n))) : DGet H d (.str "mixed") (some (.int b)) := by
  have q := DGet.k (k := .inr "mixed") h
  rw [val_mixed] at q
  exact q
theorem get_lap {H : Hp} {d c : Addr} {b n : Int} (h : H d = some (.dK (dkv c b n))) : DGet H d (.str "lap") (some (.int n)) := by
  have q := DGet.k (k := .inr "lap") h
  rw [val_lap] at q
  exact q
theorem set_lap {H : Hp} {d c : Addr} {b n m : Int} (h : H d = some (.dK (dkv c b n))) : DPut H d (.str "lap") (.int m) (upd H d (.dK (dkv c b m))) := by
  have q := DPut.k (k := .inr "lap") (v := .int m) h (by show 3 < sizeLine; decide)
  rw [put_lap] at q
  exact q
/-- the deck at d, its integers at c, behind n draws -/
def DD (H : Hp) (d c : Addr) (n : Nat) : Prop := c ≠ d ∧ ∃ (b : Int) (cells : List Int), H d = some (.dK (dkv c b n)) ∧ H c = some (.lst (cells.map V.int)) ∧ cells.length ≤ 63
theorem DD.same {H H' : Hp} {d c : Addr} {n : Nat} (D : DD H d c n) (s : Same H H') : DD H' d c n := by
  obtain ⟨h, b, cells, h1, h2, h3⟩ := D
  exact ⟨h, b, cells, s _ _ h1, s _ _ h2, h3⟩
theorem DD.ned {H : Hp} {d c p : Addr} {n : Nat} (D : DD H d c n) (hp : H p = none) : p ≠ d ∧ p ≠ c := by
  obtain ⟨h, b, cells, h1, h2, h3⟩ := D
  exact ⟨fun e => (by rw [e, h1] at hp; cases hp), fun e => (by rw [e, h2] at hp; cases hp)⟩
theorem DD.new {H : Hp} {d c p : Addr} {n : Nat} {o : HO} (D : DD H d c n) (hp : H p = none) : DD (upd H p o) d c n := D.same (Same.upd hp)
theorem DD.set {H : Hp} {d c p : Addr} {n : Nat} {o : HO} (D : DD H d c n) (h1 : p ≠ d) (h2 : p ≠ c) : DD (upd H p o) d c n := by
  obtain ⟨h, b, cells, e1, e2, e3⟩ := D
  exact ⟨h, b, cells, by rw [upd_ne (Ne.symm h1)]; exact e1, by rw [upd_ne (Ne.symm h2)]; exact e2, e3⟩
/-- a draw below bd -/
def spDraw : Sp := fun vs H Q _ => ∃ (d c : Addr) (n : Nat) (bd : Int), vs = [.ref d, .int bd] ∧ 0 < bd ∧ bd < 1073741824 ∧ n < 1000000 ∧ DD H d c n ∧
  ∀ (H' : Hp) (r : Int), 0 ≤ r → r < bd → DD H' d c (n + 1) → But d c H H' → Q (.int r) H'
/-- a pick from a list -/
def spPick (K : PySem.W.Frag) : Sp := fun vs H Q _ => ∃ (d c : Addr) (n : Nat) (l : Addr) (xs : List V), vs = [.ref d, .ref l] ∧ xs ≠ [] ∧ xs.length < 1073741824 ∧ n < 1000000 ∧ DD H d c n ∧ Stay d c (fun H' => SqL K H' l xs) H ∧
  ∀ (H' : Hp) (y : V), y ∈ xs → DD H' d c (n + 1) → But d c H H' → Q y H'
/-- a new deck over the script -/
def spDeck (K : PySem.W.Frag) : Sp := fun vs H Q _ => ∃ (a : Addr) (ns : List Int), vs = [.ref a] ∧ SqL K H a (ns.map V.int) ∧ ns.length ≤ 63 ∧
  ∀ (H' : Hp) (d c : Addr), H d = none → H c = none → DD H' d c 0 → Same H H' → Q (.ref d) H'
/-- the names of the built-ins that no one has taken -/
structure Blt (mg : Str → Option Value) : Prop where
  len : mg "len" = none
  int : mg "int" = none
  list : mg "list" = none
  range : mg "range" = none
  tuple : mg "tuple" = none
  isi : mg "isinstance" = none
  repr : mg "repr" = none
  eE : mg "Exception" = none
  eV : mg "ValueError" = none
  eL : mg "LookupError" = none
  eA : mg "ArithmeticError" = none
  eT : mg "TypeError" = none
  eR : mg "RuntimeError" = none
  eB : mg "AttributeError" = none
  eK : mg "KeyError" = none
section
variable {P : Program} {w : World} {K : PySem.W.Frag} {mg : Str → Option Value} {base : Heap}
theorem scDraw : FnScope ["_law_deck_here", "_law_many", "_law_lap", "_law_mixed", "_law_item"] ["_law_deck_here", "_law_many"] (defScope sDraw) := ⟨rfl, rfl, rfl, by decide +kernel, rfl, by decide +kernel, by decide +kernel⟩
theorem ok_draw {f : Addr} {fd : FuncData} (F : Fun K "_law_draw" "_law_draw" sDraw f fd) (T : Blt mg) : FnOk P w K mg base CX0 1 f fd ["_law_deck_here", "_law_many"] spDraw := by
  refine F.ok scDraw (fun vs H Q E h => ?_) (fun cdv A outer s H vs Q E hr h => ?_)
  · obtain ⟨d, c, n, bd, rfl, _⟩ := h
    rfl
  · obtain ⟨d, c, n, bd, rfl, hb0, hb1, hn, ⟨hcd, b, cells, hd, hc, hlen⟩, k⟩ := h
    have hu := hr.units
    have hu1 := hu_of hr
    refine ⟨_, pss_cons (ps_par (i := 2) (j := 3) rfl scDraw.nd rfl rfl (by decide) rfl rfl (pa_cons (pe_op op_add (pe_dget hu1 (pv 0) pe_str (fun _ _ => rfl)) pe_int) (pa_cons (pe_dget hu1 (pv 0) pe_str (fun _ _ => rfl)) pa_nil)) (by rfl))
      (pss_cons (ps_dput hu1 (pv 0) pe_str (pv 2) rfl)
      (C8.pss_cut (ps_if (pt_cmpR (op_neD hu) (pe_dget hu1 (pv 0) pe_str (fun _ _ => rfl)) (pe_lst pa_nil) (nomark _))
        (pss_cons (ps_set (i := 4) scDraw.nd rfl (Or.inl rfl) (pe_bm0 PySem.F.plainAttrs_list PySem.F.slot_list_pop PySem.F.type_list_pop mt_pop (pe_dget hu1 (pv 0) pe_str (fun _ _ => rfl))))
        (pss_cons (ps_if (pt_cmpR op_ge (pv 4) (pe_op op_pow pe_int pe_int) (nomark _))
          (pss_cons (ps_expr (pe_bm PySem.F.plainAttrs_list PySem.F.slot_list_append PySem.F.type_list_append mt_append (pe_dget hu1 (pv 0) pe_str (fun _ _ => rfl)) (pa_cons (pe_op op_fdiv (pv 4) (pv 1)) pa_nil)))
          (pss_one (ps_ret (pe_op op_mod (pe_callTy call_int1 (by rfl) T.int (by decide +kernel) (pa_cons (pv 4) pa_nil)) (pv 1)))))
          pss_nil)
        (pss_one (ps_set (i := 3) scDraw.nd rfl (Or.inl rfl) (pe_op op_add (pv 3) (pe_callTy call_int1 (by rfl) T.int (by decide +kernel) (pa_cons (pv 4) pa_nil))))))) pss_nil)
      (pss_cons (ps_set (i := 3) scDraw.nd rfl (Or.inl rfl) (pe_op op_mul (pe_callTy call_int1 (by rfl) T.int (by decide +kernel) (pa_cons (pe_op op_add (pe_op op_add (pe_op op_mod (pe_callTy call_int1 (by rfl) T.int (by decide +kernel) (pa_cons (pv 3) pa_nil)) pe_int) (pe_op op_mul (pe_op op_mul pe_int (pv 2)) (pv 2))) pe_int) pa_nil)) pe_int))
      (pss_cons (ps_set (i := 3) scDraw.nd rfl (Or.inl rfl) (pe_op op_mod (pe_callTy call_int1 (by rfl) T.int (by decide +kernel) (pa_cons (pv 3) pa_nil)) pe_int))
      (pss_cons (ps_set (i := 3) scDraw.nd rfl (Or.inl rfl) (pe_op op_mod (pe_callTy call_int1 (by rfl) T.int (by decide +kernel) (pa_cons (pe_op op_add (pe_op op_add (pe_op op_mul (pv 3) (pv 3)) (pe_op op_mul pe_int (pv 2))) pe_int) pa_nil)) pe_int))
      (pss_one (ps_ret (pe_op op_mod (pe_callTy call_int1 (by rfl) T.int (by decide +kernel) (pa_cons (pe_op op_fdiv (pe_op op_mod (pe_callTy call_int1 (by rfl) T.int (by decide +kernel) (pa_cons (pe_op op_mul (pv 3) pe_int) pa_nil)) pe_int) pe_int) pa_nil)) (pv 1))))))))), ?_⟩
    have hn1 : ((n : Int) + 1) = ((n + 1 : Nat) : Int) := by omega
    refine ⟨_, rfl, d, _, rfl, get_lap hd, _, _, rfl, rfl, _, rfl, d, _, rfl, get_mixed hd, _, _, rfl, ?_⟩
    refine ⟨_, rfl, _, rfl, d, _, rfl, set_lap hd, ?_⟩
    have hd1 : (upd H d (.dK (dkv c b ((n : Int) + 1)))) d = some (.dK (dkv c b (n + 1 : Nat))) := by rw [upd_same, ← hn1]
    have hc1 : (upd H d (.dK (dkv c b ((n : Int) + 1)))) c = some (.lst (cells.map V.int)) := by rw [upd_ne hcd]; exact hc
    have b1 : But d c H (upd H d (.dK (dkv c b ((n : Int) + 1)))) := fun x o h1 _ e => by rw [upd_ne h1]; exact e
    revert hd1 hc1 b1
    generalize upd H d (.dK (dkv c b ((n : Int) + 1))) = H1
    intro hd1 hc1 b1
    refine ⟨fun σ H3 => ∃ (m : Int) (cell : Option V), σ = [some (.ref d), some (.int bd), some (.int ((n : Int) + 1)), some (.int m), cell] ∧ DD H3 d c (n + 1) ∧ But d c H H3, ?_, ?_⟩
    · refine ⟨_, rfl, d, _, rfl, get_heap hd1, Nat.zero_le _, fun p hp => ?_⟩
      have npc : c ≠ p := ne_of_none hc1 hp
      have npd : d ≠ p := ne_of_none hd1 hp
      have hd2 : (upd H1 p (.lst [])) d = some (.dK (dkv c b (n + 1 : Nat))) := by rw [upd_ne npd]; exact hd1
      have hc2 : (upd H1 p (.lst [])) c = some (.lst (cells.map V.int)) := by rw [upd_ne npc]; exact hc1
      have hp2 : (upd H1 p (.lst [])) p = some (.lst []) := upd_same
      have b2 : But d c H (upd H1 p (.lst [])) := b1.new hp
      revert hd2 hc2 hp2 b2
      generalize upd H1 p (.lst []) = H2
      intro hd2 hc2 hp2 b2
      refine ne_nil (SqL.of hc2) (SqL.of hp2) (all_ints _) ⟨_, rfl, ?_⟩
      by_cases hce : cells = []
      · subst hce
        refine iteF ?_
        exact ⟨_, _, rfl, ⟨hcd, b, [], hd2, hc2, by decide⟩, b2⟩
      · have hne : (!(cells.map V.int).isEmpty) = true := by
          cases cells with
          | nil => exact absurd rfl hce
          | cons a r => rfl
        rw [hne]
        refine iteT ?_
        obtain ⟨z, hz⟩ : ∃ z : Int, cells[cells.length - 1]? = some z := by
          have : cells.length - 1 < cells.length := by
            cases cells with
            | nil => exact absurd rfl hce
            | cons a r => simp
          exact ⟨_, List.getElem?_eq_getElem this⟩
        have hz' : (cells.map V.int)[(cells.map V.int).length - 1]? = some (V.int z) := by
          rw [List.length_map, List.getElem?_map, hz]; rfl
        refine ⟨_, rfl, d, _, rfl, get_heap hd2, .inl ⟨rfl, _, SqL.of hc2⟩, c, _, _, rfl, rfl, hc2, hz', ?_⟩
        have hdl : (cells.map V.int).dropLast = cells.dropLast.map V.int := (List.map_dropLast ..).symm
        have hd3 : (upd H2 c (.lst (cells.map V.int).dropLast)) d = some (.dK (dkv c b (n + 1 : Nat))) := by rw [upd_ne (Ne.symm hcd)]; exact hd2
        have hc3 : (upd H2 c (.lst (cells.map V.int).dropLast)) c = some (.lst (cells.dropLast.map V.int)) := by rw [upd_same, hdl]
        have b3 : But d c H (upd H2 c (.lst (cells.map V.int).dropLast)) := fun x o h1 h2 e => by rw [upd_ne h2]; exact b2 x o h1 h2 e
        revert hd3 hc3 b3
        generalize upd H2 c (.lst (cells.map V.int).dropLast) = H3
        intro hd3 hc3 b3
        have hl3 : cells.dropLast.length ≤ 62 := by rw [List.length_dropLast]; omega
        refine ⟨_, rfl, _, _, rfl, rfl, pow18, _, _, rfl, rfl, _, rfl, ?_⟩
        refine ite2 (fun _ => ?_) (fun _ => ?_)
        · refine ⟨_, rfl, d, _, rfl, get_heap hd3, .inl ⟨rfl, _, SqL.of hc3⟩, _, rfl, _, rfl, _, _, rfl, rfl, ⟨hb0, hb1⟩, c, _, _, rfl, rfl, hc3, ?_, ?_⟩
          · rw [List.length_map]; exact Nat.lt_of_le_of_lt hl3 (by decide)
          · refine ⟨_, rfl, .inl ⟨_, rfl, _, rfl, _, _, rfl, rfl, hb0, ?_⟩⟩
            refine k _ _ (Int.emod_nonneg _ (by omega)) (Int.emod_lt_of_pos _ hb0) ⟨hcd, b, cells.dropLast ++ [z / bd], ?_, ?_, ?_⟩ fun x o h1 h2 e => ?_
            · rw [upd_ne (Ne.symm hcd)]; exact hd3
            · rw [upd_same, List.map_append]; rfl
            · rw [List.length_append, List.length_singleton]; omega
            · rw [upd_ne h2]; exact b3 x o h1 h2 e
        · refine ⟨_, rfl, _, rfl, .inl ⟨_, rfl, _, _, rfl, rfl, ?_⟩⟩
          exact ⟨_, _, rfl, ⟨hcd, b, cells.dropLast, hd3, hc3, by omega⟩, b3⟩
    · rintro σ H3 ⟨m, cell, rfl, D3, b3⟩
      have r1 := mod_range m (m := 2147483579) (by decide)
      refine ⟨_, rfl, .inl ⟨_, rfl, _, _, rfl, rfl, (by show (0 : Int) < _; decide), _, rfl, _, _, rfl, rfl, .inl (by decide), _, rfl, _, _, rfl, rfl, .inr (by omega), _, _, rfl, rfl, _, _, rfl, rfl, .inl ⟨_, rfl, _, _, rfl, rfl, .inr (by decide), ?_⟩⟩⟩
      refine ⟨_, rfl, .inl ⟨_, rfl, _, _, rfl, rfl, (by show (0 : Int) < _; decide), ?_⟩⟩
      have r2 := mod_range ((m % 2147483579 + 52711 * ((n : Int) + 1) * ((n : Int) + 1) + 17) * 48271) (m := 2147483647) (by decide)
      refine ⟨_, rfl, _, rfl, _, _, rfl, rfl, .inl (by omega), _, rfl, _, _, rfl, rfl, .inl (by decide), _, _, rfl, rfl, _, _, rfl, rfl, .inl ⟨_, rfl, _, _, rfl, rfl, (by show (0 : Int) < _; decide), ?_⟩⟩
      refine ⟨_, rfl, _, _, rfl, rfl, .inr (by decide), .inl ⟨_, rfl, _, _, rfl, rfl, (by show (0 : Int) < _; decide), _, _, rfl, rfl, ⟨by decide, by decide⟩, .inl ⟨_, rfl, _, rfl, _, _, rfl, rfl, hb0, ?_⟩⟩⟩
      exact k _ _ (Int.emod_nonneg _ (by omega)) (Int.emod_lt_of_pos _ hb0) D3 b3
end
end K80

set_option Elab.async false
set_option linter.all false
set_option maxRecDepth 100000
set_option maxHeartbeats 2000000
namespace K80
open PySem PySem.Spec PyProof.Rows L2 Ami
theorem cut_ints (ns : List Int) (lo hi : Option Int) : ∃ ms : List Int, cutV (ns.map V.int) lo hi = ms.map V.int ∧ ms.length ≤ ns.length := by
  refine ⟨(ns.drop (HT.sIx (ns.map V.int).length 0 lo)).take (HT.sIx (ns.map V.int).length (ns.map V.int).length hi - HT.sIx (ns.map V.int).length 0 lo), ?_, ?_⟩
  · unfold cutV
    rw [List.map_take, List.map_drop]
  · rw [List.length_take, List.length_drop]; omega
section
variable {P : Program} {w : World} {K : PySem.W.Frag} {mg : Str → Option Value} {base : Heap}
theorem scPick : FnScope ["_law_deck_here", "_law_some"] ["_law_deck_here", "_law_some"] (defScope sPick) := ⟨rfl, rfl, rfl, by decide +kernel, rfl, by decide +kernel, by decide +kernel⟩
theorem ok_pick {f f1 : Addr} {fd fd1 : FuncData} (F : Fun K "_law_pick" "_law_pick" sPick f fd) (T : Blt mg) (D1 : DefAt K mg "_law_draw" sDraw ["_law_deck_here", "_law_many"] f1 fd1) : FnOk P w K mg base CX0 2 f fd ["_law_deck_here", "_law_some"] (spPick K) := by
  have G1 : FnOk P w K mg base CX0 1 f1 fd1 ["_law_deck_here", "_law_many"] spDraw := ok_draw D1.F T
  refine F.ok scPick (fun vs H Q E h => ?_) (fun cdv A outer s H vs Q E hr h => ?_)
  · obtain ⟨d, c, n, l, xs, rfl, _⟩ := h
    rfl
  · obtain ⟨d, c, n, l, xs, rfl, hne, hl, hn, D, hs, k⟩ := h
    have lp : 0 < xs.length := List.length_pos_iff.mpr hne
    refine ⟨_, pss_one (ps_ret (pe_ix ix_seq (pv 1) (pc D1 G1 hr (pa_cons (pv 0) (pa_cons (pe_callB call_len (by rfl) T.len PySem.boot_len (pa_cons (pv 1) pa_nil)) pa_nil))) (fun _ _ => rfl))), ?_⟩
    refine ⟨_, rfl, _, rfl, _, rfl, _, _, rfl, .inl ⟨xs, hs.now, rfl⟩, ?_⟩
    refine ⟨d, c, n, _, rfl, by omega, by omega, hn, D, fun H' r h0 h1 D' B => ?_⟩
    obtain ⟨j, rfl⟩ : ∃ j : Nat, r = j := ⟨r.toNat, by omega⟩
    have hi : j < xs.length := by omega
    exact .inl ⟨_, xs, j, _, rfl, rfl, (hs.go B).now, atI_nat (List.getElem?_eq_getElem hi), k _ _ (List.getElem_mem hi) D' B⟩
theorem scDeck : FnScope ["_law_script", "_law_heap", "_law_mixed", "_law_item"] ["_law_script"] (defScope sDeck) := ⟨rfl, rfl, rfl, by decide +kernel, rfl, by decide +kernel, by decide +kernel⟩
theorem ok_deck {f : Addr} {fd : FuncData} (F : Fun K "_law_deck" "_law_deck" sDeck f fd) (T : Blt mg) : FnOk P w K mg base CX0 1 f fd ["_law_script"] (spDeck K) := by
  refine F.ok scDeck (fun vs H Q E h => ?_) (fun cdv A outer s H vs Q E hr h => ?_)
  · obtain ⟨a, ns, rfl, _⟩ := h
    rfl
  · obtain ⟨a, ns, rfl, hS, hlen, k⟩ := h
    refine ⟨_, pss_cons (ps_par (i := 1) (j := 2) rfl scDeck.nd rfl rfl (by decide) rfl rfl (pa_cons (pe_callTy call_list_of (by rfl) T.list (by decide +kernel) (pa_cons (pe_slice sl_list (pv 0) po_none (po_some pe_int)) pa_nil)) (pa_cons pe_int pa_nil)) (by rfl))
      (pss_cons (ps_for PassesOwn.never rfl (pi_list (pv 1)) (pg_name (i := 3) scDeck.nd rfl (Or.inl rfl))
        (pss_one (ps_set (i := 2) scDeck.nd rfl (Or.inl rfl) (pe_op op_mod (pe_callTy call_int1 (by rfl) T.int (by decide +kernel) (pa_cons (pe_op op_add (pe_op op_add (pe_op op_mul (pv 2) pe_int) (pe_op op_mod (pe_callTy call_int1 (by rfl) T.int (by decide +kernel) (pa_cons (pv 3) pa_nil)) pe_int)) pe_int) pa_nil)) pe_int))))
      (pss_one (ps_ret (pe_disp (pps_cons pe_str (pe_revL (pv 1)) (pps_cons pe_str (pv 2) (pps_cons pe_str pe_int pps_nil))) (by rfl) (by rfl) (fun z => by cases z) (by decide))))), ?_⟩
    obtain ⟨ms, em, hm⟩ := cut_ints ns none (some 60)
    refine ⟨_, rfl, _, rfl, a, _, rfl, hS, fun p hp => ⟨p, _, rfl, .inl (SqL.of upd_same), fun l hl => ⟨_, _, rfl, ?_⟩⟩⟩
    rw [em]
    have s1 : Same H (upd H p (.lst (ms.map V.int))) := Same.upd hp
    have hl' : (upd H p (.lst (ms.map V.int))) l = none := by rw [← em]; exact hl
    have s2 : Same H (upd (upd H p (.lst (ms.map V.int))) l (.lst (ms.map V.int))) := s1.trans (Same.upd hl')
    have h2 : (upd (upd H p (.lst (ms.map V.int))) l (.lst (ms.map V.int))) l = some (.lst (ms.map V.int)) := upd_same
    revert s2 h2
    generalize upd (upd H p (.lst (ms.map V.int))) l (.lst (ms.map V.int)) = H2
    intro s2 h2
    refine ⟨_, rfl, l, rfl, ⟨_, SqL.of h2⟩, for_list (K := K) (a := l) (xs := ms.map V.int) (fun i σ H' => ∃ (b : Int) (v : Option V), σ = [some (.ref a), some (.ref l), some (.int b), v] ∧ H' = H2)
      ⟨_, none, rfl, rfl⟩ (fun i σ H' _ ⟨_, _, _, e⟩ => by rw [e]; exact SqL.of h2) ?_ ?_⟩
    · rintro i y σ H' hi ⟨b, v, rfl, rfl⟩
      obtain ⟨z, rfl⟩ : ∃ z, y = V.int z := by
        rw [List.getElem?_map] at hi
        cases e : ms[i]? with
        | none => rw [e] at hi; cases hi
        | some z => rw [e] at hi; exact ⟨z, (Option.some.inj hi).symm⟩
      refine ⟨_, rfl, _, _, rfl, rfl, .inr (by decide), _, rfl, .inl ⟨_, rfl, _, _, rfl, rfl, (by show (0 : Int) < _; decide), _, _, rfl, rfl, _, _, rfl, rfl, .inl ⟨_, rfl, _, _, rfl, rfl, (by show (0 : Int) < _; decide), ?_⟩⟩⟩
      exact ⟨_, _, rfl, rfl⟩
    · rintro σ H' ⟨b, v, rfl, rfl⟩
      intro d hd
      refine ⟨_, rfl, l, _, rfl, SqL.of (Same.upd hd _ _ h2), fun c hc => ⟨_, rfl, ?_⟩⟩
      have ncd : c ≠ d := fun e => by rw [e, upd_same] at hc; cases hc
      have hc' : H' c = none := by rw [upd_ne ncd] at hc; exact hc
      refine ⟨(by rw [upd_ne (Ne.symm ncd)]; exact upd_same), dkv c b 0, rfl, (by show 3 ≤ 15; decide), ?_⟩
      rw [merge_deck]
      refine k _ d c (s2.free hd) (s2.free hc') ⟨ncd, b, ms.reverse, upd_same, ?_, ?_⟩ ?_
      · rw [upd_ne ncd, upd_same, List.map_reverse]
      · rw [List.length_reverse]; omega
      · intro x o e
        have e' := s2 x o e
        rw [upd_ne (ne_of_none e' hd), upd_ne (ne_of_none (Same.upd hd _ _ e') hc), upd_ne (ne_of_none e' hd)]
        exact e'
end
end K80

set_option Elab.async false
set_option linter.all false
set_option maxRecDepth 100000
set_option maxHeartbeats 2000000
/-! repr of data at any depth, dicts too: of a dict alone one must know that it is not the table of the modules, and a tracked one never is -/
namespace Ami
open PySem PySem.Spec PyProof.Rows L2
section
variable {X : Cx} {pins : List (Addr × Obj)} {σ : L2.St} {H : Hp} {s : Shared}
mutual
theorem Dq.shows (I : Inv X pins σ H s) : ∀ {v : V} {d : PyData} (u : Value), Dq X.K H v d → RelV v u → d.showable = true → d.shown.length ≤ sizeLine → ∃ bs, ReadAtMost s.heap d.depth bs ∧ ReprK X.prog X.w bs s.heap d.depth u d.shown
  | _, _, _, .non, r, _, _ => by cases r; exact ⟨[], (fun _ h => nomatch h), by simp only [PyData.shown]; exact .of_is ReprIs.none _ _ _⟩
  | _, _, _, .bl b, r, _, _ => by cases r; exact ⟨[], (fun _ h => nomatch h), by simp only [PyData.shown]; exact .of_is (ReprIs.bool b) _ _ _⟩
  | _, _, _, .int i, r, hs, _ => by
    obtain ⟨t, rfl⟩ := r
    exact ⟨[], (fun _ h => nomatch h), by simp only [PyData.shown]; exact .of_is (ReprIs.int t (by simpa [PyData.showable] using hs)) _ _ _⟩
  | _, _, _, .str x, r, _, hz => by
    obtain ⟨t, rfl⟩ := r
    exact ⟨[], (fun _ h => nomatch h), by simp only [PyData.shown]; exact .of_is (ReprIs.str x t (by simpa only [PyData.shown] using hz)) _ _ _⟩
  | _, _, _, @Dq.lst _ _ a xs ds hl ha, r, hs, hz => by
    cases r
    obtain ⟨its, rv, ⟨o, n, ho, hc, _, hd⟩, _⟩ := I.list hl
    have hzl : (listText (PyData.shownAll ds)).length ≤ sizeLine := by simpa only [PyData.shown] using hz
    obtain ⟨as, hr⟩ := DqAll.reads I its ha rv
    obtain ⟨bs, hb, hk⟩ := DqAll.shows I its ha rv (by simpa [PyData.showable] using hs) fun t ht => Nat.le_trans (listText_mem_le ht) hzl
    have rd : Reads s.heap (.ref a) (.list ds) _ := .list ho hc hd hr
    have deep : PyData.depthAll ds < (PyData.list ds).depth := by simp only [PyData.depth]; omega
    have out : a ∉ bs := not_mem_of_deeper rd deep hb
    refine ⟨a :: bs, ReadAtMost.cons rd (by simp only [PyData.depth]; omega) hb, ?_⟩
    simp only [PyData.depth, PyData.shown]
    cases its with
    | nil =>
      cases hr
      simp only [PyData.shownAll, listText_nil]
      exact ReprK.listEmpty ho hc hd
    | cons x l => exact ReprK.list ho hc hd out (by simpa using hk.length_eq) fun i y e => hk.item i y (by simpa using e)
  | _, _, _, @Dq.tup _ _ a xs ds hl ha, r, hs, hz => by
    cases r
    obtain ⟨its, rv, ⟨o, ho, hc, n, hd⟩, _⟩ := I.tuple hl
    have hzl : (tupleText (PyData.shownAll ds)).length ≤ sizeLine := by simpa only [PyData.shown] using hz
    obtain ⟨as, hr⟩ := DqAll.reads I its ha rv
    obtain ⟨bs, hb, hk⟩ := DqAll.shows I its ha rv (by simpa [PyData.showable] using hs) fun t ht => Nat.le_trans (tupleText_mem_le ht) hzl
    have rd : Reads s.heap (.ref a) (.tuple ds) _ := .tuple ho hc hd hr
    have deep : PyData.depthAll ds < (PyData.tuple ds).depth := by simp only [PyData.depth]; omega
    have out : a ∉ bs := not_mem_of_deeper rd deep hb
    refine ⟨a :: bs, ReadAtMost.cons rd (by simp only [PyData.depth]; omega) hb, ?_⟩
    simp only [PyData.depth, PyData.shown]
    exact ReprK.tuple ho hc hd out hk
  | _, _, _, @Dq.dct _ _ a kvs ds ha h1 h2, r, hs, hz => by
    cases r
    obtain ⟨_, sys, vs, kv, o, es, ep, ho, hx, hd, _, pr, _⟩ := dk_of I.hok ha
    obtain ⟨p1, p2⟩ := pairs_vals pr kv
    have hzl : (dictText (PyData.shownKv ds)).length ≤ sizeLine := by simpa only [PyData.shown] using hz
    obtain ⟨s1, s2⟩ := PyData.showableKv_split ds (by simpa [PyData.showable] using hs)
    obtain ⟨as, q1⟩ := DqAll.reads I _ h1 p1
    obtain ⟨cs, q2⟩ := DqAll.reads I _ h2 p2
    obtain ⟨b1, hb1, k1⟩ := DqAll.shows I _ h1 p1 s1 fun t ht => by
      obtain ⟨p, hp, hl⟩ := PyData.shownKv_key_le ds t ht
      exact Nat.le_trans hl (Nat.le_trans (dictText_mem_le hp) hzl)
    obtain ⟨b2, hb2, k2⟩ := DqAll.shows I _ h2 p2 s2 fun t ht => by
      obtain ⟨p, hp, hl⟩ := PyData.shownKv_val_le ds t ht
      exact Nat.le_trans hl (Nat.le_trans (dictText_mem_le hp) hzl)
    have rd : Reads s.heap (.ref a) (.dict ds) _ := .dict ho hx.1 hd q1 q2
    have both : ReadAtMost s.heap (PyData.depthKv ds) (b1 ++ b2) := (hb1.mono (PyData.depthAll_keys_le ds)).append (hb2.mono (PyData.depthAll_vals_le ds))
    have deep : PyData.depthKv ds < (PyData.dict ds).depth := by simp only [PyData.depth]; omega
    have out : a ∉ b1 ++ b2 := not_mem_of_deeper rd deep both
    refine ⟨a :: (b1 ++ b2), ReadAtMost.cons rd (by simp only [PyData.depth]; omega) both, ?_⟩
    simp only [PyData.depth, PyData.shown, PyData.shownKv_eq]
    refine ReprK.dict ho hx.1 hd sys out (ReprEntriesK.of_two es.toList _ _ ?_ ?_)
    · exact k1.more_le (fun b hb => List.mem_append_left _ hb) (PyData.depthAll_keys_le ds)
    · exact k2.more_le (fun b hb => List.mem_append_right _ hb) (PyData.depthAll_vals_le ds)
theorem DqAll.shows (I : Inv X pins σ H s) : ∀ {vs : List V} {ds : List PyData} (us : List Value), DqAll X.K H vs ds → Vals vs us → PyData.showableAll ds = true → (∀ t ∈ PyData.shownAll ds, t.length ≤ sizeLine) →
    ∃ bs, ReadAtMost s.heap (PyData.depthAll ds) bs ∧ ReprAllK X.prog X.w bs s.heap (PyData.depthAll ds) us (PyData.shownAll ds)
  | _, _, _, .nil, r, _, _ => by cases r; exact ⟨[], (fun _ h => nomatch h), by simp only [PyData.shownAll]; exact .nil⟩
  | _, _, _, @DqAll.cons _ _ v vs d ds h1 h2, r, hs, hz => by
    cases r with
    | cons r1 r2 =>
      have hs' : d.showable = true ∧ PyData.showableAll ds = true := by simpa [PyData.showableAll] using hs
      have z1 := hz _ (by simp only [PyData.shownAll]; exact List.mem_cons_self ..)
      obtain ⟨b1, hb1, k1⟩ := Dq.shows I _ h1 r1 hs'.1 z1
      obtain ⟨b2, hb2, k2⟩ := DqAll.shows I _ h2 r2 hs'.2 fun t ht => hz t (by simp only [PyData.shownAll]; exact List.mem_cons_of_mem _ ht)
      have l1 : d.depth ≤ PyData.depthAll (d :: ds) := by simp only [PyData.depthAll]; exact Nat.le_max_left _ _
      have l2 : PyData.depthAll ds ≤ PyData.depthAll (d :: ds) := by simp only [PyData.depthAll]; exact Nat.le_max_right _ _
      refine ⟨b1 ++ b2, (hb1.mono l1).append (hb2.mono l2), ?_⟩
      have e : PyData.shownAll (d :: ds) = d.shown :: PyData.shownAll ds := by simp only [PyData.shownAll]
      rw [e]
      exact .cons ((k1.more fun b hb => List.mem_append_left _ hb).level_le l1) (k2.more_le (fun b hb => List.mem_append_right _ hb) l2)
end
end
section
variable {X : Cx}
/-- repr(x), of data at any depth -/
def rReprA (K : PySem.W.Frag) : List V → Hp → VK → Prop := fun xs H Q => ∃ (x : V) (d : PyData), xs = [x] ∧ Dq K H x d ∧ d.showable = true ∧ d.shown.length ≤ sizeLine ∧ d.depth ≤ 50 ∧ Q (.str d.shown) H
theorem cr_reprA (hg : X.A.guards = some []) (hu : X.A.units + 64 < cLine) : CallR X (.builtin "repr") (rReprA X.K) := by
  intro pins s σ H xs us Q I r h
  obtain ⟨x, d, rfl, hd, hs, hz, hdep, q⟩ := h
  obtain ⟨u, rfl, rx⟩ := vals1 r
  have fin : ∀ (h' : Heap) (t : Tok) (tk : Nat), (∀ b o, s.heap.get? b = some o → h'.get? b = some o) → EP X pins σ Q (.str d.shown t) { s with heap := h', toks := tk } :=
    fun h' t tk k => ⟨.str d.shown, H, I.kept (t' := tk) k, ⟨t, rfl⟩, q⟩
  have same : EP X pins σ Q (.str d.shown s.toks) { s with toks := s.toks + 1 } := fin s.heap s.toks (s.toks + 1) fun _ _ e => e
  cases hd with
  | non => cases rx; exact PySem.P.repr_of_none same
  | bl b => cases rx; exact PySem.P.repr_of_bool same
  | int i =>
    obtain ⟨t, rfl⟩ := rx
    exact PySem.P.repr_of_int (of_decide_eq_true hs) same
  | str y =>
    obtain ⟨t, rfl⟩ := rx
    exact PySem.P.repr_of_str same hz
  | @lst a xs ds hl ha =>
    cases rx
    obtain ⟨its, rv, ⟨o, n, ho, hc, _, hd⟩, _⟩ := I.list hl
    have hzl : (listText (PyData.shownAll ds)).length ≤ sizeLine := by simpa only [PyData.shown] using hz
    obtain ⟨as, hr⟩ := DqAll.reads I its ha rv
    obtain ⟨bs, hb, hk⟩ := DqAll.shows I its ha rv (by simpa [PyData.showable] using hs) fun t ht => Nat.le_trans (listText_mem_le ht) hzl
    have out : a ∉ bs := not_mem_of_deeper (.list ho hc hd hr) (by simp only [PyData.depth]; omega) hb
    simp only [PyData.depth] at hdep
    simp only [PyData.shown] at fin
    refine call_repr_slot (by omega) ⟨o, ho, hc⟩ PySem.F.slot_list_repr.toG ?_
    cases its with
    | nil =>
      cases hr
      simp only [PyData.shownAll, listText_nil] at fin
      exact call_list_repr_empty ⟨o, ho, hc⟩ ho hd ⟨_, _, rfl, fin s.heap _ _ fun _ _ e => e⟩
    | cons y l =>
      exact call_list_reprK ho hc hd out (by simpa using hk.length_eq) (fun i y e => hk.item i y (by simpa using e)) hg (fun b _ => Clear.nil b) (by show X.A.units + 1 + _ < _; omega) (fun _ _ e => e) (fun h' t tk k => ⟨_, _, rfl, fin h' t tk k⟩) hzl
  | @tup a xs ds hl ha =>
    cases rx
    obtain ⟨its, rv, ⟨o, ho, hc, n, hd⟩, _⟩ := I.tuple hl
    have hzl : (tupleText (PyData.shownAll ds)).length ≤ sizeLine := by simpa only [PyData.shown] using hz
    obtain ⟨as, hr⟩ := DqAll.reads I its ha rv
    obtain ⟨bs, hb, hk⟩ := DqAll.shows I its ha rv (by simpa [PyData.showable] using hs) fun t ht => Nat.le_trans (tupleText_mem_le ht) hzl
    have out : a ∉ bs := not_mem_of_deeper (.tuple ho hc hd hr) (by simp only [PyData.depth]; omega) hb
    simp only [PyData.depth] at hdep
    simp only [PyData.shown] at fin
    refine call_repr_slot (by omega) ⟨o, ho, hc⟩ PySem.F.slot_tuple_repr ?_
    exact call_tuple_reprK ho hc hd out hk hg (fun b _ => Clear.nil b) (by show X.A.units + 1 + _ < _; omega) (fun _ _ e => e) (fun h' t tk k => ⟨_, _, rfl, fin h' t tk k⟩) hzl
  | @dct a kvs ds ha h1 h2 =>
    cases rx
    have full : Dq X.K H (.ref a) (.dict ds) := .dct ha h1 h2
    obtain ⟨_, sys, vs, kv, o, es, ep, ho, hx, hd, _, pr, _⟩ := dk_of I.hok ha
    obtain ⟨p1, p2⟩ := pairs_vals pr kv
    have hzl : (dictText (PyData.shownKv ds)).length ≤ sizeLine := by simpa only [PyData.shown] using hz
    obtain ⟨s1, s2⟩ := PyData.showableKv_split ds (by simpa [PyData.showable] using hs)
    obtain ⟨as, q1⟩ := DqAll.reads I _ h1 p1
    obtain ⟨cs, q2⟩ := DqAll.reads I _ h2 p2
    obtain ⟨b1, hb1, k1⟩ := DqAll.shows I _ h1 p1 s1 fun t ht => by
      obtain ⟨p, hp, hl⟩ := PyData.shownKv_key_le ds t ht
      exact Nat.le_trans hl (Nat.le_trans (dictText_mem_le hp) hzl)
    obtain ⟨b2, hb2, k2⟩ := DqAll.shows I _ h2 p2 s2 fun t ht => by
      obtain ⟨p, hp, hl⟩ := PyData.shownKv_val_le ds t ht
      exact Nat.le_trans hl (Nat.le_trans (dictText_mem_le hp) hzl)
    have both : ReadAtMost s.heap (PyData.depthKv ds) (b1 ++ b2) := (hb1.mono (PyData.depthAll_keys_le ds)).append (hb2.mono (PyData.depthAll_vals_le ds))
    have out : a ∉ b1 ++ b2 := not_mem_of_deeper (.dict ho hx.1 hd q1 q2) (by simp only [PyData.depth]; omega) both
    simp only [PyData.depth] at hdep
    simp only [PyData.shown, PyData.shownKv_eq] at fin
    refine call_repr_slot (by omega) ⟨o, ho, hx.1⟩ PySem.F.slot_dict_repr ?_
    have e1 := k1.more_le (fun b hb => List.mem_append_left b2 hb) (PyData.depthAll_keys_le ds)
    have e2 := k2.more_le (fun b hb => List.mem_append_right b1 hb) (PyData.depthAll_vals_le ds)
    exact call_dict_reprK ho hx.1 hd sys out (ReprEntriesK.of_two es.toList _ _ e1 e2) hg (fun b _ => Clear.nil b) (by show X.A.units + 1 + _ < _; omega) (fun _ _ e => e) (fun h' t tk k => ⟨_, _, rfl, fin h' t tk k⟩) (by rw [← PyData.shownKv_eq]; exact hzl)
end
end Ami

set_option Elab.async false
set_option linter.all false
set_option maxRecDepth 100000
set_option maxHeartbeats 4000000
namespace K80
open PySem PySem.Spec PyProof.Rows L2 Ami
/-- a value of any kind, so deep -/
def Dat (K : PySem.W.Frag) (H : Hp) (y : V) (m : Nat) : Prop := ∃ dt : PyData, Dq K H y dt ∧ dt.showable = true ∧ dt.leavesShort 64 = true ∧ dt.bulk + 8 ≤ 13 * 2 ^ m ∧ dt.depth ≤ 2 * m + 1
theorem Dat.mono {K : PySem.W.Frag} {H : Hp} {y : V} {m n : Nat} (h : Dat K H y m) (l : m ≤ n) : Dat K H y n := by
  obtain ⟨dt, h1, h2, h3, h4, h5⟩ := h
  exact ⟨dt, h1, h2, h3, Nat.le_trans h4 (Nat.mul_le_mul_left _ (Nat.pow_le_pow_right (by decide) l)), by omega⟩
theorem Dat.shown {dt : PyData} (h3 : dt.leavesShort 64 = true) (h4 : dt.bulk + 8 ≤ 13 * 2 ^ 3) : dt.shown.length ≤ sizeLine := by
  have q := PyData.shown_le_bulk 64 (by decide) dt h3
  have : dt.bulk ≤ 96 := by omega
  rw [sizeLine_eq]
  omega
theorem dat_all {K : PySem.W.Frag} {H : Hp} {m : Nat} : ∀ {ys : List V}, (∀ y ∈ ys, Dat K H y m) →
    ∃ ds : List PyData, DqAll K H ys ds ∧ PyData.showableAll ds = true ∧ PyData.leavesShortAll 64 ds = true ∧ PyData.bulkAll ds + 7 * ys.length ≤ ys.length * (13 * 2 ^ m) ∧ PyData.depthAll ds ≤ 2 * m + 1
  | [], _ => ⟨[], .nil, rfl, rfl, (by show 0 + 7 * 0 ≤ 0 * _; omega), Nat.zero_le _⟩
  | y :: ys, h => by
    obtain ⟨ds, a1, a2, a3, a4, a5⟩ := dat_all (ys := ys) fun z hz => h z (List.mem_cons_of_mem _ hz)
    obtain ⟨dt, b1, b2, b3, b4, b5⟩ := h y List.mem_cons_self
    refine ⟨dt :: ds, .cons b1 a1, ?_, ?_, ?_, ?_⟩
    · show (dt.showable && PyData.showableAll ds) = true
      rw [b2, a2]; rfl
    · show (dt.leavesShort 64 && PyData.leavesShortAll 64 ds) = true
      rw [b3, a3]; rfl
    · show dt.bulk + 1 + PyData.bulkAll ds + 7 * (ys.length + 1) ≤ (ys.length + 1) * (13 * 2 ^ m)
      rw [Nat.add_mul]
      omega
    · show max dt.depth (PyData.depthAll ds) ≤ 2 * m + 1
      omega
/-- what stands on new objects alone -/
def FS (K : PySem.W.Frag) (H H' : Hp) (y : V) (m : Nat) : Prop := ∀ H'' : Hp, (∀ b o, H b = none → H' b = some o → H'' b = some o) → Dat K H'' y m
/-- nothing is forgotten -/
def Dom (H H' : Hp) : Prop := ∀ b, H' b = none → H b = none
theorem dom_of {d c : Addr} {n : Nat} {H H' : Hp} (B : But d c H H') (D : DD H' d c n) : Dom H H' := fun b e => by
  obtain ⟨_, _, _, e1, e2, _⟩ := D
  cases q : H b with
  | none => rfl
  | some o =>
    by_cases h1 : b = d
    · rw [h1, e1] at e; cases e
    · by_cases h2 : b = c
      · rw [h2, e2] at e; cases e
      · rw [B b o h1 h2 q] at e; cases e
/-- a value drawn -/
def spValue (K : PySem.W.Frag) (n : Nat) : Sp := fun vs H Q _ => ∃ (d c : Addr) (k m : Nat), vs = [.ref d, .int (m : Int)] ∧ m ≤ n ∧ k + 2 ^ (m + 2) < 1000000 ∧ DD H d c k ∧
  ∀ (H' : Hp) (y : V) (k' : Nat), k' + 2 ≤ k + 2 ^ (m + 2) → DD H' d c k' → But d c H H' → FS K H H' y m → Q y H'
theorem dat0 {K : PySem.W.Frag} {H : Hp} {y : V} {dt : PyData} (h : Dq K H y dt) (k : (dt.showable && dt.leavesShort 64 && decide (dt.bulk ≤ 5) && decide (dt.depth ≤ 1)) = true) : Dat K H y 0 := by
  simp only [Bool.and_eq_true, decide_eq_true_eq] at k
  obtain ⟨⟨⟨k1, k2⟩, k3⟩, k4⟩ := k
  exact ⟨dt, h, k1, k2, by show dt.bulk + 8 ≤ 13 * 1; omega, by omega⟩
/-- the eleven plain values -/
def plain (t0 : Addr) : List V := [.non, .bl true, .bl false, .int 0, .int (-1), .int (10 ^ 39), .str "", .str "order", .str "a b", .ref t0, .int 1]
theorem plain_dat {K : PySem.W.Frag} {H : Hp} {t0 : Addr} (h : H t0 = some (.tup [])) : ∀ y ∈ plain t0, Dat K H y 0 := by
  intro y hy
  simp only [plain, List.mem_cons, List.not_mem_nil, or_false] at hy
  rcases hy with rfl | rfl | rfl | rfl | rfl | rfl | rfl | rfl | rfl | rfl | rfl
  · exact dat0 .non (by decide +kernel)
  · exact dat0 (.bl _) (by decide +kernel)
  · exact dat0 (.bl _) (by decide +kernel)
  · exact dat0 (.int _) (by decide +kernel)
  · exact dat0 (.int _) (by decide +kernel)
  · exact dat0 (.int _) (by decide +kernel)
  · exact dat0 (.str _) (by decide +kernel)
  · exact dat0 (.str _) (by decide +kernel)
  · exact dat0 (.str _) (by decide +kernel)
  · exact dat0 (.tup (SqT.of h) .nil) (by decide +kernel)
  · exact dat0 (.int _) (by decide +kernel)
/-- what is put together of at most two values -/
theorem dat_up {K : PySem.W.Frag} {H : Hp} {m : Nat} {ys : List V} {L t p t2 : Addr} (hl : ys.length ≤ 2) (h : ∀ y ∈ ys, Dat K H y m) (eL : H L = some (.lst ys)) (et : H t = some (.tup ys)) (ep : H p = some (.dK [(.inr "part", .ref L)])) (e2 : H t2 = some (.tup [.ref L, .str "x"])) :
    Dat K H (.ref L) (m + 1) ∧ Dat K H (.ref t) (m + 1) ∧ Dat K H (.ref p) (m + 1) ∧ Dat K H (.ref t2) (m + 1) := by
  obtain ⟨ds, a1, a2, a3, a4, a5⟩ := dat_all h
  have p1 : 1 ≤ 2 ^ m := Nat.one_le_two_pow
  have p2 : 2 ^ (m + 1) = 2 * 2 ^ m := by rw [Nat.pow_succ]; omega
  have b : PyData.bulkAll ds + 14 ≤ 26 * 2 ^ m := by
    have : ys.length = 0 ∨ ys.length = 1 ∨ ys.length = 2 := by omega
    rcases this with e | e | e
    · rw [e] at a4; omega
    · rw [e] at a4; omega
    · rw [e] at a4; omega
  have kLs : (PyData.list ds).showable = true := a2
  have kLl : (PyData.list ds).leavesShort 64 = true := a3
  have kLb : (PyData.list ds).bulk = PyData.bulkAll ds := rfl
  have kLd : (PyData.list ds).depth = PyData.depthAll ds + 1 := rfl
  have qL : Dq K H (.ref L) (.list ds) := .lst (SqL.of eL) a1
  refine ⟨⟨_, qL, kLs, kLl, by rw [kLb, p2]; omega, by rw [kLd]; omega⟩, ⟨.tuple ds, .tup (SqT.of et) a1, a2, a3, ?_, ?_⟩, ⟨.dict [(.str "part", .list ds)], .dct ep (.cons (.str _) .nil) (.cons qL .nil), ?_, ?_, ?_, ?_⟩, ⟨.tuple [.list ds, .str "x"], .tup (SqT.of e2) (.cons qL (.cons (.str _) .nil)), ?_, ?_, ?_, ?_⟩⟩
  · show PyData.bulkAll ds + 8 ≤ 13 * 2 ^ (m + 1)
    rw [p2]; omega
  · show PyData.depthAll ds + 1 ≤ 2 * (m + 1) + 1
    omega
  · show (true && (PyData.list ds).showable && true) = true
    rw [kLs]; rfl
  · show ((PyData.str "part").leavesShort 64 && (PyData.list ds).leavesShort 64 && true) = true
    rw [kLl]; decide +kernel
  · have e : (PyData.str "part").bulk = 4 := by decide +kernel
    show (PyData.str "part").bulk + (PyData.list ds).bulk + 2 + 0 + 8 ≤ 13 * 2 ^ (m + 1)
    rw [e, kLb, p2]; omega
  · show max (max 0 (PyData.list ds).depth) 0 + 1 ≤ 2 * (m + 1) + 1
    rw [kLd]; omega
  · show ((PyData.list ds).showable && (true && true)) = true
    rw [kLs]; rfl
  · show ((PyData.list ds).leavesShort 64 && ((PyData.str "x").leavesShort 64 && true)) = true
    rw [kLl]; decide +kernel
  · have e : (PyData.str "x").bulk = 1 := by decide +kernel
    show (PyData.list ds).bulk + 1 + ((PyData.str "x").bulk + 1 + 0) + 8 ≤ 13 * 2 ^ (m + 1)
    rw [e, kLb, p2]; omega
  · show max (PyData.list ds).depth (max 0 0) + 1 ≤ 2 * (m + 1) + 1
    rw [kLd]; omega
section
variable {P : Program} {w : World} {K : PySem.W.Frag} {mg : Str → Option Value} {base : Heap}
theorem scValue : FnScope ["_law_deck_here", "_law_deep", "_law_way", "_law_some", "_law_k"] ["_law_deck_here", "_law_deep"] (defScope sValue) := ⟨rfl, rfl, rfl, by decide +kernel, rfl, by decide +kernel, by decide +kernel⟩
theorem ok_value_step {n k : Nat} {spP : Sp} {f f1 f2 : Addr} {fd fd1 fd2 : FuncData} (D3 : DefAt K mg "_law_value" sValue ["_law_deck_here", "_law_deep"] f fd) (T : Blt mg) (D1 : DefAt K mg "_law_draw" sDraw ["_law_deck_here", "_law_many"] f1 fd1) (D2 : DefAt K mg "_law_pick" sPick ["_law_deck_here", "_law_some"] f2 fd2)
    (hk : 2 ≤ k) (G3 : FnOk P w K mg base CX0 k f fd ["_law_deck_here", "_law_deep"] spP)
    (hP : ∀ (m : Nat) (d c : Addr) (k0 : Nat) (H : Hp) (Q : VK), m + 1 ≤ n → k0 + 2 ^ (m + 2) < 1000000 → DD H d c k0 → (∀ (H' : Hp) (y : V) (k' : Nat), k' + 2 ≤ k0 + 2 ^ (m + 2) → DD H' d c k' → But d c H H' → FS K H H' y m → Q y H') → spP [.ref d, .int (m : Int)] H Q E0) :
    FnOk P w K mg base CX0 (k + 1) f fd ["_law_deck_here", "_law_deep"] (spValue K n) := by
  have G1 : FnOk P w K mg base CX0 1 f1 fd1 ["_law_deck_here", "_law_many"] spDraw := ok_draw D1.F T
  have G2 : FnOk P w K mg base CX0 2 f2 fd2 ["_law_deck_here", "_law_some"] (spPick K) := ok_pick D2.F T D1
  refine D3.F.ok scValue (fun vs H Q E h => ?_) (fun cdv A outer s H vs Q E hr h => ?_)
  · obtain ⟨d, c, k0, m, rfl, _⟩ := h
    rfl
  · obtain ⟨d, c, k0, m, rfl, hm, hk0, D, kk⟩ := h
    have hr1 := hr.mono (j := 1) (by omega)
    have hr2 := hr.mono (j := 2) hk
    refine ⟨_, pss_cons (ps_set (i := 2) scValue.nd rfl (Or.inl rfl) (pc D1 G1 hr1 (pa_cons (pv 0) (pa_cons pe_int pa_nil))))
      (pss_cons (ps_if (PW.pt (pw_or (pt_cmpR op_lt (pv 2) pe_int (nomark _)) (pw_or1 (pt_cmpR op_eq (pv 1) pe_int (nomark _)))))
        (pss_one (ps_ret (pc D2 G2 hr2 (pa_cons (pv 0) (pa_cons (pe_lst (pa_cons pe_non (pa_cons pe_bl (pa_cons pe_bl (pa_cons pe_int (pa_cons (pe_un un_neg pe_int) (pa_cons (pe_op op_pow pe_int pe_int) (pa_cons pe_str (pa_cons pe_str (pa_cons pe_str (pa_cons (pe_tup pa_nil) (pa_cons pe_int pa_nil)))))))))))) pa_nil))))) pss_nil)
      (pss_cons (ps_setLc (i := 3) (own := [("_law_k", 4)]) (g := gName 4) (tt := tYes) rfl scValue.nd rfl rfl (by rfl) (pi_range1 (by rfl) T.range (pa_cons (pc D1 G1 hr1 (pa_cons (pv 0) (pa_cons pe_int pa_nil))) pa_nil))
          (blkOk_by (own := [("_law_k", 4)]) (N := ["_law_deck_here", "_law_deep", "_law_way", "_law_some", "_law_k"]) (sc := defScope sValue) (by decide +kernel))
          (fun _ _ _ _ _ => pg_name (i := 4) scValue.nd rfl (Or.inl rfl)) (fun _ _ _ _ _ => pts_nil) (fun _ _ _ _ _ => pc D3 G3 hr (pa_cons (pv 0) (pa_cons (pe_op op_sub (pv 1) pe_int) pa_nil))))
      (pss_one (ps_ret (pe_ix ix_seq (pe_lst (pa_cons (pv 3) (pa_cons (pe_callTy call_tuple_of (by rfl) T.tuple (by decide +kernel) (pa_cons (pv 3) pa_nil))
        (pa_cons (pe_disp (pps_cons pe_str (pv 3) pps_nil) (by rfl) (by rfl) (fun z => by cases z) (by decide)) (pa_cons (pe_tup (pa_cons (pv 3) (pa_cons pe_str pa_nil))) pa_nil))))) (pe_op op_sub (pv 2) pe_int) (fun _ _ => rfl)))))), ?_⟩
    have p4 : 2 ^ 2 ≤ 2 ^ (m + 2) := Nat.pow_le_pow_right (by decide) (by omega)
    refine ⟨_, rfl, d, c, k0, 10, rfl, by decide, by decide, by omega, D, fun H1 r h0 h1 D1' B1 => ?_⟩
    have dm1 := dom_of B1 D1'
    refine ⟨_, rfl, _, _, rfl, rfl, _, rfl, ?_⟩
    refine ite2 (fun _ => iteT ?_) (fun a => ⟨_, rfl, rfl, _, rfl, ite2 (fun _ => ?_) (fun b => ?_)⟩)
    · refine ⟨_, rfl, _, rfl, _, _, rfl, rfl, pow39, Nat.zero_le _, fun t0 ht0 => ⟨(by show 11 ≤ sizeLine; decide), fun l hl => ?_⟩⟩
      obtain ⟨q1, q2⟩ := (D1'.new ht0).ned hl
      obtain ⟨q3, q4⟩ := D1'.ned ht0
      refine ⟨d, c, _, l, plain t0, rfl, List.cons_ne_nil _ _, (by show 11 < 1073741824; decide), by omega, (D1'.new ht0).new hl, fun H2 B => SqL.of (B l _ q1 q2 upd_same), fun H2 y hy D2' B2 => ?_⟩
      refine kk H2 y _ (by omega) D2' (((B1.new ht0).new hl).trans B2) fun H'' keep => ?_
      exact (plain_dat (keep t0 _ (dm1 t0 ht0) (B2 t0 _ q3 q4 (Same.upd hl _ _ upd_same))) y hy).mono (Nat.zero_le _)
    · refine ⟨_, rfl, _, rfl, _, _, rfl, rfl, pow39, Nat.zero_le _, fun t0 ht0 => ⟨(by show 11 ≤ sizeLine; decide), fun l hl => ?_⟩⟩
      obtain ⟨q1, q2⟩ := (D1'.new ht0).ned hl
      obtain ⟨q3, q4⟩ := D1'.ned ht0
      refine ⟨d, c, _, l, plain t0, rfl, List.cons_ne_nil _ _, (by show 11 < 1073741824; decide), by omega, (D1'.new ht0).new hl, fun H2 B => SqL.of (B l _ q1 q2 upd_same), fun H2 y hy D2' B2 => ?_⟩
      refine kk H2 y _ (by omega) D2' (((B1.new ht0).new hl).trans B2) fun H'' keep => ?_
      exact (plain_dat (keep t0 _ (dm1 t0 ht0) (B2 t0 _ q3 q4 (Same.upd hl _ _ upd_same))) y hy).mono (Nat.zero_le _)
    · have hr6 : 6 ≤ r := by
        have a' : ¬ r < 6 := by simpa using a
        omega
      obtain ⟨m', rfl⟩ : ∃ m', m = m' + 1 := by
        have b' : ¬ (V.int (m : Int) = V.int 0) := by simpa using b
        have : m ≠ 0 := fun e => b' (by rw [e]; rfl)
        exact ⟨m - 1, by omega⟩
      have p5 : 2 ^ (m' + 1 + 2) = 2 * 2 ^ (m' + 2) := by rw [show m' + 1 + 2 = (m' + 2) + 1 from by omega, Nat.pow_succ]; omega
      have p6 : 2 ^ 2 ≤ 2 ^ (m' + 2) := Nat.pow_le_pow_right (by decide) (by omega)
      refine ⟨_, rfl, d, c, _, 3, rfl, by decide, by decide, by omega, D1', fun H2 q g0 g1 D2' B2 => ⟨_, rfl, by omega, by omega, fun L hL => ?_⟩⟩
      have dm2 : Dom H H2 := dom_of (B1.trans B2) D2'
      obtain ⟨j, rfl⟩ : ∃ j : Nat, q = j := ⟨q.toNat, by omega⟩
      have ej : ((j : Int)).toNat = j := by omega
      rw [ej]
      have hj : j ≤ 2 := by omega
      obtain ⟨nLd, nLc⟩ := D2'.ned hL
      refine lc_range (lo := 0) (n := j) (fun i H' => ∃ (ys : List V) (k1 : Nat), H' L = some (.lst ys) ∧ ys.length = i ∧ k1 + 2 * i ≤ k0 + 2 + i * 2 ^ (m' + 2) ∧ DD H' d c k1 ∧ But d c H H' ∧ Dom (upd H2 L (.lst [])) H' ∧ ∀ y ∈ ys, FS K (upd H2 L (.lst [])) H' y m')
        ⟨[], k0 + 2, upd_same, rfl, by omega, D2'.new hL, (B1.trans B2).new hL, fun _ e => e, fun y hy => nomatch hy⟩ ?_ ?_
      · rintro i H3 hi ⟨ys, k1, e1, e2, e3, D3', B3, dm, fs⟩
        refine ⟨rfl, ?_⟩
        dsimp only [tYes]
        refine iteT ?_
        refine ⟨_, rfl, _, rfl, _, _, rfl, rfl, ?_⟩
        have em : ((m' + 1 : Nat) : Int) - 1 = (m' : Int) := by omega
        have hi1 : i = 0 ∨ i = 1 := by omega
        have hk1 : k1 + 2 ^ (m' + 2) ≤ k0 + 2 ^ (m' + 1 + 2) := by rcases hi1 with rfl | rfl <;> omega
        show spP [.ref d, .int (((m' + 1 : Nat) : Int) - 1)] H3 _ E0
        rw [em]
        refine hP m' d c k1 H3 _ (by omega) (by omega) D3' fun H4 y k2 hk2 D4 B4 f4 => ?_
        have dm4 := dom_of B4 D4
        have stay : ∀ (b : Addr) (o : HO), upd H2 L (.lst []) b = none → H4 b = some o → upd H4 L (.lst (ys ++ [y])) b = some o := fun b o n e => by
          have nb : b ≠ L := fun z => by rw [z, upd_same] at n; cases n
          rw [upd_ne nb]; exact e
        have old : ∀ (b : Addr) (o : HO), upd H2 L (.lst []) b = none → H3 b = some o → H4 b = some o := fun b o n e => by
          have n2 : H2 b = none := by
            have nb : b ≠ L := fun z => by rw [z, upd_same] at n; cases n
            rw [upd_ne nb] at n; exact n
          obtain ⟨_, _, _, z1, z2, _⟩ := D2'
          exact B4 b o (fun z => by rw [z, z1] at n2; cases n2) (fun z => by rw [z, z2] at n2; cases n2) e
        refine ⟨_, B4 L _ nLd nLc e1, Nat.lt_of_le_of_lt (by rw [e2]; omega : ys.length ≤ 2) (by decide), ys ++ [y], k2, upd_same, by rw [List.length_append, e2]; rfl, ?_, D4.set nLd nLc, ?_, ?_, ?_⟩
        · have : (i + 1) * 2 ^ (m' + 2) = i * 2 ^ (m' + 2) + 2 ^ (m' + 2) := by rw [Nat.add_mul]; omega
          omega
        · intro b o h1 h2 e
          have nb : b ≠ L := fun z => by
            have := dm2 L hL
            rw [z, this] at e; cases e
          rw [upd_ne nb]
          exact (B3.trans B4) b o h1 h2 e
        · intro b e
          by_cases nb : b = L
          · rw [nb, upd_same] at e; cases e
          · rw [upd_ne nb] at e
            exact dm b (dm4 b e)
        · intro z hz H'' keep
          rcases List.mem_append.mp hz with h | h
          · exact fs z h H'' fun b o n e => keep b o n (stay b o n (old b o n e))
          · rw [List.mem_singleton.mp h]
            exact f4 H'' fun b o n e => keep b o (dm b n) (stay b o (dm b n) e)
      · rintro H3 ⟨ys, k1, e1, e2, e3, D3', B3, dm, fs⟩
        refine ⟨_, rfl, _, rfl, L, _, rfl, .inl ⟨SqL.of e1, fun t ht => ?_⟩⟩
        intro p hp
        refine ⟨_, rfl, upd_same, [(.inr "part", .ref L)], rfl, (by show 1 ≤ 15; decide), ?_⟩
        rw [upd_upd]
        refine ⟨_, rfl, (by show 2 ≤ sizeLine; decide), fun t2 ht2 => ⟨(by show 4 ≤ sizeLine; decide), fun l hl => ?_⟩⟩
        have gL := Same.upd (o := .lst [.ref L, .ref t, .ref p, .ref t2]) hl _ _ (Same.upd ht2 _ _ (Same.upd hp _ _ (Same.upd ht _ _ e1)))
        have gt := Same.upd (o := .lst [.ref L, .ref t, .ref p, .ref t2]) hl _ _ (Same.upd ht2 _ _ (Same.upd hp _ _ (upd_same (H := H3) (a := t) (o := .tup ys))))
        have gp := Same.upd (o := .lst [.ref L, .ref t, .ref p, .ref t2]) hl _ _ (Same.upd ht2 _ _ (upd_same (H := upd H3 t (.tup ys)) (a := p) (o := .dK (mergeK [] [(.inr "part", .ref L)]))))
        have g2 := Same.upd (o := .lst [.ref L, .ref t, .ref p, .ref t2]) hl _ _ (upd_same (a := t2) (o := .tup [.ref L, .str "x"]) (H := upd (upd H3 t (.tup ys)) p (.dK (mergeK [] [(.inr "part", .ref L)]))))
        have sm : Same H3 _ := (Same.upd ht).trans ((Same.upd hp).trans ((Same.upd ht2).trans (Same.upd (o := .lst [.ref L, .ref t, .ref p, .ref t2]) hl)))
        have hx : (upd (upd (upd (upd H3 t (.tup ys)) p (.dK (mergeK [] [(.inr "part", .ref L)]))) t2 (.tup [.ref L, .str "x"])) l (.lst [.ref L, .ref t, .ref p, .ref t2])) l = some (.lst [.ref L, .ref t, .ref p, .ref t2]) := upd_same
        have domL : Dom H (upd H2 L (.lst [])) := fun b e => by
          by_cases nb : b = L
          · rw [nb, upd_same] at e; cases e
          · rw [upd_ne nb] at e; exact dm2 b e
        have n3 : ∀ {b : Addr}, H3 b = none → H b = none := fun e => domL _ (dm _ e)
        have nt : H t = none := n3 ht
        have np : H p = none := n3 ((Same.upd ht).free hp)
        have n2 : H t2 = none := n3 (((Same.upd ht).trans (Same.upd hp)).free ht2)
        have four : ∀ H'' : Hp, (∀ b o, H b = none → (upd (upd (upd (upd H3 t (.tup ys)) p (.dK (mergeK [] [(.inr "part", .ref L)]))) t2 (.tup [.ref L, .str "x"])) l (.lst [.ref L, .ref t, .ref p, .ref t2])) b = some o → H'' b = some o) →
            Dat K H'' (.ref L) (m' + 1) ∧ Dat K H'' (.ref t) (m' + 1) ∧ Dat K H'' (.ref p) (m' + 1) ∧ Dat K H'' (.ref t2) (m' + 1) := fun H'' keep =>
          dat_up (by rw [e2]; omega) (fun y hy => fs y hy H'' fun b o n e => keep b o (domL b n) (sm b o e)) (keep L _ (dm2 L hL) gL) (keep t _ nt gt) (keep p _ np gp) (keep t2 _ n2 g2)
        have D4 := (((D3'.new ht).new hp).new ht2).new (o := .lst [.ref L, .ref t, .ref p, .ref t2]) hl
        have B4 := (((B3.new ht).new hp).new ht2).new (o := .lst [.ref L, .ref t, .ref p, .ref t2]) hl
        have hk1 : k1 + 2 ≤ k0 + 2 ^ (m' + 1 + 2) := by
          have : j = 0 ∨ j = 1 ∨ j = 2 := by omega
          rcases this with rfl | rfl | rfl <;> omega
        refine ⟨_, rfl, _, _, rfl, rfl, ?_⟩
        have hr4 : r = 6 ∨ r = 7 ∨ r = 8 ∨ r = 9 := by omega
        rcases hr4 with rfl | rfl | rfl | rfl
        · exact .inl ⟨l, _, 0, _, rfl, rfl, SqL.of hx, rfl, kk _ _ _ hk1 D4 B4 fun H'' keep => (four H'' keep).1⟩
        · exact .inl ⟨l, _, 1, _, rfl, rfl, SqL.of hx, rfl, kk _ _ _ hk1 D4 B4 fun H'' keep => (four H'' keep).2.1⟩
        · exact .inl ⟨l, _, 2, _, rfl, rfl, SqL.of hx, rfl, kk _ _ _ hk1 D4 B4 fun H'' keep => (four H'' keep).2.2.1⟩
        · exact .inl ⟨l, _, 3, _, rfl, rfl, SqL.of hx, rfl, kk _ _ _ hk1 D4 B4 fun H'' keep => (four H'' keep).2.2.2⟩
/-- the value, whatever is asked of its depth -/
theorem ok_value {f f1 f2 : Addr} {fd fd1 fd2 : FuncData} (D3 : DefAt K mg "_law_value" sValue ["_law_deck_here", "_law_deep"] f fd) (T : Blt mg) (D1 : DefAt K mg "_law_draw" sDraw ["_law_deck_here", "_law_many"] f1 fd1) (D2 : DefAt K mg "_law_pick" sPick ["_law_deck_here", "_law_some"] f2 fd2) :
    ∀ n : Nat, FnOk P w K mg base CX0 (n + 3) f fd ["_law_deck_here", "_law_deep"] (spValue K n)
  | 0 => ok_value_step (k := 2) (spP := fun _ _ _ _ => False) D3 T D1 D2 (by decide) ⟨fun _ _ _ _ h => h.elim, fun _ _ _ _ _ _ _ _ _ _ _ _ _ h => h.elim⟩ fun m d c k0 H Q h => by omega
  | n + 1 => ok_value_step (k := n + 3) (spP := spValue K n) D3 T D1 D2 (by omega) (ok_value D3 T D1 D2 n) fun m d c k0 H Q h hk D kk => ⟨d, c, k0, m, rfl, by omega, hk, D, kk⟩
end
end K80

set_option Elab.async false
set_option linter.all false
set_option maxRecDepth 100000
set_option maxHeartbeats 4000000
namespace K80
open PySem PySem.Spec PyProof.Rows L2 Ami
/-! the errors' own making -/
def spInit1 (K : PySem.W.Frag) (x : Str) : Sp := fun vs H Q _ => ∃ (a C : Addr) (v : V), vs = [.ref a, v] ∧ EX K C ∧ PySem.W.findIn K (.ref C) x = some none ∧ H a = some (exo a C none) ∧ ∀ dx, H dx = none → dx ≠ a → Q .non (upd (upd H dx (exd dx [(x, v)])) a (exo a C (some dx)))
def spInit2 (K : PySem.W.Frag) (x y : Str) : Sp := fun vs H Q _ => ∃ (a C : Addr) (v z : V), vs = [.ref a, v, z] ∧ EX K C ∧ PySem.W.findIn K (.ref C) x = some none ∧ PySem.W.findIn K (.ref C) y = some none ∧ H a = some (exo a C none) ∧
  ∀ dx, H dx = none → dx ≠ a → Q .non (upd (upd (upd H dx (exd dx [(x, v)])) a (exo a C (some dx))) dx (exd dx [(y, z), (x, v)]))
def spInit0 : Sp := fun vs H Q _ => ∃ a : Addr, vs = [.ref a] ∧ Q .non H
/-- the arguments in their order, by position; by keywords -/
def gP {α : Type} : List α → List α → List α := fun us _ => us
def gK1 {α : Type} : List α → List α → List α
  | [s], [t] => [s, t]
  | _, _ => []
def gK2 {α : Type} : List α → List α → List α
  | [s], [u, t] => [s, t, u]
  | _, _ => []
theorem gK1_rel {vs : List V} {us : List Value} {zs : List V} {ws : List Value} (r : Vals vs us) (rz : Vals zs ws) : Vals (gK1 vs zs) (gK1 us ws) := by
  cases r with
  | nil => exact .nil
  | cons a b =>
    cases b with
    | cons _ _ => exact .nil
    | nil =>
      cases rz with
      | nil => exact .nil
      | cons c e =>
        cases e with
        | nil => exact .cons a (.cons c .nil)
        | cons _ _ => exact .nil
theorem gK2_rel {vs : List V} {us : List Value} {zs : List V} {ws : List Value} (r : Vals vs us) (rz : Vals zs ws) : Vals (gK2 vs zs) (gK2 us ws) := by
  cases r with
  | nil => exact .nil
  | cons a b =>
    cases b with
    | cons _ _ => exact .nil
    | nil =>
      cases rz with
      | nil => exact .nil
      | cons c e =>
        cases e with
        | nil => exact .nil
        | cons c2 e2 =>
          cases e2 with
          | nil => exact .cons a (.cons c2 (.cons c .nil))
          | cons _ _ => exact .nil
/-- a class of errors as it stands at C, its __init__ at fI -/
structure Cl (K : PySem.W.Frag) (mg : Str → Option Value) (x qual : Str) (st : Stmt) (C fI : Addr) (fd : FuncData) : Prop where
  g : mg x = some (.ref C)
  T : EX K C
  iC : PySem.W.findIn K (.ref C) "__init__" = some (some (.ref fI))
  tI : PySem.W.typeIn K (.ref fI) = some (.type "function")
  F : Fun K "__init__" qual st fI fd
section
variable {P : Program} {w : World} {K : PySem.W.Frag} {mg : Str → Option Value} {base : Heap}
abbrev iBadFormat : Stmt := inClass (top 2) 0
theorem scBadFormat : FnScope ["self", "part"] ["self", "part"] (defScope iBadFormat) := ⟨rfl, rfl, rfl, by decide +kernel, rfl, by decide +kernel, by decide +kernel⟩
theorem ok_BadFormat {f : Addr} {fd : FuncData} (F : Fun K "__init__" "BadFormat.__init__" iBadFormat f fd) : FnOk P w K mg base CX0 1 f fd ["self", "part"] (spInit1 K "part") := by
  refine F.ok scBadFormat (fun vs H Q E h => ?_) (fun cdv A outer s H vs Q E hr h => ?_)
  · obtain ⟨a, C, v, rfl, _⟩ := h
    rfl
  · obtain ⟨a, C, v, rfl, T, hno, ea, k⟩ := h
    refine ⟨_, pss_one (ps_set_err (pv 0) (pv 1) rfl), ?_⟩
    exact ⟨_, rfl, _, rfl, a, C, rfl, T, hno, .inl ⟨ea, k⟩⟩
theorem kp_BadFormat {f : Addr} {fd : FuncData} (F : Fun K "__init__" "BadFormat.__init__" iBadFormat f fd) : KBinds K fd ["self", "part"] [] gP gP := by
  obtain ⟨oc, od, kV, doc, pm, an, cdv, ct, osl, rfl, lk, hcd⟩ := F.ex
  exact ⟨fun s us ws _ hl => match us, hl with | [_, _], _ => .of_eq rfl, fun r _ => r⟩
theorem kk_BadFormat {f : Addr} {fd : FuncData} (F : Fun K "__init__" "BadFormat.__init__" iBadFormat f fd) : KBinds K fd ["self", "part"] ["part"] gK1 gK1 := by
  obtain ⟨oc, od, kV, doc, pm, an, cdv, ct, osl, rfl, lk, hcd⟩ := F.ex
  exact ⟨fun s us ws _ hl => match us, ws, hl with | [_], [_], _ => .of_eq rfl, gK1_rel⟩
abbrev iBadWord : Stmt := inClass (top 3) 0
theorem scBadWord : FnScope ["self", "word"] ["self", "word"] (defScope iBadWord) := ⟨rfl, rfl, rfl, by decide +kernel, rfl, by decide +kernel, by decide +kernel⟩
theorem ok_BadWord {f : Addr} {fd : FuncData} (F : Fun K "__init__" "BadWord.__init__" iBadWord f fd) : FnOk P w K mg base CX0 1 f fd ["self", "word"] (spInit1 K "word") := by
  refine F.ok scBadWord (fun vs H Q E h => ?_) (fun cdv A outer s H vs Q E hr h => ?_)
  · obtain ⟨a, C, v, rfl, _⟩ := h
    rfl
  · obtain ⟨a, C, v, rfl, T, hno, ea, k⟩ := h
    refine ⟨_, pss_one (ps_set_err (pv 0) (pv 1) rfl), ?_⟩
    exact ⟨_, rfl, _, rfl, a, C, rfl, T, hno, .inl ⟨ea, k⟩⟩
theorem kp_BadWord {f : Addr} {fd : FuncData} (F : Fun K "__init__" "BadWord.__init__" iBadWord f fd) : KBinds K fd ["self", "word"] [] gP gP := by
  obtain ⟨oc, od, kV, doc, pm, an, cdv, ct, osl, rfl, lk, hcd⟩ := F.ex
  exact ⟨fun s us ws _ hl => match us, hl with | [_, _], _ => .of_eq rfl, fun r _ => r⟩
theorem kk_BadWord {f : Addr} {fd : FuncData} (F : Fun K "__init__" "BadWord.__init__" iBadWord f fd) : KBinds K fd ["self", "word"] ["word"] gK1 gK1 := by
  obtain ⟨oc, od, kV, doc, pm, an, cdv, ct, osl, rfl, lk, hcd⟩ := F.ex
  exact ⟨fun s us ws _ hl => match us, ws, hl with | [_], [_], _ => .of_eq rfl, gK1_rel⟩
abbrev iBadRecord : Stmt := inClass (top 4) 0
theorem scBadRecord : FnScope ["self", "record"] ["self", "record"] (defScope iBadRecord) := ⟨rfl, rfl, rfl, by decide +kernel, rfl, by decide +kernel, by decide +kernel⟩
theorem ok_BadRecord {f : Addr} {fd : FuncData} (F : Fun K "__init__" "BadRecord.__init__" iBadRecord f fd) : FnOk P w K mg base CX0 1 f fd ["self", "record"] (spInit1 K "record") := by
  refine F.ok scBadRecord (fun vs H Q E h => ?_) (fun cdv A outer s H vs Q E hr h => ?_)
  · obtain ⟨a, C, v, rfl, _⟩ := h
    rfl
  · obtain ⟨a, C, v, rfl, T, hno, ea, k⟩ := h
    refine ⟨_, pss_one (ps_set_err (pv 0) (pv 1) rfl), ?_⟩
    exact ⟨_, rfl, _, rfl, a, C, rfl, T, hno, .inl ⟨ea, k⟩⟩
theorem kp_BadRecord {f : Addr} {fd : FuncData} (F : Fun K "__init__" "BadRecord.__init__" iBadRecord f fd) : KBinds K fd ["self", "record"] [] gP gP := by
  obtain ⟨oc, od, kV, doc, pm, an, cdv, ct, osl, rfl, lk, hcd⟩ := F.ex
  exact ⟨fun s us ws _ hl => match us, hl with | [_, _], _ => .of_eq rfl, fun r _ => r⟩
theorem kk_BadRecord {f : Addr} {fd : FuncData} (F : Fun K "__init__" "BadRecord.__init__" iBadRecord f fd) : KBinds K fd ["self", "record"] ["record"] gK1 gK1 := by
  obtain ⟨oc, od, kV, doc, pm, an, cdv, ct, osl, rfl, lk, hcd⟩ := F.ex
  exact ⟨fun s us ws _ hl => match us, ws, hl with | [_], [_], _ => .of_eq rfl, gK1_rel⟩
abbrev iInvalidText : Stmt := inClass (top 5) 0
theorem scInvalidText : FnScope ["self", "line"] ["self", "line"] (defScope iInvalidText) := ⟨rfl, rfl, rfl, by decide +kernel, rfl, by decide +kernel, by decide +kernel⟩
theorem ok_InvalidText {f : Addr} {fd : FuncData} (F : Fun K "__init__" "InvalidText.__init__" iInvalidText f fd) : FnOk P w K mg base CX0 1 f fd ["self", "line"] (spInit1 K "line") := by
  refine F.ok scInvalidText (fun vs H Q E h => ?_) (fun cdv A outer s H vs Q E hr h => ?_)
  · obtain ⟨a, C, v, rfl, _⟩ := h
    rfl
  · obtain ⟨a, C, v, rfl, T, hno, ea, k⟩ := h
    refine ⟨_, pss_one (ps_set_err (pv 0) (pv 1) rfl), ?_⟩
    exact ⟨_, rfl, _, rfl, a, C, rfl, T, hno, .inl ⟨ea, k⟩⟩
theorem kp_InvalidText {f : Addr} {fd : FuncData} (F : Fun K "__init__" "InvalidText.__init__" iInvalidText f fd) : KBinds K fd ["self", "line"] [] gP gP := by
  obtain ⟨oc, od, kV, doc, pm, an, cdv, ct, osl, rfl, lk, hcd⟩ := F.ex
  exact ⟨fun s us ws _ hl => match us, hl with | [_, _], _ => .of_eq rfl, fun r _ => r⟩
theorem kk_InvalidText {f : Addr} {fd : FuncData} (F : Fun K "__init__" "InvalidText.__init__" iInvalidText f fd) : KBinds K fd ["self", "line"] ["line"] gK1 gK1 := by
  obtain ⟨oc, od, kV, doc, pm, an, cdv, ct, osl, rfl, lk, hcd⟩ := F.ex
  exact ⟨fun s us ws _ hl => match us, ws, hl with | [_], [_], _ => .of_eq rfl, gK1_rel⟩
abbrev iNoReading : Stmt := inClass (top 7) 0
theorem scNoReading : FnScope ["self", "word"] ["self", "word"] (defScope iNoReading) := ⟨rfl, rfl, rfl, by decide +kernel, rfl, by decide +kernel, by decide +kernel⟩
theorem ok_NoReading {f : Addr} {fd : FuncData} (F : Fun K "__init__" "NoReading.__init__" iNoReading f fd) : FnOk P w K mg base CX0 1 f fd ["self", "word"] (spInit1 K "word") := by
  refine F.ok scNoReading (fun vs H Q E h => ?_) (fun cdv A outer s H vs Q E hr h => ?_)
  · obtain ⟨a, C, v, rfl, _⟩ := h
    rfl
  · obtain ⟨a, C, v, rfl, T, hno, ea, k⟩ := h
    refine ⟨_, pss_one (ps_set_err (pv 0) (pv 1) rfl), ?_⟩
    exact ⟨_, rfl, _, rfl, a, C, rfl, T, hno, .inl ⟨ea, k⟩⟩
theorem kp_NoReading {f : Addr} {fd : FuncData} (F : Fun K "__init__" "NoReading.__init__" iNoReading f fd) : KBinds K fd ["self", "word"] [] gP gP := by
  obtain ⟨oc, od, kV, doc, pm, an, cdv, ct, osl, rfl, lk, hcd⟩ := F.ex
  exact ⟨fun s us ws _ hl => match us, hl with | [_, _], _ => .of_eq rfl, fun r _ => r⟩
theorem kk_NoReading {f : Addr} {fd : FuncData} (F : Fun K "__init__" "NoReading.__init__" iNoReading f fd) : KBinds K fd ["self", "word"] ["word"] gK1 gK1 := by
  obtain ⟨oc, od, kV, doc, pm, an, cdv, ct, osl, rfl, lk, hcd⟩ := F.ex
  exact ⟨fun s us ws _ hl => match us, ws, hl with | [_], [_], _ => .of_eq rfl, gK1_rel⟩
abbrev iNotSure : Stmt := inClass (top 10) 0
theorem scNotSure : FnScope ["self", "place"] ["self", "place"] (defScope iNotSure) := ⟨rfl, rfl, rfl, by decide +kernel, rfl, by decide +kernel, by decide +kernel⟩
theorem ok_NotSure {f : Addr} {fd : FuncData} (F : Fun K "__init__" "NotSure.__init__" iNotSure f fd) : FnOk P w K mg base CX0 1 f fd ["self", "place"] (spInit1 K "place") := by
  refine F.ok scNotSure (fun vs H Q E h => ?_) (fun cdv A outer s H vs Q E hr h => ?_)
  · obtain ⟨a, C, v, rfl, _⟩ := h
    rfl
  · obtain ⟨a, C, v, rfl, T, hno, ea, k⟩ := h
    refine ⟨_, pss_one (ps_set_err (pv 0) (pv 1) rfl), ?_⟩
    exact ⟨_, rfl, _, rfl, a, C, rfl, T, hno, .inl ⟨ea, k⟩⟩
theorem kp_NotSure {f : Addr} {fd : FuncData} (F : Fun K "__init__" "NotSure.__init__" iNotSure f fd) : KBinds K fd ["self", "place"] [] gP gP := by
  obtain ⟨oc, od, kV, doc, pm, an, cdv, ct, osl, rfl, lk, hcd⟩ := F.ex
  exact ⟨fun s us ws _ hl => match us, hl with | [_, _], _ => .of_eq rfl, fun r _ => r⟩
theorem kk_NotSure {f : Addr} {fd : FuncData} (F : Fun K "__init__" "NotSure.__init__" iNotSure f fd) : KBinds K fd ["self", "place"] ["place"] gK1 gK1 := by
  obtain ⟨oc, od, kV, doc, pm, an, cdv, ct, osl, rfl, lk, hcd⟩ := F.ex
  exact ⟨fun s us ws _ hl => match us, ws, hl with | [_], [_], _ => .of_eq rfl, gK1_rel⟩
abbrev iNoBook : Stmt := inClass (top 11) 0
theorem scNoBook : FnScope ["self", "length"] ["self", "length"] (defScope iNoBook) := ⟨rfl, rfl, rfl, by decide +kernel, rfl, by decide +kernel, by decide +kernel⟩
theorem ok_NoBook {f : Addr} {fd : FuncData} (F : Fun K "__init__" "NoBook.__init__" iNoBook f fd) : FnOk P w K mg base CX0 1 f fd ["self", "length"] (spInit1 K "length") := by
  refine F.ok scNoBook (fun vs H Q E h => ?_) (fun cdv A outer s H vs Q E hr h => ?_)
  · obtain ⟨a, C, v, rfl, _⟩ := h
    rfl
  · obtain ⟨a, C, v, rfl, T, hno, ea, k⟩ := h
    refine ⟨_, pss_one (ps_set_err (pv 0) (pv 1) rfl), ?_⟩
    exact ⟨_, rfl, _, rfl, a, C, rfl, T, hno, .inl ⟨ea, k⟩⟩
theorem kp_NoBook {f : Addr} {fd : FuncData} (F : Fun K "__init__" "NoBook.__init__" iNoBook f fd) : KBinds K fd ["self", "length"] [] gP gP := by
  obtain ⟨oc, od, kV, doc, pm, an, cdv, ct, osl, rfl, lk, hcd⟩ := F.ex
  exact ⟨fun s us ws _ hl => match us, hl with | [_, _], _ => .of_eq rfl, fun r _ => r⟩
theorem kk_NoBook {f : Addr} {fd : FuncData} (F : Fun K "__init__" "NoBook.__init__" iNoBook f fd) : KBinds K fd ["self", "length"] ["length"] gK1 gK1 := by
  obtain ⟨oc, od, kV, doc, pm, an, cdv, ct, osl, rfl, lk, hcd⟩ := F.ex
  exact ⟨fun s us ws _ hl => match us, ws, hl with | [_], [_], _ => .of_eq rfl, gK1_rel⟩
abbrev iEvenLength : Stmt := inClass (top 12) 0
theorem scEvenLength : FnScope ["self", "length"] ["self", "length"] (defScope iEvenLength) := ⟨rfl, rfl, rfl, by decide +kernel, rfl, by decide +kernel, by decide +kernel⟩
theorem ok_EvenLength {f : Addr} {fd : FuncData} (F : Fun K "__init__" "EvenLength.__init__" iEvenLength f fd) : FnOk P w K mg base CX0 1 f fd ["self", "length"] (spInit1 K "length") := by
  refine F.ok scEvenLength (fun vs H Q E h => ?_) (fun cdv A outer s H vs Q E hr h => ?_)
  · obtain ⟨a, C, v, rfl, _⟩ := h
    rfl
  · obtain ⟨a, C, v, rfl, T, hno, ea, k⟩ := h
    refine ⟨_, pss_one (ps_set_err (pv 0) (pv 1) rfl), ?_⟩
    exact ⟨_, rfl, _, rfl, a, C, rfl, T, hno, .inl ⟨ea, k⟩⟩
theorem kp_EvenLength {f : Addr} {fd : FuncData} (F : Fun K "__init__" "EvenLength.__init__" iEvenLength f fd) : KBinds K fd ["self", "length"] [] gP gP := by
  obtain ⟨oc, od, kV, doc, pm, an, cdv, ct, osl, rfl, lk, hcd⟩ := F.ex
  exact ⟨fun s us ws _ hl => match us, hl with | [_, _], _ => .of_eq rfl, fun r _ => r⟩
theorem kk_EvenLength {f : Addr} {fd : FuncData} (F : Fun K "__init__" "EvenLength.__init__" iEvenLength f fd) : KBinds K fd ["self", "length"] ["length"] gK1 gK1 := by
  obtain ⟨oc, od, kV, doc, pm, an, cdv, ct, osl, rfl, lk, hcd⟩ := F.ex
  exact ⟨fun s us ws _ hl => match us, ws, hl with | [_], [_], _ => .of_eq rfl, gK1_rel⟩
abbrev iNameTaken : Stmt := inClass (top 13) 0
theorem scNameTaken : FnScope ["self", "name"] ["self", "name"] (defScope iNameTaken) := ⟨rfl, rfl, rfl, by decide +kernel, rfl, by decide +kernel, by decide +kernel⟩
theorem ok_NameTaken {f : Addr} {fd : FuncData} (F : Fun K "__init__" "NameTaken.__init__" iNameTaken f fd) : FnOk P w K mg base CX0 1 f fd ["self", "name"] (spInit1 K "name") := by
  refine F.ok scNameTaken (fun vs H Q E h => ?_) (fun cdv A outer s H vs Q E hr h => ?_)
  · obtain ⟨a, C, v, rfl, _⟩ := h
    rfl
  · obtain ⟨a, C, v, rfl, T, hno, ea, k⟩ := h
    refine ⟨_, pss_one (ps_set_err (pv 0) (pv 1) rfl), ?_⟩
    exact ⟨_, rfl, _, rfl, a, C, rfl, T, hno, .inl ⟨ea, k⟩⟩
theorem kp_NameTaken {f : Addr} {fd : FuncData} (F : Fun K "__init__" "NameTaken.__init__" iNameTaken f fd) : KBinds K fd ["self", "name"] [] gP gP := by
  obtain ⟨oc, od, kV, doc, pm, an, cdv, ct, osl, rfl, lk, hcd⟩ := F.ex
  exact ⟨fun s us ws _ hl => match us, hl with | [_, _], _ => .of_eq rfl, fun r _ => r⟩
theorem kk_NameTaken {f : Addr} {fd : FuncData} (F : Fun K "__init__" "NameTaken.__init__" iNameTaken f fd) : KBinds K fd ["self", "name"] ["name"] gK1 gK1 := by
  obtain ⟨oc, od, kV, doc, pm, an, cdv, ct, osl, rfl, lk, hcd⟩ := F.ex
  exact ⟨fun s us ws _ hl => match us, ws, hl with | [_], [_], _ => .of_eq rfl, gK1_rel⟩
abbrev iUnknownName : Stmt := inClass (top 14) 0
theorem scUnknownName : FnScope ["self", "name"] ["self", "name"] (defScope iUnknownName) := ⟨rfl, rfl, rfl, by decide +kernel, rfl, by decide +kernel, by decide +kernel⟩
theorem ok_UnknownName {f : Addr} {fd : FuncData} (F : Fun K "__init__" "UnknownName.__init__" iUnknownName f fd) : FnOk P w K mg base CX0 1 f fd ["self", "name"] (spInit1 K "name") := by
  refine F.ok scUnknownName (fun vs H Q E h => ?_) (fun cdv A outer s H vs Q E hr h => ?_)
  · obtain ⟨a, C, v, rfl, _⟩ := h
    rfl
  · obtain ⟨a, C, v, rfl, T, hno, ea, k⟩ := h
    refine ⟨_, pss_one (ps_set_err (pv 0) (pv 1) rfl), ?_⟩
    exact ⟨_, rfl, _, rfl, a, C, rfl, T, hno, .inl ⟨ea, k⟩⟩
theorem kp_UnknownName {f : Addr} {fd : FuncData} (F : Fun K "__init__" "UnknownName.__init__" iUnknownName f fd) : KBinds K fd ["self", "name"] [] gP gP := by
  obtain ⟨oc, od, kV, doc, pm, an, cdv, ct, osl, rfl, lk, hcd⟩ := F.ex
  exact ⟨fun s us ws _ hl => match us, hl with | [_, _], _ => .of_eq rfl, fun r _ => r⟩
theorem kk_UnknownName {f : Addr} {fd : FuncData} (F : Fun K "__init__" "UnknownName.__init__" iUnknownName f fd) : KBinds K fd ["self", "name"] ["name"] gK1 gK1 := by
  obtain ⟨oc, od, kV, doc, pm, an, cdv, ct, osl, rfl, lk, hcd⟩ := F.ex
  exact ⟨fun s us ws _ hl => match us, ws, hl with | [_], [_], _ => .of_eq rfl, gK1_rel⟩
abbrev iOtherLetters : Stmt := inClass (top 6) 0
theorem scOtherLetters : FnScope ["self"] ["self"] (defScope iOtherLetters) := ⟨rfl, rfl, rfl, by decide +kernel, rfl, by decide +kernel, by decide +kernel⟩
theorem ok_OtherLetters {f : Addr} {fd : FuncData} (F : Fun K "__init__" "OtherLetters.__init__" iOtherLetters f fd) : FnOk P w K mg base CX0 1 f fd ["self"] spInit0 := by
  refine F.ok scOtherLetters (fun vs H Q E h => ?_) (fun cdv A outer s H vs Q E hr h => ?_)
  · obtain ⟨a, rfl, _⟩ := h
    rfl
  · obtain ⟨a, rfl, k⟩ := h
    exact ⟨_, pss_one ps_pass, k⟩
theorem kp_OtherLetters {f : Addr} {fd : FuncData} (F : Fun K "__init__" "OtherLetters.__init__" iOtherLetters f fd) : KBinds K fd ["self"] [] gP gP := by
  obtain ⟨oc, od, kV, doc, pm, an, cdv, ct, osl, rfl, lk, hcd⟩ := F.ex
  exact ⟨fun s us ws _ hl => match us, hl with | [_], _ => .of_eq rfl, fun r _ => r⟩
abbrev iTwoReadings : Stmt := inClass (top 8) 0
theorem scTwoReadings : FnScope ["self", "one", "other"] ["self", "one", "other"] (defScope iTwoReadings) := ⟨rfl, rfl, rfl, by decide +kernel, rfl, by decide +kernel, by decide +kernel⟩
theorem ok_TwoReadings {f : Addr} {fd : FuncData} (F : Fun K "__init__" "TwoReadings.__init__" iTwoReadings f fd) : FnOk P w K mg base CX0 1 f fd ["self", "one", "other"] (spInit2 K "one" "other") := by
  refine F.ok scTwoReadings (fun vs H Q E h => ?_) (fun cdv A outer s H vs Q E hr h => ?_)
  · obtain ⟨a, C, v, z, rfl, _⟩ := h
    rfl
  · obtain ⟨a, C, v, z, rfl, T, hx, hy, ea, k⟩ := h
    refine ⟨_, pss_cons (ps_set_err (pv 0) (pv 1) rfl) (pss_one (ps_set_err (pv 0) (pv 2) rfl)), ?_⟩
    refine ⟨_, rfl, _, rfl, a, C, rfl, T, hx, .inl ⟨ea, fun dx hd ne => ?_⟩⟩
    exact ⟨_, rfl, _, rfl, a, C, rfl, T, hy, .inr ⟨dx, _, upd_same, (by rw [upd_ne ne]; exact upd_same), (by show 1 ≤ 900; decide), k dx hd ne⟩⟩
theorem kp_TwoReadings {f : Addr} {fd : FuncData} (F : Fun K "__init__" "TwoReadings.__init__" iTwoReadings f fd) : KBinds K fd ["self", "one", "other"] [] gP gP := by
  obtain ⟨oc, od, kV, doc, pm, an, cdv, ct, osl, rfl, lk, hcd⟩ := F.ex
  exact ⟨fun s us ws _ hl => match us, hl with | [_, _, _], _ => .of_eq rfl, fun r _ => r⟩
theorem kk_TwoReadings {f : Addr} {fd : FuncData} (F : Fun K "__init__" "TwoReadings.__init__" iTwoReadings f fd) : KBinds K fd ["self", "one", "other"] ["other", "one"] gK2 gK2 := by
  obtain ⟨oc, od, kV, doc, pm, an, cdv, ct, osl, rfl, lk, hcd⟩ := F.ex
  exact ⟨fun s us ws _ hl => match us, ws, hl with | [_], [_, _], _ => .of_eq rfl, gK2_rel⟩
abbrev iNotEnough : Stmt := inClass (top 9) 0
theorem scNotEnough : FnScope ["self", "ahead", "behind"] ["self", "ahead", "behind"] (defScope iNotEnough) := ⟨rfl, rfl, rfl, by decide +kernel, rfl, by decide +kernel, by decide +kernel⟩
theorem ok_NotEnough {f : Addr} {fd : FuncData} (F : Fun K "__init__" "NotEnough.__init__" iNotEnough f fd) : FnOk P w K mg base CX0 1 f fd ["self", "ahead", "behind"] (spInit2 K "ahead" "behind") := by
  refine F.ok scNotEnough (fun vs H Q E h => ?_) (fun cdv A outer s H vs Q E hr h => ?_)
  · obtain ⟨a, C, v, z, rfl, _⟩ := h
    rfl
  · obtain ⟨a, C, v, z, rfl, T, hx, hy, ea, k⟩ := h
    refine ⟨_, pss_cons (ps_set_err (pv 0) (pv 1) rfl) (pss_one (ps_set_err (pv 0) (pv 2) rfl)), ?_⟩
    refine ⟨_, rfl, _, rfl, a, C, rfl, T, hx, .inl ⟨ea, fun dx hd ne => ?_⟩⟩
    exact ⟨_, rfl, _, rfl, a, C, rfl, T, hy, .inr ⟨dx, _, upd_same, (by rw [upd_ne ne]; exact upd_same), (by show 1 ≤ 900; decide), k dx hd ne⟩⟩
theorem kp_NotEnough {f : Addr} {fd : FuncData} (F : Fun K "__init__" "NotEnough.__init__" iNotEnough f fd) : KBinds K fd ["self", "ahead", "behind"] [] gP gP := by
  obtain ⟨oc, od, kV, doc, pm, an, cdv, ct, osl, rfl, lk, hcd⟩ := F.ex
  exact ⟨fun s us ws _ hl => match us, hl with | [_, _, _], _ => .of_eq rfl, fun r _ => r⟩
theorem kk_NotEnough {f : Addr} {fd : FuncData} (F : Fun K "__init__" "NotEnough.__init__" iNotEnough f fd) : KBinds K fd ["self", "ahead", "behind"] ["behind", "ahead"] gK2 gK2 := by
  obtain ⟨oc, od, kV, doc, pm, an, cdv, ct, osl, rfl, lk, hcd⟩ := F.ex
  exact ⟨fun s us ws _ hl => match us, ws, hl with | [_], [_, _], _ => .of_eq rfl, gK2_rel⟩
end
end K80

set_option Elab.async false
set_option linter.all false
set_option maxRecDepth 100000
set_option maxHeartbeats 4000000
namespace K80
open PySem PySem.Spec PyProof.Rows L2 Ami
/-- the thirteen classes -/
structure Errs (K : PySem.W.Frag) (mg : Str → Option Value) (C0 C1 C2 C3 C4 C5 C6 C7 C8 C9 C10 C11 C12 f0 f1 f2 f3 f4 f5 f6 f7 f8 f9 f10 f11 f12 : Addr) (d0 d1 d2 d3 d4 d5 d6 d7 d8 d9 d10 d11 d12 : FuncData) : Prop where
  e0 : Cl K mg "BadFormat" "BadFormat.__init__" iBadFormat C0 f0 d0
  e1 : Cl K mg "BadWord" "BadWord.__init__" iBadWord C1 f1 d1
  e2 : Cl K mg "BadRecord" "BadRecord.__init__" iBadRecord C2 f2 d2
  e3 : Cl K mg "InvalidText" "InvalidText.__init__" iInvalidText C3 f3 d3
  e4 : Cl K mg "NoReading" "NoReading.__init__" iNoReading C4 f4 d4
  e5 : Cl K mg "NotSure" "NotSure.__init__" iNotSure C5 f5 d5
  e6 : Cl K mg "NoBook" "NoBook.__init__" iNoBook C6 f6 d6
  e7 : Cl K mg "EvenLength" "EvenLength.__init__" iEvenLength C7 f7 d7
  e8 : Cl K mg "NameTaken" "NameTaken.__init__" iNameTaken C8 f8 d8
  e9 : Cl K mg "UnknownName" "UnknownName.__init__" iUnknownName C9 f9 d9
  e10 : Cl K mg "OtherLetters" "OtherLetters.__init__" iOtherLetters C10 f10 d10
  e11 : Cl K mg "TwoReadings" "TwoReadings.__init__" iTwoReadings C11 f11 d11
  e12 : Cl K mg "NotEnough" "NotEnough.__init__" iNotEnough C12 f12 d12
  n0a : PySem.W.findIn K (.ref C0) "part" = some none
  n1a : PySem.W.findIn K (.ref C1) "word" = some none
  n2a : PySem.W.findIn K (.ref C2) "record" = some none
  n3a : PySem.W.findIn K (.ref C3) "line" = some none
  n4a : PySem.W.findIn K (.ref C4) "word" = some none
  n5a : PySem.W.findIn K (.ref C5) "place" = some none
  n6a : PySem.W.findIn K (.ref C6) "length" = some none
  n7a : PySem.W.findIn K (.ref C7) "length" = some none
  n8a : PySem.W.findIn K (.ref C8) "name" = some none
  n9a : PySem.W.findIn K (.ref C9) "name" = some none
  n11a : PySem.W.findIn K (.ref C11) "one" = some none
  n11b : PySem.W.findIn K (.ref C11) "other" = some none
  n12a : PySem.W.findIn K (.ref C12) "ahead" = some none
  n12b : PySem.W.findIn K (.ref C12) "behind" = some none
/-- the attribute of an error with one -/
def fld : Nat → Str
  | 0 => "part"
  | 1 => "word"
  | 2 => "record"
  | 3 => "line"
  | 4 => "word"
  | 5 => "place"
  | 6 => "length"
  | 7 => "length"
  | 8 => "name"
  | 9 => "name"
  | _ => ""
/-- the class with a number -/
def cls (C0 C1 C2 C3 C4 C5 C6 C7 C8 C9 C10 C11 C12 : Addr) : Nat → Addr
  | 0 => C0
  | 1 => C1
  | 2 => C2
  | 3 => C3
  | 4 => C4
  | 5 => C5
  | 6 => C6
  | 7 => C7
  | 8 => C8
  | 9 => C9
  | 10 => C10
  | 11 => C11
  | 12 => C12
  | _ => 0
/-- an error at e, of the class at C, with its attributes -/
def Err (H : Hp) (e C : Addr) (fs : List (Str × V)) : Prop := ∃ d, H e = some (exo e C (some d)) ∧ H d = some (exd d fs)
theorem Err.same {H H' : Hp} {e C : Addr} {fs : List (Str × V)} (h : Err H e C fs) (s : Same H H') : Err H' e C fs := by
  obtain ⟨d, h1, h2⟩ := h
  exact ⟨d, s _ _ h1, s _ _ h2⟩
theorem made_err {H : Hp} {a C dx : Addr} {fs : List (Str × V)} (ha : H a = none) (hd : upd H a (exo a C none) dx = none) (ne : dx ≠ a) :
    Same H (upd (upd (upd H a (exo a C none)) dx (exd dx fs)) a (exo a C (some dx))) ∧ Err (upd (upd (upd H a (exo a C none)) dx (exd dx fs)) a (exo a C (some dx))) a C fs := by
  have hd' : H dx = none := by rw [upd_ne ne] at hd; exact hd
  refine ⟨fun b o e => ?_, dx, upd_same, by rw [upd_ne ne, upd_same]⟩
  rw [upd_ne (ne_of_none e ha), upd_ne (ne_of_none e hd'), upd_ne (ne_of_none e ha)]
  exact e
theorem made_err2 {H : Hp} {a C dx : Addr} {fs gs : List (Str × V)} (ha : H a = none) (hd : upd H a (exo a C none) dx = none) (ne : dx ≠ a) :
    Same H (upd (upd (upd (upd H a (exo a C none)) dx (exd dx fs)) a (exo a C (some dx))) dx (exd dx gs)) ∧ Err (upd (upd (upd (upd H a (exo a C none)) dx (exd dx fs)) a (exo a C (some dx))) dx (exd dx gs)) a C gs := by
  have hd' : H dx = none := by rw [upd_ne ne] at hd; exact hd
  refine ⟨fun b o e => ?_, dx, (by rw [upd_ne (Ne.symm ne), upd_same]), upd_same⟩
  rw [upd_ne (ne_of_none e hd'), upd_ne (ne_of_none e ha), upd_ne (ne_of_none e hd'), upd_ne (ne_of_none e ha)]
  exact e
section
variable {P : Program} {w : World} {K : PySem.W.Frag} {mg : Str → Option Value} {base : Heap} {C0 C1 C2 C3 C4 C5 C6 C7 C8 C9 C10 C11 C12 f0 f1 f2 f3 f4 f5 f6 f7 f8 f9 f10 f11 f12 : Addr} {d0 d1 d2 d3 d4 d5 d6 d7 d8 d9 d10 d11 d12 : FuncData}
/-- two errors of the class with a number, and the name of the attribute -/
def spOne (CA : Nat → Addr) : Sp := fun vs H Q _ => ∃ (n : Nat) (v : V), vs = [.int (n : Int), v] ∧ n < 10 ∧ ∀ (H' : Hp) (t e1 e2 : Addr), Same H H' → H' t = some (.tup [.ref e1, .ref e2, .str (fld n)]) → Err H' e1 (CA n) [(fld n, v)] → Err H' e2 (CA n) [(fld n, v)] → Q (.ref t) H'
theorem scOne : FnScope ["_law_at", "_law_value_here"] ["_law_at", "_law_value_here"] (defScope sOne) := ⟨rfl, rfl, rfl, by decide +kernel, rfl, by decide +kernel, by decide +kernel⟩
theorem ok_one {f : Addr} {fd : FuncData} (F : Fun K "_law_one" "_law_one" sOne f fd) (X : Errs K mg C0 C1 C2 C3 C4 C5 C6 C7 C8 C9 C10 C11 C12 f0 f1 f2 f3 f4 f5 f6 f7 f8 f9 f10 f11 f12 d0 d1 d2 d3 d4 d5 d6 d7 d8 d9 d10 d11 d12) : FnOk P w K mg base CX0 3 f fd ["_law_at", "_law_value_here"] (spOne (cls C0 C1 C2 C3 C4 C5 C6 C7 C8 C9 C10 C11 C12)) := by
  refine F.ok scOne (fun vs H Q E h => ?_) (fun cdv A outer s H vs Q E hr h => ?_)
  · obtain ⟨n, v, rfl, _⟩ := h
    rfl
  · obtain ⟨n, v, rfl, hn, k⟩ := h
    refine ⟨_, pss_cons (ps_if (pt_cmpR op_eq (pv 0) pe_int (nomark _)) (pss_one (ps_ret (pe_tup (pa_cons (pe_made X.e0.T X.e0.iC X.e0.tI (ok_BadFormat X.e0.F) hr (kp_BadFormat X.e0.F) pass0 X.e0.g (pa_cons (pv 1) pa_nil) pk_nil) (pa_cons (pe_madeK X.e0.T X.e0.iC X.e0.tI (ok_BadFormat X.e0.F) hr (kk_BadFormat X.e0.F) pass0 X.e0.g (pk_cons (pv 1) pk_nil)) (pa_cons pe_str pa_nil)))))) pss_nil)
      (pss_cons (ps_if (pt_cmpR op_eq (pv 0) pe_int (nomark _)) (pss_one (ps_ret (pe_tup (pa_cons (pe_made X.e1.T X.e1.iC X.e1.tI (ok_BadWord X.e1.F) hr (kp_BadWord X.e1.F) pass0 X.e1.g (pa_cons (pv 1) pa_nil) pk_nil) (pa_cons (pe_madeK X.e1.T X.e1.iC X.e1.tI (ok_BadWord X.e1.F) hr (kk_BadWord X.e1.F) pass0 X.e1.g (pk_cons (pv 1) pk_nil)) (pa_cons pe_str pa_nil)))))) pss_nil)
      (pss_cons (ps_if (pt_cmpR op_eq (pv 0) pe_int (nomark _)) (pss_one (ps_ret (pe_tup (pa_cons (pe_made X.e2.T X.e2.iC X.e2.tI (ok_BadRecord X.e2.F) hr (kp_BadRecord X.e2.F) pass0 X.e2.g (pa_cons (pv 1) pa_nil) pk_nil) (pa_cons (pe_madeK X.e2.T X.e2.iC X.e2.tI (ok_BadRecord X.e2.F) hr (kk_BadRecord X.e2.F) pass0 X.e2.g (pk_cons (pv 1) pk_nil)) (pa_cons pe_str pa_nil)))))) pss_nil)
      (pss_cons (ps_if (pt_cmpR op_eq (pv 0) pe_int (nomark _)) (pss_one (ps_ret (pe_tup (pa_cons (pe_made X.e3.T X.e3.iC X.e3.tI (ok_InvalidText X.e3.F) hr (kp_InvalidText X.e3.F) pass0 X.e3.g (pa_cons (pv 1) pa_nil) pk_nil) (pa_cons (pe_madeK X.e3.T X.e3.iC X.e3.tI (ok_InvalidText X.e3.F) hr (kk_InvalidText X.e3.F) pass0 X.e3.g (pk_cons (pv 1) pk_nil)) (pa_cons pe_str pa_nil)))))) pss_nil)
      (pss_cons (ps_if (pt_cmpR op_eq (pv 0) pe_int (nomark _)) (pss_one (ps_ret (pe_tup (pa_cons (pe_made X.e4.T X.e4.iC X.e4.tI (ok_NoReading X.e4.F) hr (kp_NoReading X.e4.F) pass0 X.e4.g (pa_cons (pv 1) pa_nil) pk_nil) (pa_cons (pe_madeK X.e4.T X.e4.iC X.e4.tI (ok_NoReading X.e4.F) hr (kk_NoReading X.e4.F) pass0 X.e4.g (pk_cons (pv 1) pk_nil)) (pa_cons pe_str pa_nil)))))) pss_nil)
      (pss_cons (ps_if (pt_cmpR op_eq (pv 0) pe_int (nomark _)) (pss_one (ps_ret (pe_tup (pa_cons (pe_made X.e5.T X.e5.iC X.e5.tI (ok_NotSure X.e5.F) hr (kp_NotSure X.e5.F) pass0 X.e5.g (pa_cons (pv 1) pa_nil) pk_nil) (pa_cons (pe_madeK X.e5.T X.e5.iC X.e5.tI (ok_NotSure X.e5.F) hr (kk_NotSure X.e5.F) pass0 X.e5.g (pk_cons (pv 1) pk_nil)) (pa_cons pe_str pa_nil)))))) pss_nil)
      (pss_cons (ps_if (pt_cmpR op_eq (pv 0) pe_int (nomark _)) (pss_one (ps_ret (pe_tup (pa_cons (pe_made X.e6.T X.e6.iC X.e6.tI (ok_NoBook X.e6.F) hr (kp_NoBook X.e6.F) pass0 X.e6.g (pa_cons (pv 1) pa_nil) pk_nil) (pa_cons (pe_madeK X.e6.T X.e6.iC X.e6.tI (ok_NoBook X.e6.F) hr (kk_NoBook X.e6.F) pass0 X.e6.g (pk_cons (pv 1) pk_nil)) (pa_cons pe_str pa_nil)))))) pss_nil)
      (pss_cons (ps_if (pt_cmpR op_eq (pv 0) pe_int (nomark _)) (pss_one (ps_ret (pe_tup (pa_cons (pe_made X.e7.T X.e7.iC X.e7.tI (ok_EvenLength X.e7.F) hr (kp_EvenLength X.e7.F) pass0 X.e7.g (pa_cons (pv 1) pa_nil) pk_nil) (pa_cons (pe_madeK X.e7.T X.e7.iC X.e7.tI (ok_EvenLength X.e7.F) hr (kk_EvenLength X.e7.F) pass0 X.e7.g (pk_cons (pv 1) pk_nil)) (pa_cons pe_str pa_nil)))))) pss_nil)
      (pss_cons (ps_if (pt_cmpR op_eq (pv 0) pe_int (nomark _)) (pss_one (ps_ret (pe_tup (pa_cons (pe_made X.e8.T X.e8.iC X.e8.tI (ok_NameTaken X.e8.F) hr (kp_NameTaken X.e8.F) pass0 X.e8.g (pa_cons (pv 1) pa_nil) pk_nil) (pa_cons (pe_madeK X.e8.T X.e8.iC X.e8.tI (ok_NameTaken X.e8.F) hr (kk_NameTaken X.e8.F) pass0 X.e8.g (pk_cons (pv 1) pk_nil)) (pa_cons pe_str pa_nil)))))) pss_nil)
      (pss_one (ps_ret (pe_tup (pa_cons (pe_made X.e9.T X.e9.iC X.e9.tI (ok_UnknownName X.e9.F) hr (kp_UnknownName X.e9.F) pass0 X.e9.g (pa_cons (pv 1) pa_nil) pk_nil) (pa_cons (pe_madeK X.e9.T X.e9.iC X.e9.tI (ok_UnknownName X.e9.F) hr (kk_UnknownName X.e9.F) pass0 X.e9.g (pk_cons (pv 1) pk_nil)) (pa_cons pe_str pa_nil)))))))))))))), ?_⟩
    have fin : ∀ (C : Addr) (m : Nat), m = n → cls C0 C1 C2 C3 C4 C5 C6 C7 C8 C9 C10 C11 C12 m = C → ∀ (H1 H2 : Hp) (a a2 dx dx2 : Addr), H a = none → upd H a (exo a C none) dx = none → dx ≠ a → H1 = upd (upd (upd H a (exo a C none)) dx (exd dx [(fld n, v)])) a (exo a C (some dx)) →
        H1 a2 = none → upd H1 a2 (exo a2 C none) dx2 = none → dx2 ≠ a2 → H2 = upd (upd (upd H1 a2 (exo a2 C none)) dx2 (exd dx2 [(fld n, v)])) a2 (exo a2 C (some dx2)) → ∀ t, H2 t = none → Q (.ref t) (upd H2 t (.tup [.ref a, .ref a2, .str (fld n)])) := by
      rintro C m rfl rfl H1 H2 a a2 dx dx2 h1 h2 h3 rfl h5 h6 h7 rfl t ht
      obtain ⟨s1, r1⟩ := made_err (fs := [(fld m, v)]) h1 h2 h3
      obtain ⟨s2, r2⟩ := made_err (fs := [(fld m, v)]) h5 h6 h7
      exact k _ t a a2 ((s1.trans s2).trans (Same.upd ht)) upd_same (r1.same (s2.trans (Same.upd ht))) (r2.same (Same.upd ht))
    have cases10 : n = 0 ∨ n = 1 ∨ n = 2 ∨ n = 3 ∨ n = 4 ∨ n = 5 ∨ n = 6 ∨ n = 7 ∨ n = 8 ∨ n = 9 := by omega
    rcases cases10 with rfl | rfl | rfl | rfl | rfl | rfl | rfl | rfl | rfl | rfl
    · refine ⟨_, rfl, rfl, _, rfl, iteT ?_⟩
      refine ⟨_, rfl, (by show 1 ≤ 1000; decide), fun a ha => ⟨a, C0, v, rfl, X.e0.T, X.n0a, upd_same, fun dx hd ne => ⟨rfl, ⟨some dx, upd_same⟩, ?_⟩⟩⟩
      refine ⟨_, rfl, Nat.zero_le _, fun a2 ha2 => ⟨a2, C0, v, rfl, X.e0.T, X.n0a, upd_same, fun dx2 hd2 ne2 => ⟨rfl, ⟨some dx2, upd_same⟩, (by show 3 ≤ sizeLine; decide), fun t ht => ?_⟩⟩⟩
      exact fin C0 0 rfl rfl _ _ a a2 dx dx2 ha hd ne rfl ha2 hd2 ne2 rfl t ht
    · refine ⟨_, rfl, rfl, _, rfl, iteF ?_⟩
      refine ⟨_, rfl, rfl, _, rfl, iteT ?_⟩
      refine ⟨_, rfl, (by show 1 ≤ 1000; decide), fun a ha => ⟨a, C1, v, rfl, X.e1.T, X.n1a, upd_same, fun dx hd ne => ⟨rfl, ⟨some dx, upd_same⟩, ?_⟩⟩⟩
      refine ⟨_, rfl, Nat.zero_le _, fun a2 ha2 => ⟨a2, C1, v, rfl, X.e1.T, X.n1a, upd_same, fun dx2 hd2 ne2 => ⟨rfl, ⟨some dx2, upd_same⟩, (by show 3 ≤ sizeLine; decide), fun t ht => ?_⟩⟩⟩
      exact fin C1 1 rfl rfl _ _ a a2 dx dx2 ha hd ne rfl ha2 hd2 ne2 rfl t ht
    · refine ⟨_, rfl, rfl, _, rfl, iteF ?_⟩
      refine ⟨_, rfl, rfl, _, rfl, iteF ?_⟩
      refine ⟨_, rfl, rfl, _, rfl, iteT ?_⟩
      refine ⟨_, rfl, (by show 1 ≤ 1000; decide), fun a ha => ⟨a, C2, v, rfl, X.e2.T, X.n2a, upd_same, fun dx hd ne => ⟨rfl, ⟨some dx, upd_same⟩, ?_⟩⟩⟩
      refine ⟨_, rfl, Nat.zero_le _, fun a2 ha2 => ⟨a2, C2, v, rfl, X.e2.T, X.n2a, upd_same, fun dx2 hd2 ne2 => ⟨rfl, ⟨some dx2, upd_same⟩, (by show 3 ≤ sizeLine; decide), fun t ht => ?_⟩⟩⟩
      exact fin C2 2 rfl rfl _ _ a a2 dx dx2 ha hd ne rfl ha2 hd2 ne2 rfl t ht
    · refine ⟨_, rfl, rfl, _, rfl, iteF ?_⟩
      refine ⟨_, rfl, rfl, _, rfl, iteF ?_⟩
      refine ⟨_, rfl, rfl, _, rfl, iteF ?_⟩
      refine ⟨_, rfl, rfl, _, rfl, iteT ?_⟩
      refine ⟨_, rfl, (by show 1 ≤ 1000; decide), fun a ha => ⟨a, C3, v, rfl, X.e3.T, X.n3a, upd_same, fun dx hd ne => ⟨rfl, ⟨some dx, upd_same⟩, ?_⟩⟩⟩
      refine ⟨_, rfl, Nat.zero_le _, fun a2 ha2 => ⟨a2, C3, v, rfl, X.e3.T, X.n3a, upd_same, fun dx2 hd2 ne2 => ⟨rfl, ⟨some dx2, upd_same⟩, (by show 3 ≤ sizeLine; decide), fun t ht => ?_⟩⟩⟩
      exact fin C3 3 rfl rfl _ _ a a2 dx dx2 ha hd ne rfl ha2 hd2 ne2 rfl t ht
    · refine ⟨_, rfl, rfl, _, rfl, iteF ?_⟩
      refine ⟨_, rfl, rfl, _, rfl, iteF ?_⟩
      refine ⟨_, rfl, rfl, _, rfl, iteF ?_⟩
      refine ⟨_, rfl, rfl, _, rfl, iteF ?_⟩
      refine ⟨_, rfl, rfl, _, rfl, iteT ?_⟩
      refine ⟨_, rfl, (by show 1 ≤ 1000; decide), fun a ha => ⟨a, C4, v, rfl, X.e4.T, X.n4a, upd_same, fun dx hd ne => ⟨rfl, ⟨some dx, upd_same⟩, ?_⟩⟩⟩
      refine ⟨_, rfl, Nat.zero_le _, fun a2 ha2 => ⟨a2, C4, v, rfl, X.e4.T, X.n4a, upd_same, fun dx2 hd2 ne2 => ⟨rfl, ⟨some dx2, upd_same⟩, (by show 3 ≤ sizeLine; decide), fun t ht => ?_⟩⟩⟩
      exact fin C4 4 rfl rfl _ _ a a2 dx dx2 ha hd ne rfl ha2 hd2 ne2 rfl t ht
    · refine ⟨_, rfl, rfl, _, rfl, iteF ?_⟩
      refine ⟨_, rfl, rfl, _, rfl, iteF ?_⟩
      refine ⟨_, rfl, rfl, _, rfl, iteF ?_⟩
      refine ⟨_, rfl, rfl, _, rfl, iteF ?_⟩
      refine ⟨_, rfl, rfl, _, rfl, iteF ?_⟩
      refine ⟨_, rfl, rfl, _, rfl, iteT ?_⟩
      refine ⟨_, rfl, (by show 1 ≤ 1000; decide), fun a ha => ⟨a, C5, v, rfl, X.e5.T, X.n5a, upd_same, fun dx hd ne => ⟨rfl, ⟨some dx, upd_same⟩, ?_⟩⟩⟩
      refine ⟨_, rfl, Nat.zero_le _, fun a2 ha2 => ⟨a2, C5, v, rfl, X.e5.T, X.n5a, upd_same, fun dx2 hd2 ne2 => ⟨rfl, ⟨some dx2, upd_same⟩, (by show 3 ≤ sizeLine; decide), fun t ht => ?_⟩⟩⟩
      exact fin C5 5 rfl rfl _ _ a a2 dx dx2 ha hd ne rfl ha2 hd2 ne2 rfl t ht
    · refine ⟨_, rfl, rfl, _, rfl, iteF ?_⟩
      refine ⟨_, rfl, rfl, _, rfl, iteF ?_⟩
      refine ⟨_, rfl, rfl, _, rfl, iteF ?_⟩
      refine ⟨_, rfl, rfl, _, rfl, iteF ?_⟩
      refine ⟨_, rfl, rfl, _, rfl, iteF ?_⟩
      refine ⟨_, rfl, rfl, _, rfl, iteF ?_⟩
      refine ⟨_, rfl, rfl, _, rfl, iteT ?_⟩
      refine ⟨_, rfl, (by show 1 ≤ 1000; decide), fun a ha => ⟨a, C6, v, rfl, X.e6.T, X.n6a, upd_same, fun dx hd ne => ⟨rfl, ⟨some dx, upd_same⟩, ?_⟩⟩⟩
      refine ⟨_, rfl, Nat.zero_le _, fun a2 ha2 => ⟨a2, C6, v, rfl, X.e6.T, X.n6a, upd_same, fun dx2 hd2 ne2 => ⟨rfl, ⟨some dx2, upd_same⟩, (by show 3 ≤ sizeLine; decide), fun t ht => ?_⟩⟩⟩
      exact fin C6 6 rfl rfl _ _ a a2 dx dx2 ha hd ne rfl ha2 hd2 ne2 rfl t ht
    · refine ⟨_, rfl, rfl, _, rfl, iteF ?_⟩
      refine ⟨_, rfl, rfl, _, rfl, iteF ?_⟩
      refine ⟨_, rfl, rfl, _, rfl, iteF ?_⟩
      refine ⟨_, rfl, rfl, _, rfl, iteF ?_⟩
      refine ⟨_, rfl, rfl, _, rfl, iteF ?_⟩
      refine ⟨_, rfl, rfl, _, rfl, iteF ?_⟩
      refine ⟨_, rfl, rfl, _, rfl, iteF ?_⟩
      refine ⟨_, rfl, rfl, _, rfl, iteT ?_⟩
      refine ⟨_, rfl, (by show 1 ≤ 1000; decide), fun a ha => ⟨a, C7, v, rfl, X.e7.T, X.n7a, upd_same, fun dx hd ne => ⟨rfl, ⟨some dx, upd_same⟩, ?_⟩⟩⟩
      refine ⟨_, rfl, Nat.zero_le _, fun a2 ha2 => ⟨a2, C7, v, rfl, X.e7.T, X.n7a, upd_same, fun dx2 hd2 ne2 => ⟨rfl, ⟨some dx2, upd_same⟩, (by show 3 ≤ sizeLine; decide), fun t ht => ?_⟩⟩⟩
      exact fin C7 7 rfl rfl _ _ a a2 dx dx2 ha hd ne rfl ha2 hd2 ne2 rfl t ht
    · refine ⟨_, rfl, rfl, _, rfl, iteF ?_⟩
      refine ⟨_, rfl, rfl, _, rfl, iteF ?_⟩
      refine ⟨_, rfl, rfl, _, rfl, iteF ?_⟩
      refine ⟨_, rfl, rfl, _, rfl, iteF ?_⟩
      refine ⟨_, rfl, rfl, _, rfl, iteF ?_⟩
      refine ⟨_, rfl, rfl, _, rfl, iteF ?_⟩
      refine ⟨_, rfl, rfl, _, rfl, iteF ?_⟩
      refine ⟨_, rfl, rfl, _, rfl, iteF ?_⟩
      refine ⟨_, rfl, rfl, _, rfl, iteT ?_⟩
      refine ⟨_, rfl, (by show 1 ≤ 1000; decide), fun a ha => ⟨a, C8, v, rfl, X.e8.T, X.n8a, upd_same, fun dx hd ne => ⟨rfl, ⟨some dx, upd_same⟩, ?_⟩⟩⟩
      refine ⟨_, rfl, Nat.zero_le _, fun a2 ha2 => ⟨a2, C8, v, rfl, X.e8.T, X.n8a, upd_same, fun dx2 hd2 ne2 => ⟨rfl, ⟨some dx2, upd_same⟩, (by show 3 ≤ sizeLine; decide), fun t ht => ?_⟩⟩⟩
      exact fin C8 8 rfl rfl _ _ a a2 dx dx2 ha hd ne rfl ha2 hd2 ne2 rfl t ht
    · refine ⟨_, rfl, rfl, _, rfl, iteF ?_⟩
      refine ⟨_, rfl, rfl, _, rfl, iteF ?_⟩
      refine ⟨_, rfl, rfl, _, rfl, iteF ?_⟩
      refine ⟨_, rfl, rfl, _, rfl, iteF ?_⟩
      refine ⟨_, rfl, rfl, _, rfl, iteF ?_⟩
      refine ⟨_, rfl, rfl, _, rfl, iteF ?_⟩
      refine ⟨_, rfl, rfl, _, rfl, iteF ?_⟩
      refine ⟨_, rfl, rfl, _, rfl, iteF ?_⟩
      refine ⟨_, rfl, rfl, _, rfl, iteF ?_⟩
      refine ⟨_, rfl, (by show 1 ≤ 1000; decide), fun a ha => ⟨a, C9, v, rfl, X.e9.T, X.n9a, upd_same, fun dx hd ne => ⟨rfl, ⟨some dx, upd_same⟩, ?_⟩⟩⟩
      refine ⟨_, rfl, Nat.zero_le _, fun a2 ha2 => ⟨a2, C9, v, rfl, X.e9.T, X.n9a, upd_same, fun dx2 hd2 ne2 => ⟨rfl, ⟨some dx2, upd_same⟩, (by show 3 ≤ sizeLine; decide), fun t ht => ?_⟩⟩⟩
      exact fin C9 9 rfl rfl _ _ a a2 dx dx2 ha hd ne rfl ha2 hd2 ne2 rfl t ht
end
end K80

set_option Elab.async false
set_option linter.all false
set_option maxRecDepth 100000
set_option maxHeartbeats 4000000
namespace K80
open PySem PySem.Spec PyProof.Rows L2 Ami
theorem ite_no {c : Bool} {A B : Prop} (h : c = false) (b : B) : if c = true then A else B := by rw [h]; exact iteF b
theorem ite_yes {c : Bool} {A B : Prop} (h : c = true) (a : A) : if c = true then A else B := by rw [h]; exact iteT a
section
variable {P : Program} {w : World} {K : PySem.W.Frag} {mg : Str → Option Value} {base : Heap} {C0 C1 C2 C3 C4 C5 C6 C7 C8 C9 C10 C11 C12 f0 f1 f2 f3 f4 f5 f6 f7 f8 f9 f10 f11 f12 : Addr} {d0 d1 d2 d3 d4 d5 d6 d7 d8 d9 d10 d11 d12 : FuncData}
/-- which of the thirteen an error is of -/
def spCls (K : PySem.W.Frag) (CA : Nat → Addr) : Sp := fun vs H Q _ => ∃ (a C : Addr) (od : Option Addr) (bs : Nat → Bool), vs = [.ref a] ∧ EX K C ∧ ErrAt H a C od ∧ (∀ d, od = some d → ∃ fs, H d = some (exd d fs)) ∧ (∀ k, k < 13 → PySem.W.kitOne K (.ref C) (.ref (CA k)) = some (bs k)) ∧
  ∀ (H' : Hp) (l : Addr), Same H H' → H' l = some (.lst ((List.range 13).map fun k => V.bl (bs k))) → Q (.ref l) H'
def spClsP (K : PySem.W.Frag) (CA : Nat → Addr) (a : Addr) (cv : Value) (od : Option Addr) : Sp := fun vs H Q _ => ∃ (C : Addr) (bs : Nat → Bool), vs = [.ref a] ∧ EX K C ∧ cv = .ref C ∧ (∀ d, od = some d → ∃ fs, H d = some (exd d fs)) ∧ (∀ k, k < 13 → PySem.W.kitOne K (.ref C) (.ref (CA k)) = some (bs k)) ∧
  ∀ (H' : Hp) (l : Addr), Same H H' → H' l = some (.lst ((List.range 13).map fun k => V.bl (bs k))) → Q (.ref l) H'
theorem scCls : FnScope ["_law_e", "_law_some"] ["_law_e"] (defScope sClasses) := ⟨rfl, rfl, rfl, by decide +kernel, rfl, by decide +kernel, by decide +kernel⟩
theorem ok_cls {f : Addr} {fd : FuncData} (F : Fun K "_law_classes" "_law_classes" sClasses f fd) (T : Blt mg) (X : Errs K mg C0 C1 C2 C3 C4 C5 C6 C7 C8 C9 C10 C11 C12 f0 f1 f2 f3 f4 f5 f6 f7 f8 f9 f10 f11 f12 d0 d1 d2 d3 d4 d5 d6 d7 d8 d9 d10 d11 d12) : FnOk P w K mg base CX0 1 f fd ["_law_e"] (spCls K (cls C0 C1 C2 C3 C4 C5 C6 C7 C8 C9 C10 C11 C12)) := by
  refine F.ok scCls (fun vs H Q E h => ?_) (fun cdv A outer s H vs Q E hr h => ?_)
  · obtain ⟨a, C, od, bs, rfl, _⟩ := h
    rfl
  · obtain ⟨a, C, od, bs, rfl, TT, ea, hd, hk, k⟩ := h
    have dk : ∀ H1 : Hp, Same H H1 → ∀ d, od = some d → ∃ fs, H1 d = some (exd d fs) := fun H1 s d e => by
      obtain ⟨fs, z⟩ := hd d e
      exact ⟨fs, s _ _ z⟩
    refine ⟨_, pss_cons (ps_set (i := 1) scCls.nd rfl (Or.inl rfl) (pe_lst (pa_cons (pe_callB call_isX (by rfl) T.isi (by decide +kernel) (pa_cons (pv 0) (pa_cons (pe_glob (v := .ref C0) (by rfl) X.e0.g rfl) pa_nil))) (pa_cons (pe_callB call_isX (by rfl) T.isi (by decide +kernel) (pa_cons (pv 0) (pa_cons (pe_glob (v := .ref C1) (by rfl) X.e1.g rfl) pa_nil))) (pa_cons (pe_callB call_isX (by rfl) T.isi (by decide +kernel) (pa_cons (pv 0) (pa_cons (pe_glob (v := .ref C2) (by rfl) X.e2.g rfl) pa_nil))) (pa_cons (pe_callB call_isX (by rfl) T.isi (by decide +kernel) (pa_cons (pv 0) (pa_cons (pe_glob (v := .ref C3) (by rfl) X.e3.g rfl) pa_nil))) pa_nil))))))
      (pss_cons (ps_set (i := 1) scCls.nd rfl (Or.inl rfl) (pe_op op_cat (pv 1) (pe_lst (pa_cons (pe_callB call_isX (by rfl) T.isi (by decide +kernel) (pa_cons (pv 0) (pa_cons (pe_glob (v := .ref C4) (by rfl) X.e4.g rfl) pa_nil))) (pa_cons (pe_callB call_isX (by rfl) T.isi (by decide +kernel) (pa_cons (pv 0) (pa_cons (pe_glob (v := .ref C5) (by rfl) X.e5.g rfl) pa_nil))) (pa_cons (pe_callB call_isX (by rfl) T.isi (by decide +kernel) (pa_cons (pv 0) (pa_cons (pe_glob (v := .ref C6) (by rfl) X.e6.g rfl) pa_nil))) (pa_cons (pe_callB call_isX (by rfl) T.isi (by decide +kernel) (pa_cons (pv 0) (pa_cons (pe_glob (v := .ref C7) (by rfl) X.e7.g rfl) pa_nil))) pa_nil)))))))
      (pss_cons (ps_set (i := 1) scCls.nd rfl (Or.inl rfl) (pe_op op_cat (pv 1) (pe_lst (pa_cons (pe_callB call_isX (by rfl) T.isi (by decide +kernel) (pa_cons (pv 0) (pa_cons (pe_glob (v := .ref C8) (by rfl) X.e8.g rfl) pa_nil))) (pa_cons (pe_callB call_isX (by rfl) T.isi (by decide +kernel) (pa_cons (pv 0) (pa_cons (pe_glob (v := .ref C9) (by rfl) X.e9.g rfl) pa_nil))) (pa_cons (pe_callB call_isX (by rfl) T.isi (by decide +kernel) (pa_cons (pv 0) (pa_cons (pe_glob (v := .ref C10) (by rfl) X.e10.g rfl) pa_nil))) pa_nil))))))
      (pss_one (ps_ret (pe_op op_cat (pv 1) (pe_lst (pa_cons (pe_callB call_isX (by rfl) T.isi (by decide +kernel) (pa_cons (pv 0) (pa_cons (pe_glob (v := .ref C11) (by rfl) X.e11.g rfl) pa_nil))) (pa_cons (pe_callB call_isX (by rfl) T.isi (by decide +kernel) (pa_cons (pv 0) (pa_cons (pe_glob (v := .ref C12) (by rfl) X.e12.g rfl) pa_nil))) pa_nil)))))))), ?_⟩
    refine ⟨_, rfl, a, C, od, .ref C0, .ref C0, bs 0, rfl, TT, ErrAt.same (Same.refl H) ea, dk _ (Same.refl H), (fun u r => r), hk 0 (by decide), _, rfl, a, C, od, .ref C1, .ref C1, bs 1, rfl, TT, ErrAt.same (Same.refl H) ea, dk _ (Same.refl H), (fun u r => r), hk 1 (by decide), _, rfl, a, C, od, .ref C2, .ref C2, bs 2, rfl, TT, ErrAt.same (Same.refl H) ea, dk _ (Same.refl H), (fun u r => r), hk 2 (by decide), _, rfl, a, C, od, .ref C3, .ref C3, bs 3, rfl, TT, ErrAt.same (Same.refl H) ea, dk _ (Same.refl H), (fun u r => r), hk 3 (by decide), (by show 4 ≤ sizeLine; decide), fun l1 h1 => ?_⟩
    have s1 : Same H _ := Same.upd (o := .lst [.bl (bs 0), .bl (bs 1), .bl (bs 2), .bl (bs 3)]) h1
    refine ⟨_, rfl, _, rfl, a, C, od, .ref C4, .ref C4, bs 4, rfl, TT, ErrAt.same s1 ea, dk _ s1, (fun u r => r), hk 4 (by decide), _, rfl, a, C, od, .ref C5, .ref C5, bs 5, rfl, TT, ErrAt.same s1 ea, dk _ s1, (fun u r => r), hk 5 (by decide), _, rfl, a, C, od, .ref C6, .ref C6, bs 6, rfl, TT, ErrAt.same s1 ea, dk _ s1, (fun u r => r), hk 6 (by decide), _, rfl, a, C, od, .ref C7, .ref C7, bs 7, rfl, TT, ErrAt.same s1 ea, dk _ s1, (fun u r => r), hk 7 (by decide), (by show 4 ≤ sizeLine; decide), fun l2 h2 => ?_⟩
    have s2 := s1.trans (Same.upd (o := .lst [.bl (bs 4), .bl (bs 5), .bl (bs 6), .bl (bs 7)]) h2)
    refine ⟨l1, l2, _, _, rfl, rfl, Same.upd h2 _ _ upd_same, upd_same, (by show 8 ≤ sizeLine; decide), fun l3 h3 => ?_⟩
    have s3 := s2.trans (Same.upd (o := .lst ([.bl (bs 0), .bl (bs 1), .bl (bs 2), .bl (bs 3)] ++ [.bl (bs 4), .bl (bs 5), .bl (bs 6), .bl (bs 7)])) h3)
    refine ⟨_, rfl, _, rfl, a, C, od, .ref C8, .ref C8, bs 8, rfl, TT, ErrAt.same s3 ea, dk _ s3, (fun u r => r), hk 8 (by decide), _, rfl, a, C, od, .ref C9, .ref C9, bs 9, rfl, TT, ErrAt.same s3 ea, dk _ s3, (fun u r => r), hk 9 (by decide), _, rfl, a, C, od, .ref C10, .ref C10, bs 10, rfl, TT, ErrAt.same s3 ea, dk _ s3, (fun u r => r), hk 10 (by decide), (by show 3 ≤ sizeLine; decide), fun l4 h4 => ?_⟩
    have s4 := s3.trans (Same.upd (o := .lst [.bl (bs 8), .bl (bs 9), .bl (bs 10)]) h4)
    refine ⟨l3, l4, _, _, rfl, rfl, Same.upd h4 _ _ upd_same, upd_same, (by show 11 ≤ sizeLine; decide), fun l5 h5 => ?_⟩
    have s5 := s4.trans (Same.upd (o := .lst (([.bl (bs 0), .bl (bs 1), .bl (bs 2), .bl (bs 3)] ++ [.bl (bs 4), .bl (bs 5), .bl (bs 6), .bl (bs 7)]) ++ [.bl (bs 8), .bl (bs 9), .bl (bs 10)])) h5)
    refine ⟨_, rfl, _, rfl, a, C, od, .ref C11, .ref C11, bs 11, rfl, TT, ErrAt.same s5 ea, dk _ s5, (fun u r => r), hk 11 (by decide), _, rfl, a, C, od, .ref C12, .ref C12, bs 12, rfl, TT, ErrAt.same s5 ea, dk _ s5, (fun u r => r), hk 12 (by decide), (by show 2 ≤ sizeLine; decide), fun l6 h6 => ?_⟩
    have s6 := s5.trans (Same.upd (o := .lst [.bl (bs 11), .bl (bs 12)]) h6)
    refine ⟨l5, l6, _, _, rfl, rfl, Same.upd h6 _ _ upd_same, upd_same, (by show 13 ≤ sizeLine; decide), fun l7 h7 => ?_⟩
    exact k _ l7 (s6.trans (Same.upd h7)) upd_same
theorem ok_clsP {f : Addr} {fd : FuncData} {p : Addr × Obj} (F : Fun K "_law_classes" "_law_classes" sClasses f fd) (T : Blt mg) (X : Errs K mg C0 C1 C2 C3 C4 C5 C6 C7 C8 C9 C10 C11 C12 f0 f1 f2 f3 f4 f5 f6 f7 f8 f9 f10 f11 f12 d0 d1 d2 d3 d4 d5 d6 d7 d8 d9 d10 d11 d12) {cv : Value} {od : Option Addr} (hcv : p.2.cls = cv) (hod : p.2.dict = od) (hF : ∃ fv, p.2.data = .fields fv) : FnP P w K mg base 1 f fd ["_law_e"] p (spClsP K (cls C0 C1 C2 C3 C4 C5 C6 C7 C8 C9 C10 C11 C12) p.1 cv od) := by
  refine Ami.Fun.okP F scCls (fun cdv A outer s H vs Q E hot h => ?_)
  obtain ⟨C, bs, rfl, TT, hC', hd, hk, k⟩ := h
  have hC := hcv.trans hC'
  have dk : ∀ H1 : Hp, Same H H1 → ∀ d, p.2.dict = some d → ∃ fs, H1 d = some (exd d fs) := fun H1 s d e => by
    obtain ⟨fs, z⟩ := hd d (hod.symm.trans e)
    exact ⟨fs, s _ _ z⟩
  refine ⟨_, pss_cons (ps_set (i := 1) scCls.nd rfl (Or.inl rfl) (pe_lst (pa_cons (pe_callB (call_isP List.mem_cons_self) (by rfl) T.isi (by decide +kernel) (pa_cons (pv 0) (pa_cons (pe_glob (v := .ref C0) (by rfl) X.e0.g rfl) pa_nil))) (pa_cons (pe_callB (call_isP List.mem_cons_self) (by rfl) T.isi (by decide +kernel) (pa_cons (pv 0) (pa_cons (pe_glob (v := .ref C1) (by rfl) X.e1.g rfl) pa_nil))) (pa_cons (pe_callB (call_isP List.mem_cons_self) (by rfl) T.isi (by decide +kernel) (pa_cons (pv 0) (pa_cons (pe_glob (v := .ref C2) (by rfl) X.e2.g rfl) pa_nil))) (pa_cons (pe_callB (call_isP List.mem_cons_self) (by rfl) T.isi (by decide +kernel) (pa_cons (pv 0) (pa_cons (pe_glob (v := .ref C3) (by rfl) X.e3.g rfl) pa_nil))) pa_nil))))))
      (pss_cons (ps_set (i := 1) scCls.nd rfl (Or.inl rfl) (pe_op op_cat (pv 1) (pe_lst (pa_cons (pe_callB (call_isP List.mem_cons_self) (by rfl) T.isi (by decide +kernel) (pa_cons (pv 0) (pa_cons (pe_glob (v := .ref C4) (by rfl) X.e4.g rfl) pa_nil))) (pa_cons (pe_callB (call_isP List.mem_cons_self) (by rfl) T.isi (by decide +kernel) (pa_cons (pv 0) (pa_cons (pe_glob (v := .ref C5) (by rfl) X.e5.g rfl) pa_nil))) (pa_cons (pe_callB (call_isP List.mem_cons_self) (by rfl) T.isi (by decide +kernel) (pa_cons (pv 0) (pa_cons (pe_glob (v := .ref C6) (by rfl) X.e6.g rfl) pa_nil))) (pa_cons (pe_callB (call_isP List.mem_cons_self) (by rfl) T.isi (by decide +kernel) (pa_cons (pv 0) (pa_cons (pe_glob (v := .ref C7) (by rfl) X.e7.g rfl) pa_nil))) pa_nil)))))))
      (pss_cons (ps_set (i := 1) scCls.nd rfl (Or.inl rfl) (pe_op op_cat (pv 1) (pe_lst (pa_cons (pe_callB (call_isP List.mem_cons_self) (by rfl) T.isi (by decide +kernel) (pa_cons (pv 0) (pa_cons (pe_glob (v := .ref C8) (by rfl) X.e8.g rfl) pa_nil))) (pa_cons (pe_callB (call_isP List.mem_cons_self) (by rfl) T.isi (by decide +kernel) (pa_cons (pv 0) (pa_cons (pe_glob (v := .ref C9) (by rfl) X.e9.g rfl) pa_nil))) (pa_cons (pe_callB (call_isP List.mem_cons_self) (by rfl) T.isi (by decide +kernel) (pa_cons (pv 0) (pa_cons (pe_glob (v := .ref C10) (by rfl) X.e10.g rfl) pa_nil))) pa_nil))))))
      (pss_one (ps_ret (pe_op op_cat (pv 1) (pe_lst (pa_cons (pe_callB (call_isP List.mem_cons_self) (by rfl) T.isi (by decide +kernel) (pa_cons (pv 0) (pa_cons (pe_glob (v := .ref C11) (by rfl) X.e11.g rfl) pa_nil))) (pa_cons (pe_callB (call_isP List.mem_cons_self) (by rfl) T.isi (by decide +kernel) (pa_cons (pv 0) (pa_cons (pe_glob (v := .ref C12) (by rfl) X.e12.g rfl) pa_nil))) pa_nil)))))))), ?_⟩
  ·
    refine ⟨_, rfl, C, .ref C0, .ref C0, bs 0, rfl, TT, hC, hF, dk _ (Same.refl H), (fun u r => r), hk 0 (by decide), _, rfl, C, .ref C1, .ref C1, bs 1, rfl, TT, hC, hF, dk _ (Same.refl H), (fun u r => r), hk 1 (by decide), _, rfl, C, .ref C2, .ref C2, bs 2, rfl, TT, hC, hF, dk _ (Same.refl H), (fun u r => r), hk 2 (by decide), _, rfl, C, .ref C3, .ref C3, bs 3, rfl, TT, hC, hF, dk _ (Same.refl H), (fun u r => r), hk 3 (by decide), (by show 4 ≤ sizeLine; decide), fun l1 h1 => ?_⟩
    have s1 : Same H _ := Same.upd (o := .lst [.bl (bs 0), .bl (bs 1), .bl (bs 2), .bl (bs 3)]) h1
    refine ⟨_, rfl, _, rfl, C, .ref C4, .ref C4, bs 4, rfl, TT, hC, hF, dk _ s1, (fun u r => r), hk 4 (by decide), _, rfl, C, .ref C5, .ref C5, bs 5, rfl, TT, hC, hF, dk _ s1, (fun u r => r), hk 5 (by decide), _, rfl, C, .ref C6, .ref C6, bs 6, rfl, TT, hC, hF, dk _ s1, (fun u r => r), hk 6 (by decide), _, rfl, C, .ref C7, .ref C7, bs 7, rfl, TT, hC, hF, dk _ s1, (fun u r => r), hk 7 (by decide), (by show 4 ≤ sizeLine; decide), fun l2 h2 => ?_⟩
    have s2 := s1.trans (Same.upd (o := .lst [.bl (bs 4), .bl (bs 5), .bl (bs 6), .bl (bs 7)]) h2)
    refine ⟨l1, l2, _, _, rfl, rfl, Same.upd h2 _ _ upd_same, upd_same, (by show 8 ≤ sizeLine; decide), fun l3 h3 => ?_⟩
    have s3 := s2.trans (Same.upd (o := .lst ([.bl (bs 0), .bl (bs 1), .bl (bs 2), .bl (bs 3)] ++ [.bl (bs 4), .bl (bs 5), .bl (bs 6), .bl (bs 7)])) h3)
    refine ⟨_, rfl, _, rfl, C, .ref C8, .ref C8, bs 8, rfl, TT, hC, hF, dk _ s3, (fun u r => r), hk 8 (by decide), _, rfl, C, .ref C9, .ref C9, bs 9, rfl, TT, hC, hF, dk _ s3, (fun u r => r), hk 9 (by decide), _, rfl, C, .ref C10, .ref C10, bs 10, rfl, TT, hC, hF, dk _ s3, (fun u r => r), hk 10 (by decide), (by show 3 ≤ sizeLine; decide), fun l4 h4 => ?_⟩
    have s4 := s3.trans (Same.upd (o := .lst [.bl (bs 8), .bl (bs 9), .bl (bs 10)]) h4)
    refine ⟨l3, l4, _, _, rfl, rfl, Same.upd h4 _ _ upd_same, upd_same, (by show 11 ≤ sizeLine; decide), fun l5 h5 => ?_⟩
    have s5 := s4.trans (Same.upd (o := .lst (([.bl (bs 0), .bl (bs 1), .bl (bs 2), .bl (bs 3)] ++ [.bl (bs 4), .bl (bs 5), .bl (bs 6), .bl (bs 7)]) ++ [.bl (bs 8), .bl (bs 9), .bl (bs 10)])) h5)
    refine ⟨_, rfl, _, rfl, C, .ref C11, .ref C11, bs 11, rfl, TT, hC, hF, dk _ s5, (fun u r => r), hk 11 (by decide), _, rfl, C, .ref C12, .ref C12, bs 12, rfl, TT, hC, hF, dk _ s5, (fun u r => r), hk 12 (by decide), (by show 2 ≤ sizeLine; decide), fun l6 h6 => ?_⟩
    have s6 := s5.trans (Same.upd (o := .lst [.bl (bs 11), .bl (bs 12)]) h6)
    refine ⟨l5, l6, _, _, rfl, rfl, Same.upd h6 _ _ upd_same, upd_same, (by show 13 ≤ sizeLine; decide), fun l7 h7 => ?_⟩
    exact k _ l7 (s6.trans (Same.upd h7)) upd_same
end
end K80

set_option Elab.async false
set_option linter.all false
set_option maxRecDepth 100000
set_option maxHeartbeats 4000000
namespace K80
open PySem PySem.Spec PyProof.Rows L2 Ami
theorem eqv_bools : ∀ l : List Bool, PyData.eqvAll ((l.map V.bl).map fD) ((l.map V.bl).map fD) = true
  | [] => rfl
  | b :: l => by
    show (PyData.eqv (.bool b) (.bool b) && PyData.eqvAll ((l.map V.bl).map fD) ((l.map V.bl).map fD)) = true
    rw [eqv_bools l]
    cases b <;> rfl
/-- two rows of the same answers are not unlike -/
theorem ne_bools {K : PySem.W.Frag} {H : Hp} {a p : Addr} {l : List Bool} {Q : VK} (ha : SqL K H a (l.map V.bl)) (hp : SqL K H p (l.map V.bl)) (q : Q (.bl false) H) : rNeD K (.ref a) (.ref p) H Q :=
  ⟨_, _, .lst ha (dpAll_flat (all_bls l)), .lst hp (dpAll_flat (all_bls l)), shaped_list (all_bls l), shaped_list (all_bls l), by
    have e : PyData.eqv (.list ((l.map V.bl).map fD)) (.list ((l.map V.bl).map fD)) = true := eqv_bools l
    rw [e]; exact q⟩
theorem look1 (x : Str) (v : V) : [(x, v)].lookup x = some v := by simp [List.lookup]
section
variable {P : Program} {w : World} {K : PySem.W.Frag} {mg : Str → Option Value} {base : Heap} {C0 C1 C2 C3 C4 C5 C6 C7 C8 C9 C10 C11 C12 f0 f1 f2 f3 f4 f5 f6 f7 f8 f9 f10 f11 f12 : Addr} {d0 d1 d2 d3 d4 d5 d6 d7 d8 d9 d10 d11 d12 : FuncData}
/-- the attribute with a name -/
def spHeld (K : PySem.W.Frag) : Sp := fun vs H Q _ => ∃ (e C : Addr) (n : Nat) (v : V), vs = [.ref e, .str (fld n)] ∧ n < 10 ∧ EX K C ∧ Err H e C [(fld n, v)] ∧ PySem.W.findIn K (.ref C) (fld n) = some none ∧ Q v H
theorem scHeld : FnScope ["_law_e", "_law_mark"] ["_law_e", "_law_mark"] (defScope sHeld) := ⟨rfl, rfl, rfl, by decide +kernel, rfl, by decide +kernel, by decide +kernel⟩
theorem ok_held {f : Addr} {fd : FuncData} (F : Fun K "_law_held" "_law_held" sHeld f fd) : FnOk P w K mg base CX0 1 f fd ["_law_e", "_law_mark"] (spHeld K) := by
  refine F.ok scHeld (fun vs H Q E h => ?_) (fun cdv A outer s H vs Q E hr h => ?_)
  · obtain ⟨e, C, n, v, rfl, _⟩ := h
    rfl
  · obtain ⟨e, C, n, v, rfl, hn, T, ⟨d, h1, h2⟩, hno, k⟩ := h
    refine ⟨_, pss_cons (ps_if (pt_cmpR op_eq (pv 1) pe_str (nomark _)) (pss_one (ps_ret (pe_xget (pv 0)))) pss_nil)
      (pss_cons (ps_if (pt_cmpR op_eq (pv 1) pe_str (nomark _)) (pss_one (ps_ret (pe_xget (pv 0)))) pss_nil)
      (pss_cons (ps_if (pt_cmpR op_eq (pv 1) pe_str (nomark _)) (pss_one (ps_ret (pe_xget (pv 0)))) pss_nil)
      (pss_cons (ps_if (pt_cmpR op_eq (pv 1) pe_str (nomark _)) (pss_one (ps_ret (pe_xget (pv 0)))) pss_nil)
      (pss_cons (ps_if (pt_cmpR op_eq (pv 1) pe_str (nomark _)) (pss_one (ps_ret (pe_xget (pv 0)))) pss_nil)
      (pss_one (ps_ret (pe_ifExp (pt_cmpR op_eq (pv 1) pe_str (nomark _)) (pe_xget (pv 0)) (pe_xget (pv 0))))))))), ?_⟩
    have cases10 : n = 0 ∨ n = 1 ∨ n = 2 ∨ n = 3 ∨ n = 4 ∨ n = 5 ∨ n = 6 ∨ n = 7 ∨ n = 8 ∨ n = 9 := by omega
    rcases cases10 with rfl | rfl | rfl | rfl | rfl | rfl | rfl | rfl | rfl | rfl
    · exact ⟨_, rfl, rfl, _, rfl, ite_yes (by decide +kernel) ⟨_, rfl, e, C, d, _, v, rfl, T, h1, h2, hno, look1 _ v, k⟩⟩
    · refine ⟨_, rfl, rfl, _, rfl, ite_no (by decide +kernel) ?_⟩
      exact ⟨_, rfl, rfl, _, rfl, ite_yes (by decide +kernel) ⟨_, rfl, e, C, d, _, v, rfl, T, h1, h2, hno, look1 _ v, k⟩⟩
    · refine ⟨_, rfl, rfl, _, rfl, ite_no (by decide +kernel) ?_⟩
      refine ⟨_, rfl, rfl, _, rfl, ite_no (by decide +kernel) ?_⟩
      exact ⟨_, rfl, rfl, _, rfl, ite_yes (by decide +kernel) ⟨_, rfl, e, C, d, _, v, rfl, T, h1, h2, hno, look1 _ v, k⟩⟩
    · refine ⟨_, rfl, rfl, _, rfl, ite_no (by decide +kernel) ?_⟩
      refine ⟨_, rfl, rfl, _, rfl, ite_no (by decide +kernel) ?_⟩
      refine ⟨_, rfl, rfl, _, rfl, ite_no (by decide +kernel) ?_⟩
      exact ⟨_, rfl, rfl, _, rfl, ite_yes (by decide +kernel) ⟨_, rfl, e, C, d, _, v, rfl, T, h1, h2, hno, look1 _ v, k⟩⟩
    · refine ⟨_, rfl, rfl, _, rfl, ite_no (by decide +kernel) ?_⟩
      exact ⟨_, rfl, rfl, _, rfl, ite_yes (by decide +kernel) ⟨_, rfl, e, C, d, _, v, rfl, T, h1, h2, hno, look1 _ v, k⟩⟩
    · refine ⟨_, rfl, rfl, _, rfl, ite_no (by decide +kernel) ?_⟩
      refine ⟨_, rfl, rfl, _, rfl, ite_no (by decide +kernel) ?_⟩
      refine ⟨_, rfl, rfl, _, rfl, ite_no (by decide +kernel) ?_⟩
      refine ⟨_, rfl, rfl, _, rfl, ite_no (by decide +kernel) ?_⟩
      exact ⟨_, rfl, rfl, _, rfl, ite_yes (by decide +kernel) ⟨_, rfl, e, C, d, _, v, rfl, T, h1, h2, hno, look1 _ v, k⟩⟩
    · refine ⟨_, rfl, rfl, _, rfl, ite_no (by decide +kernel) ?_⟩
      refine ⟨_, rfl, rfl, _, rfl, ite_no (by decide +kernel) ?_⟩
      refine ⟨_, rfl, rfl, _, rfl, ite_no (by decide +kernel) ?_⟩
      refine ⟨_, rfl, rfl, _, rfl, ite_no (by decide +kernel) ?_⟩
      refine ⟨_, rfl, rfl, _, rfl, ite_no (by decide +kernel) ?_⟩
      exact ⟨_, rfl, rfl, _, rfl, ite_yes (by decide +kernel) ⟨_, rfl, e, C, d, _, v, rfl, T, h1, h2, hno, look1 _ v, k⟩⟩
    · refine ⟨_, rfl, rfl, _, rfl, ite_no (by decide +kernel) ?_⟩
      refine ⟨_, rfl, rfl, _, rfl, ite_no (by decide +kernel) ?_⟩
      refine ⟨_, rfl, rfl, _, rfl, ite_no (by decide +kernel) ?_⟩
      refine ⟨_, rfl, rfl, _, rfl, ite_no (by decide +kernel) ?_⟩
      refine ⟨_, rfl, rfl, _, rfl, ite_no (by decide +kernel) ?_⟩
      exact ⟨_, rfl, rfl, _, rfl, ite_yes (by decide +kernel) ⟨_, rfl, e, C, d, _, v, rfl, T, h1, h2, hno, look1 _ v, k⟩⟩
    · refine ⟨_, rfl, rfl, _, rfl, ite_no (by decide +kernel) ?_⟩
      refine ⟨_, rfl, rfl, _, rfl, ite_no (by decide +kernel) ?_⟩
      refine ⟨_, rfl, rfl, _, rfl, ite_no (by decide +kernel) ?_⟩
      refine ⟨_, rfl, rfl, _, rfl, ite_no (by decide +kernel) ?_⟩
      refine ⟨_, rfl, rfl, _, rfl, ite_no (by decide +kernel) ?_⟩
      exact ⟨_, rfl, rfl, _, rfl, ite_no (by decide +kernel) ⟨_, rfl, e, C, d, _, v, rfl, T, h1, h2, hno, look1 _ v, k⟩⟩
    · refine ⟨_, rfl, rfl, _, rfl, ite_no (by decide +kernel) ?_⟩
      refine ⟨_, rfl, rfl, _, rfl, ite_no (by decide +kernel) ?_⟩
      refine ⟨_, rfl, rfl, _, rfl, ite_no (by decide +kernel) ?_⟩
      refine ⟨_, rfl, rfl, _, rfl, ite_no (by decide +kernel) ?_⟩
      refine ⟨_, rfl, rfl, _, rfl, ite_no (by decide +kernel) ?_⟩
      exact ⟨_, rfl, rfl, _, rfl, ite_no (by decide +kernel) ⟨_, rfl, e, C, d, _, v, rfl, T, h1, h2, hno, look1 _ v, k⟩⟩
/-- what the law knows of the class at C, with its number -/
structure KitC (K : PySem.W.Frag) (CA : Nat → Addr) (R C : Addr) (n : Nat) : Prop where
  T : EX K C
  kit : ∀ k, k < 13 → PySem.W.kitOne K (.ref C) (.ref (CA k)) = some (decide (k = n))
  base : PySem.W.kitOne K (.ref C) (.ref R) = some true
  exc : PySem.W.kitOne K (.ref C) (.type "Exception") = some true
  not4 : PySem.W.kitAny K (.ref C) (["ValueError", "LookupError", "ArithmeticError", "TypeError"].map fun n => Value.type n) = some false
  not3 : PySem.W.kitAny K (.ref C) (["RuntimeError", "AttributeError", "KeyError"].map fun n => Value.type n) = some false
def spAlone (K : PySem.W.Frag) (CA : Nat → Addr) (R : Addr) : Sp := fun vs H Q _ => ∃ (a C : Addr) (od : Option Addr) (n : Nat), vs = [.ref a, .int (n : Int)] ∧ n < 13 ∧ KitC K CA R C n ∧ H a = some (exo a C od) ∧ (∀ d, od = some d → ∃ fs, H d = some (exd d fs)) ∧ ∀ H', Same H H' → Q (.bl true) H'
theorem scAlone : FnScope ["_law_e", "_law_at", "_law_k"] ["_law_e", "_law_at"] (defScope sAlone) := ⟨rfl, rfl, rfl, by decide +kernel, rfl, by decide +kernel, by decide +kernel⟩
theorem ok_alone {f fc R : Addr} {fd dc : FuncData} (F : Fun K "_law_is_alone" "_law_is_alone" sAlone f fd) (T : Blt mg) (X : Errs K mg C0 C1 C2 C3 C4 C5 C6 C7 C8 C9 C10 C11 C12 f0 f1 f2 f3 f4 f5 f6 f7 f8 f9 f10 f11 f12 d0 d1 d2 d3 d4 d5 d6 d7 d8 d9 d10 d11 d12) (gR : mg "ReadError" = some (.ref R)) (Dc : DefAt K mg "_law_classes" sClasses ["_law_e"] fc dc) : FnOk P w K mg base CX0 2 f fd ["_law_e", "_law_at"] (spAlone K (cls C0 C1 C2 C3 C4 C5 C6 C7 C8 C9 C10 C11 C12) R) := by
  have Gc : FnOk P w K mg base CX0 1 fc dc ["_law_e"] (spCls K (cls C0 C1 C2 C3 C4 C5 C6 C7 C8 C9 C10 C11 C12)) := ok_cls Dc.F T X
  refine F.ok scAlone (fun vs H Q E h => ?_) (fun cdv A outer s H vs Q E hr h => ?_)
  · obtain ⟨a, C, od, n, rfl, _⟩ := h
    rfl
  · obtain ⟨a, C, od, n, rfl, hn, KC, ea, hd, k⟩ := h
    have hu := hr.units
    have dk : ∀ H1 : Hp, Same H H1 → ∀ d, od = some d → ∃ fs, H1 d = some (exd d fs) := fun H1 s d e => by
      obtain ⟨fs, z⟩ := hd d e
      exact ⟨fs, s _ _ z⟩
    refine ⟨_, pss_cons (ps_if (PW.pt (pw_or (pt_cmpR (op_neD hu) (pc Dc Gc hr (pa_cons (pv 0) pa_nil)) (pe_lc (own := [("_law_k", 2)]) (g := gName 2) (tt := tYes) rfl scAlone.nd (pi_range1 (by rfl) T.range (pa_cons pe_int pa_nil))
          (blkOk_by (own := [("_law_k", 2)]) (N := ["_law_e", "_law_at", "_law_k"]) (sc := defScope sAlone) (by decide +kernel)) (fun _ _ _ _ _ => pg_name (i := 2) scAlone.nd rfl (Or.inl rfl)) (fun _ _ _ _ _ => pts_nil) (fun _ _ _ _ _ => pe_cmpR op_eq (pv 2) (pv 1) (nomark _))) (nomark _))
        (pw_or1 (pt_not (pt_val (pe_callB call_isX (by rfl) T.isi (by decide +kernel) (pa_cons (pv 0) (pa_cons (pe_glob (v := .ref R) (by rfl) gR rfl) pa_nil)))))))) (pss_one (ps_ret pe_bl)) pss_nil)
      (pss_cons (ps_if (PW.pt (pw_or (pt_not (pt_val (pe_callB call_isX (by rfl) T.isi (by decide +kernel) (pa_cons (pv 0) (pa_cons (pe_bltn (v := .ty "Exception") (by rfl) T.eE (by decide +kernel) rfl) pa_nil))))) (pw_or1 (pt_val (pe_callB call_isXs (by rfl) T.isi (by decide +kernel) (pa_cons (pv 0) (pa_cons (pe_tup (pa_cons (pe_bltn (v := .ty "ValueError") (by rfl) T.eV (by decide +kernel) rfl) (pa_cons (pe_bltn (v := .ty "LookupError") (by rfl) T.eL (by decide +kernel) rfl) (pa_cons (pe_bltn (v := .ty "ArithmeticError") (by rfl) T.eA (by decide +kernel) rfl) (pa_cons (pe_bltn (v := .ty "TypeError") (by rfl) T.eT (by decide +kernel) rfl) pa_nil))))) pa_nil))))))) (pss_one (ps_ret pe_bl)) pss_nil)
      (pss_one (ps_ret (pe_not (pe_callB call_isXs (by rfl) T.isi (by decide +kernel) (pa_cons (pv 0) (pa_cons (pe_tup (pa_cons (pe_bltn (v := .ty "RuntimeError") (by rfl) T.eR (by decide +kernel) rfl) (pa_cons (pe_bltn (v := .ty "AttributeError") (by rfl) T.eB (by decide +kernel) rfl) (pa_cons (pe_bltn (v := .ty "KeyError") (by rfl) T.eK (by decide +kernel) rfl) pa_nil)))) pa_nil))))))), ?_⟩
    refine ⟨_, rfl, a, C, od, (fun k => decide (k = n)), rfl, KC.T, exo_err ea, hd, KC.kit, fun H1 l s1 hl => ?_⟩
    refine ⟨_, rfl, by decide, by decide, fun L hL => ?_⟩
    refine lc_range (lo := 0) (n := 13) (fun i H' => H' = upd H1 L (.lst (((List.range i).map fun k => decide (k = n)).map V.bl))) rfl ?_ ?_
    · rintro i H2 hi rfl
      refine ⟨rfl, ?_⟩
      dsimp only [tYes]
      refine iteT ?_
      refine ⟨_, rfl, _, rfl, rfl, _, upd_same, ?_, ?_⟩
      · rw [List.length_map, List.length_map, List.length_range]; exact Nat.lt_of_lt_of_le hi (by decide)
      · have e : decide (V.int (0 + (i : Int)) = V.int (n : Int)) = decide (i = n) := decide_eq_decide.mpr ⟨fun h => by have := V.int.inj h; omega, fun h => by rw [h]; congr 1; omega⟩
        show upd (upd H1 L _) L (.lst (_ ++ [V.bl (decide (V.int (0 + (i : Int)) = V.int (n : Int)))])) = _
        rw [e, upd_upd, List.range_succ, List.map_append, List.map_append]; rfl
    rintro H2 rfl
    have s2 := s1.trans (Same.upd (o := .lst (((List.range 13).map fun k => decide (k = n)).map V.bl)) hL)
    refine ne_bools (l := (List.range 13).map fun k => decide (k = n)) (SqL.of (Same.upd hL _ _ hl)) (SqL.of upd_same) ?_
    refine ⟨_, rfl, iteF ?_⟩
    refine ⟨_, rfl, a, C, od, .ref R, .ref R, true, rfl, KC.T, (exo_err ea).same s2, dk _ s2, (fun u r => r), KC.base, _, rfl, iteF ?_⟩
    refine ⟨_, rfl, a, C, od, .ty "Exception", .type "Exception", true, rfl, KC.T, (exo_err ea).same s2, dk _ s2, (fun u r => r), KC.exc, _, rfl, iteF ?_⟩
    refine ⟨_, rfl, (by show 4 ≤ sizeLine; decide), fun t ht => ?_⟩
    have s3 := s2.trans (Same.upd (o := .tup [.ty "ValueError", .ty "LookupError", .ty "ArithmeticError", .ty "TypeError"]) ht)
    refine ⟨a, C, t, od, _, false, rfl, KC.T, (exo_err ea).same s3, dk _ s3, upd_same, KC.not4, _, rfl, iteF ?_⟩
    refine ⟨_, rfl, (by show 3 ≤ sizeLine; decide), fun t2 ht2 => ?_⟩
    have s4 := s3.trans (Same.upd (o := .tup [.ty "RuntimeError", .ty "AttributeError", .ty "KeyError"]) ht2)
    exact ⟨a, C, t2, od, _, false, rfl, KC.T, (exo_err ea).same s4, dk _ s4, upd_same, KC.not3, _, rfl, k _ s4⟩
end
end K80

set_option Elab.async false
set_option linter.all false
set_option maxRecDepth 100000
set_option maxHeartbeats 4000000
namespace K80
open PySem PySem.Spec PyProof.Rows L2 Ami
theorem takesN {X : Cx} : L2N.Takes X (fun _ _ _ _ => False) := fun _ _ x => by
  obtain ⟨_, _, _, _, _, _, _, _, _, _, _, _, _, _, _, _, z⟩ := x
  exact z.elim
/-- raise C(..) -/
def tRaiseC (K : PySem.W.Frag) (H0 : Hp) (W : WX) (te : TE) : TS := fun _ σ H => te σ H fun x H1 => ∃ (a C : Addr) (od : Option Addr), x = .ref a ∧ H1 a = some (exo a C od) ∧ Fr0 H0 a ∧ EX K C ∧ W (.ref C) od σ (delH H1 a)
theorem ps_raiseC {X : Cx} {W : WX} {e : Expr} {te : TE} {pos : Pos} {K0 : PySem.W.Frag} {H0 : Hp} (hK : X.K = K0) (hH : X.H_0 = H0) (hc : X.calm = true) (hx : X.ex = []) (tk : L2N.Takes X W) (he : PE X e te) : PS X (.Raise (some e) none pos) (tRaiseC K0 H0 W te) := by
  subst hK hH
  exact L2N.ps_raise hc tk (pmk_made hx he)
/-- which class is raised for a number -/
def idx : Nat → Nat
  | 0 => 0
  | 1 => 8
  | 2 => 9
  | 3 => 12
  | _ => 10
theorem del_same_of {H H1 : Hp} {a : Addr} (ha : H a = none) (s : Same H H1) : Same H (delH H1 a) := fun b o e => by
  rw [delH_ne (ne_of_none e ha)]; exact s b o e
section
variable {P : Program} {w : World} {K : PySem.W.Frag} {mg : Str → Option Value} {base : Heap} {C0 C1 C2 C3 C4 C5 C6 C7 C8 C9 C10 C11 C12 f0 f1 f2 f3 f4 f5 f6 f7 f8 f9 f10 f11 f12 : Addr} {d0 d1 d2 d3 d4 d5 d6 d7 d8 d9 d10 d11 d12 : FuncData}
def spRaised : Sp := fun vs H Q _ => ∃ (n : Nat) (v : V), vs = [.int (n : Int), v] ∧ n < 5 ∧ ∀ (H' : Hp) (l : Addr), Same H H' → H' l = some (.lst ((List.range 13).map fun k => V.bl (decide (k = idx n)))) → Q (.ref l) H'
theorem scRaised : FnScope ["_law_at", "_law_value_here", "_law_found", "_law_e"] ["_law_at", "_law_value_here"] (defScope sRaised) := ⟨rfl, rfl, rfl, by decide +kernel, rfl, by decide +kernel, by decide +kernel⟩
theorem ok_raised {f fc R : Addr} {fd dc : FuncData} (F : Fun K "_law_raised" "_law_raised" sRaised f fd) (T : Blt mg) (X : Errs K mg C0 C1 C2 C3 C4 C5 C6 C7 C8 C9 C10 C11 C12 f0 f1 f2 f3 f4 f5 f6 f7 f8 f9 f10 f11 f12 d0 d1 d2 d3 d4 d5 d6 d7 d8 d9 d10 d11 d12) (gR : mg "ReadError" = some (.ref R)) (Dc : DefAt K mg "_law_classes" sClasses ["_law_e"] fc dc)
    (k0 : KitC K (cls C0 C1 C2 C3 C4 C5 C6 C7 C8 C9 C10 C11 C12) R C0 0) (m0 : PySem.W.exmOne K (.ref C0) (.ref R) = some true)
    (k8 : KitC K (cls C0 C1 C2 C3 C4 C5 C6 C7 C8 C9 C10 C11 C12) R C8 8) (m8 : PySem.W.exmOne K (.ref C8) (.ref R) = some true)
    (k9 : KitC K (cls C0 C1 C2 C3 C4 C5 C6 C7 C8 C9 C10 C11 C12) R C9 9) (m9 : PySem.W.exmOne K (.ref C9) (.ref R) = some true)
    (k12 : KitC K (cls C0 C1 C2 C3 C4 C5 C6 C7 C8 C9 C10 C11 C12) R C12 12) (m12 : PySem.W.exmOne K (.ref C12) (.ref R) = some true)
    (k10 : KitC K (cls C0 C1 C2 C3 C4 C5 C6 C7 C8 C9 C10 C11 C12) R C10 10) (m10 : PySem.W.exmOne K (.ref C10) (.ref R) = some true)
    : FnOk P w K mg base CX0 3 f fd ["_law_at", "_law_value_here"] spRaised := by
  refine F.ok scRaised (fun vs H Q E h => ?_) (fun cdv A outer s H vs Q E hr h => ?_)
  · obtain ⟨n, v, rfl, _⟩ := h
    rfl
  · obtain ⟨n, v, rfl, hn, k⟩ := h
    refine ⟨_, pss_cons (ps_set (i := 2) scRaised.nd rfl (Or.inl rfl) pe_non)
      (pss_cons (L2N.ps_try_as (i := 3) rfl rfl scRaised.nd rfl rfl ⟨rfl, by decide, .inl gR⟩ takesN
        (fun W pn xe tk _ => pss_cons (ps_if (pt_cmpR op_eq (pv 0) pe_int (nomark _)) (pss_one (ps_raiseC (K0 := K) (H0 := H) rfl rfl rfl rfl tk (pe_made X.e0.T X.e0.iC X.e0.tI (ok_BadFormat X.e0.F) hr (kp_BadFormat X.e0.F) pass0 X.e0.g (pa_cons (pv 1) pa_nil) pk_nil))) pss_nil)
          (pss_cons (ps_if (pt_cmpR op_eq (pv 0) pe_int (nomark _)) (pss_one (ps_raiseC (K0 := K) (H0 := H) rfl rfl rfl rfl tk (pe_made X.e8.T X.e8.iC X.e8.tI (ok_NameTaken X.e8.F) hr (kp_NameTaken X.e8.F) pass0 X.e8.g (pa_cons (pv 1) pa_nil) pk_nil))) pss_nil)
          (pss_cons (ps_if (pt_cmpR op_eq (pv 0) pe_int (nomark _)) (pss_one (ps_raiseC (K0 := K) (H0 := H) rfl rfl rfl rfl tk (pe_made X.e9.T X.e9.iC X.e9.tI (ok_UnknownName X.e9.F) hr (kp_UnknownName X.e9.F) pass0 X.e9.g (pa_cons (pv 1) pa_nil) pk_nil))) pss_nil)
          (pss_cons (ps_if (pt_cmpR op_eq (pv 0) pe_int (nomark _)) (pss_one (ps_raiseC (K0 := K) (H0 := H) rfl rfl rfl rfl tk (pe_made X.e12.T X.e12.iC X.e12.tI (ok_NotEnough X.e12.F) hr (kp_NotEnough X.e12.F) pass0 X.e12.g (pa_cons (pv 1) (pa_cons (pv 1) pa_nil)) pk_nil))) pss_nil)
          (pss_one (ps_raiseC (K0 := K) (H0 := H) rfl rfl rfl rfl tk (pe_madeK X.e10.T X.e10.iC X.e10.tI (ok_OtherLetters X.e10.F) hr (kp_OtherLetters X.e10.F) pass0 X.e10.g pk_nil)))))))
        (fun a oe cv od pn hz hf => pss_one (ps_set (i := 2) scRaised.nd rfl (Or.inl rfl) (pe_callP (p := (a, oe)) (ok_clsP (p := (a, oe)) Dc.F T X hz.1 hz.2.1 hf) (L2H.RoomH.mono (j := 1) (k := 2) ⟨hr.dp, hr.un⟩ (by decide)) ⟨rfl, (by obtain ⟨fv, e⟩ := hf; exact ⟨fv, e, hz.2.2 fv e⟩)⟩ List.mem_cons_self (by rfl) Dc.g Dc.F.kp Dc.b rfl (pa_cons (pv 3) pa_nil)
          (fun σ H Q h => by obtain ⟨v, e, q⟩ := h; exact ⟨v, e, rfl, q⟩)))))
      (pss_one (ps_ret (pv 2)))), ?_⟩
    refine ⟨_, rfl, ?_⟩
    have cases5 : n = 0 ∨ n = 1 ∨ n = 2 ∨ n = 3 ∨ n = 4 := by omega
    rcases cases5 with rfl | rfl | rfl | rfl | rfl
    · refine ⟨rfl, _, rfl, ite_yes (by decide) ?_⟩
      refine ⟨_, rfl, (by show 1 ≤ 1000; decide), fun a ha => ⟨a, C0, v, rfl, X.e0.T, X.n0a, upd_same, fun dx hd ne => ⟨rfl, ⟨some dx, upd_same⟩, ?_⟩⟩⟩
      refine ⟨a, C0, some dx, rfl, upd_same, fr0_none ha, X.e0.T, true, m0, fun _ b hb => ?_, fun q => Bool.noConfusion q⟩
      refine ⟨_, rfl, C0, (fun q => decide (q = 0)), rfl, X.e0.T, rfl, (fun d e => by cases e; exact ⟨_, by rw [delH_ne ne, upd_ne ne, upd_same]⟩), k0.kit, fun H' l s hl => ?_⟩
      exact ⟨_, rfl, k _ l ((del_same_of ha (made_err ha hd ne).1).trans s) hl⟩
    · refine ⟨rfl, _, rfl, ite_no (by decide) ?_⟩
      refine ⟨_, rfl, rfl, _, rfl, ite_yes (by decide) ?_⟩
      refine ⟨_, rfl, (by show 1 ≤ 1000; decide), fun a ha => ⟨a, C8, v, rfl, X.e8.T, X.n8a, upd_same, fun dx hd ne => ⟨rfl, ⟨some dx, upd_same⟩, ?_⟩⟩⟩
      refine ⟨a, C8, some dx, rfl, upd_same, fr0_none ha, X.e8.T, true, m8, fun _ b hb => ?_, fun q => Bool.noConfusion q⟩
      refine ⟨_, rfl, C8, (fun q => decide (q = 8)), rfl, X.e8.T, rfl, (fun d e => by cases e; exact ⟨_, by rw [delH_ne ne, upd_ne ne, upd_same]⟩), k8.kit, fun H' l s hl => ?_⟩
      exact ⟨_, rfl, k _ l ((del_same_of ha (made_err ha hd ne).1).trans s) hl⟩
    · refine ⟨rfl, _, rfl, ite_no (by decide) ?_⟩
      refine ⟨_, rfl, rfl, _, rfl, ite_no (by decide) ?_⟩
      refine ⟨_, rfl, rfl, _, rfl, ite_yes (by decide) ?_⟩
      refine ⟨_, rfl, (by show 1 ≤ 1000; decide), fun a ha => ⟨a, C9, v, rfl, X.e9.T, X.n9a, upd_same, fun dx hd ne => ⟨rfl, ⟨some dx, upd_same⟩, ?_⟩⟩⟩
      refine ⟨a, C9, some dx, rfl, upd_same, fr0_none ha, X.e9.T, true, m9, fun _ b hb => ?_, fun q => Bool.noConfusion q⟩
      refine ⟨_, rfl, C9, (fun q => decide (q = 9)), rfl, X.e9.T, rfl, (fun d e => by cases e; exact ⟨_, by rw [delH_ne ne, upd_ne ne, upd_same]⟩), k9.kit, fun H' l s hl => ?_⟩
      exact ⟨_, rfl, k _ l ((del_same_of ha (made_err ha hd ne).1).trans s) hl⟩
    · refine ⟨rfl, _, rfl, ite_no (by decide) ?_⟩
      refine ⟨_, rfl, rfl, _, rfl, ite_no (by decide) ?_⟩
      refine ⟨_, rfl, rfl, _, rfl, ite_no (by decide) ?_⟩
      refine ⟨_, rfl, rfl, _, rfl, ite_yes (by decide) ?_⟩
      refine ⟨_, rfl, _, rfl, (by show 2 ≤ 1000; decide), fun a ha => ⟨a, C12, v, v, rfl, X.e12.T, X.n12a, X.n12b, upd_same, fun dx hd ne => ⟨rfl, ⟨some dx, by rw [upd_ne (Ne.symm ne), upd_same]⟩, ?_⟩⟩⟩
      refine ⟨a, C12, some dx, rfl, (by rw [upd_ne (Ne.symm ne), upd_same]), fr0_none ha, X.e12.T, true, m12, fun _ b hb => ?_, fun q => Bool.noConfusion q⟩
      refine ⟨_, rfl, C12, (fun q => decide (q = 12)), rfl, X.e12.T, rfl, (fun d e => by cases e; exact ⟨_, by rw [delH_ne ne, upd_same]⟩), k12.kit, fun H' l s hl => ?_⟩
      exact ⟨_, rfl, k _ l ((del_same_of ha (made_err2 ha hd ne).1).trans s) hl⟩
    · refine ⟨rfl, _, rfl, ite_no (by decide) ?_⟩
      refine ⟨_, rfl, rfl, _, rfl, ite_no (by decide) ?_⟩
      refine ⟨_, rfl, rfl, _, rfl, ite_no (by decide) ?_⟩
      refine ⟨_, rfl, rfl, _, rfl, ite_no (by decide) ?_⟩
      refine ⟨Nat.zero_le _, fun a ha => ⟨a, rfl, rfl, ⟨none, upd_same⟩, ?_⟩⟩
      refine ⟨a, C10, none, rfl, upd_same, fr0_none ha, X.e10.T, true, m10, fun _ b hb => ?_, fun q => Bool.noConfusion q⟩
      refine ⟨_, rfl, C10, (fun q => decide (q = 10)), rfl, X.e10.T, rfl, (fun d e => by cases e), k10.kit, fun H' l s hl => ?_⟩
      exact ⟨_, rfl, k _ l ((del_same_of ha (Same.upd ha)).trans s) hl⟩
end
end K80

set_option Elab.async false
set_option linter.all false
set_option maxRecDepth 100000
set_option maxHeartbeats 8000000
namespace K80
open PySem PySem.Spec PyProof.Rows L2 Ami
theorem look_a (x y : Str) (v z : V) : [(y, z), (x, v)].lookup y = some z := by simp [List.lookup]
theorem look_b {x y : Str} (h : ¬ x = y) (v z : V) : [(y, z), (x, v)].lookup x = some v := by
  rw [lookup_put, if_neg h]
  exact look1 x v
theorem two_shown {d1 d2 : PyData} (h1 : d1.leavesShort 64 = true) (h2 : d2.leavesShort 64 = true) (b1 : d1.bulk + 8 ≤ 13 * 2 ^ 2) (b2 : d2.bulk + 8 ≤ 13 * 2 ^ 2) : (PyData.list [d1, d2]).shown.length ≤ sizeLine := by
  have hl : (PyData.list [d1, d2]).leavesShort 64 = true := by
    show (d1.leavesShort 64 && (d2.leavesShort 64 && true)) = true
    rw [h1, h2]; rfl
  have q := PyData.shown_le_bulk 64 (by decide) _ hl
  have e : (PyData.list [d1, d2]).bulk = d1.bulk + 1 + (d2.bulk + 1 + 0) := rfl
  rw [e] at q
  rw [sizeLine_eq]
  omega
def spLaw (K : PySem.W.Frag) : Sp := fun vs H Q _ => ∃ (a : Addr) (ns : List Int), vs = [.ref a] ∧ SqL K H a (ns.map V.int) ∧ ns.length ≤ 63 ∧ ∀ H', Q (.bl true) H'
section
variable {P : Program} {w : World} {K : PySem.W.Frag} {mg : Str → Option Value} {base : Heap} {C0 C1 C2 C3 C4 C5 C6 C7 C8 C9 C10 C11 C12 f0 f1 f2 f3 f4 f5 f6 f7 f8 f9 f10 f11 f12 : Addr} {d0 d1 d2 d3 d4 d5 d6 d7 d8 d9 d10 d11 d12 : FuncData}
theorem errs_one (X : Errs K mg C0 C1 C2 C3 C4 C5 C6 C7 C8 C9 C10 C11 C12 f0 f1 f2 f3 f4 f5 f6 f7 f8 f9 f10 f11 f12 d0 d1 d2 d3 d4 d5 d6 d7 d8 d9 d10 d11 d12) : ∀ i, i < 10 → EX K ((cls C0 C1 C2 C3 C4 C5 C6 C7 C8 C9 C10 C11 C12) i) ∧ PySem.W.findIn K (.ref ((cls C0 C1 C2 C3 C4 C5 C6 C7 C8 C9 C10 C11 C12) i)) (fld i) = some none := by
  intro i hi
  have cases10 : i = 0 ∨ i = 1 ∨ i = 2 ∨ i = 3 ∨ i = 4 ∨ i = 5 ∨ i = 6 ∨ i = 7 ∨ i = 8 ∨ i = 9 := by omega
  rcases cases10 with rfl | rfl | rfl | rfl | rfl | rfl | rfl | rfl | rfl | rfl
  · exact ⟨X.e0.T, X.n0a⟩
  · exact ⟨X.e1.T, X.n1a⟩
  · exact ⟨X.e2.T, X.n2a⟩
  · exact ⟨X.e3.T, X.n3a⟩
  · exact ⟨X.e4.T, X.n4a⟩
  · exact ⟨X.e5.T, X.n5a⟩
  · exact ⟨X.e6.T, X.n6a⟩
  · exact ⟨X.e7.T, X.n7a⟩
  · exact ⟨X.e8.T, X.n8a⟩
  · exact ⟨X.e9.T, X.n9a⟩
theorem scLaw : FnScope ["_law_script", "_law_deck_here", "_law_at", "_law_value_here", "_law_shown", "_law_placed", "_law_named", "_law_mark", "_law_e", "_law_first", "_law_second", "_law_k", "_law_m"] ["_law_script"] (defScope sLaw) := ⟨rfl, rfl, rfl, by decide +kernel, rfl, by decide +kernel, by decide +kernel⟩
theorem ok_law {f R fk fw fp fv fo fh fc fa fr : Addr} {fd dk dw dp dV dO dh dc da dr : FuncData} (F : Fun K "law" "law" sLaw f fd) (T : Blt mg) (X : Errs K mg C0 C1 C2 C3 C4 C5 C6 C7 C8 C9 C10 C11 C12 f0 f1 f2 f3 f4 f5 f6 f7 f8 f9 f10 f11 f12 d0 d1 d2 d3 d4 d5 d6 d7 d8 d9 d10 d11 d12) (gR : mg "ReadError" = some (.ref R))
    (Dk : DefAt K mg "_law_deck" sDeck ["_law_script"] fk dk) (Dw : DefAt K mg "_law_draw" sDraw ["_law_deck_here", "_law_many"] fw dw) (Dp : DefAt K mg "_law_pick" sPick ["_law_deck_here", "_law_some"] fp dp) (Dv : DefAt K mg "_law_value" sValue ["_law_deck_here", "_law_deep"] fv dV)
    (Do : DefAt K mg "_law_one" sOne ["_law_at", "_law_value_here"] fo dO) (Dh : DefAt K mg "_law_held" sHeld ["_law_e", "_law_mark"] fh dh) (Dc : DefAt K mg "_law_classes" sClasses ["_law_e"] fc dc) (Da : DefAt K mg "_law_is_alone" sAlone ["_law_e", "_law_at"] fa da)
    (Dr : DefAt K mg "_law_raised" sRaised ["_law_at", "_law_value_here"] fr dr) (KX : ∀ k, k < 13 → KitC K (cls C0 C1 C2 C3 C4 C5 C6 C7 C8 C9 C10 C11 C12) R ((cls C0 C1 C2 C3 C4 C5 C6 C7 C8 C9 C10 C11 C12) k) k) (mX : ∀ k, k < 13 → PySem.W.exmOne K (.ref ((cls C0 C1 C2 C3 C4 C5 C6 C7 C8 C9 C10 C11 C12) k)) (.ref R) = some true)
    (qR : PySem.W.excIn K R eTail "Exception.__new__" = true) (kR : PySem.W.keepIn K (.ref R) = true) (TR : EX K R) (kitR : ∀ k, k < 13 → PySem.W.kitOne K (.ref R) (.ref ((cls C0 C1 C2 C3 C4 C5 C6 C7 C8 C9 C10 C11 C12) k)) = some false) :
    FnG P w K mg base CX0 7 f fd ["_law_script"] (spLaw K) := by
  have Gk : FnOk P w K mg base CX0 1 fk dk ["_law_script"] (spDeck K) := ok_deck Dk.F T
  have Gv : FnOk P w K mg base CX0 6 fv dV ["_law_deck_here", "_law_deep"] (spValue K 3) := ok_value Dv T Dw Dp 3
  have Go : FnOk P w K mg base CX0 3 fo dO ["_law_at", "_law_value_here"] (spOne (cls C0 C1 C2 C3 C4 C5 C6 C7 C8 C9 C10 C11 C12)) := ok_one Do.F X
  have Gh : FnOk P w K mg base CX0 1 fh dh ["_law_e", "_law_mark"] (spHeld K) := ok_held Dh.F
  have Gc : FnOk P w K mg base CX0 1 fc dc ["_law_e"] (spCls K (cls C0 C1 C2 C3 C4 C5 C6 C7 C8 C9 C10 C11 C12)) := ok_cls Dc.F T X
  have Ga : FnOk P w K mg base CX0 2 fa da ["_law_e", "_law_at"] (spAlone K (cls C0 C1 C2 C3 C4 C5 C6 C7 C8 C9 C10 C11 C12) R) := ok_alone Da.F T X gR Dc
  have Gr : FnOk P w K mg base CX0 3 fr dr ["_law_at", "_law_value_here"] spRaised := ok_raised Dr.F T X gR Dc (KX 0 (by decide)) (mX 0 (by decide)) (KX 8 (by decide)) (mX 8 (by decide)) (KX 9 (by decide)) (mX 9 (by decide)) (KX 12 (by decide)) (mX 12 (by decide)) (KX 10 (by decide)) (mX 10 (by decide))
  refine Ami.Fun.okG F scLaw (fun vs H Q E h => ?_) (fun cdv A outer s H vs Q E hg hr h => ?_)
  · obtain ⟨a, ns, rfl, _⟩ := h
    rfl
  · obtain ⟨a, ns, rfl, hS, hlen, k⟩ := h
    have hr1 := hr.mono (j := 1) (by decide)
    have hr2 := hr.mono (j := 2) (by decide)
    have hr3 := hr.mono (j := 3) (by decide)
    have hgu := guards_deeper (envOfC "law" (defScope sLaw) s.heap.objs.size f cdv) hg
    have hun := hr.units
    refine ⟨_, pss_cons (ps_set (i := 1) scLaw.nd rfl (Or.inl rfl) (pc Dk Gk hr1 (pa_cons (pv 0) pa_nil)))
      (pss_cons (ps_for PassesOwn.never rfl (pi_range1 (by rfl) T.range (pa_cons pe_int pa_nil)) (pg_name (i := 2) scLaw.nd rfl (Or.inl rfl))
        (pss_cons (ps_set (i := 3) scLaw.nd rfl (Or.inl rfl) (pc Dv Gv hr (pa_cons (pv 1) (pa_cons pe_int pa_nil))))
        (pss_cons (ps_set (i := 4) scLaw.nd rfl (Or.inl rfl) (pe_callB (cr_reprA hgu hun) (by rfl) T.repr (by decide +kernel) (pa_cons (pv 3) pa_nil)))
        (pss_cons (ps_asg (pc Do Go hr3 (pa_cons (pv 2) (pa_cons (pv 3) pa_nil))) (pg_tup (by rfl) (pgs_cons (pg_name (i := 5) scLaw.nd rfl (Or.inl rfl)) (pgs_cons (pg_name (i := 6) scLaw.nd rfl (Or.inl rfl)) (pgs_cons (pg_name (i := 7) scLaw.nd rfl (Or.inl rfl)) pgs_nil)))))
        (pss_one (ps_for PassesOwn.never rfl (pi_tup (pe_tup (pa_cons (pv 5) (pa_cons (pv 6) pa_nil)))) (pg_name (i := 8) scLaw.nd rfl (Or.inl rfl))
          (pss_one (ps_if (PW.pt (pw_or (pt_cmpR op_ne (pe_callB (cr_reprA hgu hun) (by rfl) T.repr (by decide +kernel) (pa_cons (pc Dh Gh hr1 (pa_cons (pv 8) (pa_cons (pv 7) pa_nil))) pa_nil)) (pv 4) (nomark _)) (pw_or (pt_cmpR op_ne (pe_callB (cr_reprA hgu hun) (by rfl) T.repr (by decide +kernel) (pa_cons (pv 3) pa_nil)) (pv 4) (nomark _)) (pw_or1 (pt_not (pt_val (pc Da Ga hr2 (pa_cons (pv 8) (pa_cons (pv 2) pa_nil))))))))) (pss_one (ps_ret pe_bl)) pss_nil))))))))
      (pss_cons (ps_par (i := 9) (j := 10) rfl scLaw.nd rfl rfl (by decide) rfl rfl (pa_cons (pc Dv Gv hr (pa_cons (pv 1) (pa_cons pe_int pa_nil))) (pa_cons (pc Dv Gv hr (pa_cons (pv 1) (pa_cons pe_int pa_nil))) pa_nil)) (by rfl))
      (pss_cons (ps_for PassesOwn.never rfl (pi_tup (pe_tup (pa_cons (pe_made X.e11.T X.e11.iC X.e11.tI (ok_TwoReadings X.e11.F) hr2 (kp_TwoReadings X.e11.F) pass0 X.e11.g (pa_cons (pv 9) (pa_cons (pv 10) pa_nil)) pk_nil) (pa_cons (pe_madeK X.e11.T X.e11.iC X.e11.tI (ok_TwoReadings X.e11.F) hr2 (kk_TwoReadings X.e11.F) pass0 X.e11.g (pk_cons (pv 10) (pk_cons (pv 9) pk_nil))) pa_nil)))) (pg_name (i := 8) scLaw.nd rfl (Or.inl rfl))
        (pss_one (ps_if (PW.pt (pw_or (pt_cmpR op_ne (pe_callB (cr_reprA hgu hun) (by rfl) T.repr (by decide +kernel) (pa_cons (pe_lst (pa_cons (pe_xget (pv 8)) (pa_cons (pe_xget (pv 8)) pa_nil))) pa_nil)) (pe_callB (cr_reprA hgu hun) (by rfl) T.repr (by decide +kernel) (pa_cons (pe_lst (pa_cons (pv 9) (pa_cons (pv 10) pa_nil))) pa_nil)) (nomark _)) (pw_or1 (pt_not (pt_val (pc Da Ga hr2 (pa_cons (pv 8) (pa_cons pe_int pa_nil)))))))) (pss_one (ps_ret pe_bl)) pss_nil)))
      (pss_cons (ps_for PassesOwn.never rfl (pi_tup (pe_tup (pa_cons (pe_made X.e12.T X.e12.iC X.e12.tI (ok_NotEnough X.e12.F) hr2 (kp_NotEnough X.e12.F) pass0 X.e12.g (pa_cons (pv 9) (pa_cons (pv 10) pa_nil)) pk_nil) (pa_cons (pe_madeK X.e12.T X.e12.iC X.e12.tI (ok_NotEnough X.e12.F) hr2 (kk_NotEnough X.e12.F) pass0 X.e12.g (pk_cons (pv 10) (pk_cons (pv 9) pk_nil))) pa_nil)))) (pg_name (i := 8) scLaw.nd rfl (Or.inl rfl))
        (pss_one (ps_if (PW.pt (pw_or (pt_cmpR op_ne (pe_callB (cr_reprA hgu hun) (by rfl) T.repr (by decide +kernel) (pa_cons (pe_lst (pa_cons (pe_xget (pv 8)) (pa_cons (pe_xget (pv 8)) pa_nil))) pa_nil)) (pe_callB (cr_reprA hgu hun) (by rfl) T.repr (by decide +kernel) (pa_cons (pe_lst (pa_cons (pv 9) (pa_cons (pv 10) pa_nil))) pa_nil)) (nomark _)) (pw_or1 (pt_not (pt_val (pc Da Ga hr2 (pa_cons (pv 8) (pa_cons pe_int pa_nil)))))))) (pss_one (ps_ret pe_bl)) pss_nil)))
      (pss_cons (ps_if (PW.pt (pw_or (pt_not (pt_val (pc Da Ga hr2 (pa_cons (pe_madeK X.e10.T X.e10.iC X.e10.tI (ok_OtherLetters X.e10.F) hr2 (kp_OtherLetters X.e10.F) pass0 X.e10.g pk_nil) (pa_cons pe_int pa_nil)))))
          (pw_or1 (pt_cmpR op_in_seq pe_bl (pc Dc Gc hr1 (pa_cons (pe_exc1 PySem.F.excBase_Exception qR gR kR (by rfl) pe_str) pa_nil)) (by rfl))))) (pss_one (ps_ret pe_bl)) pss_nil)
      (pss_cons (ps_for PassesOwn.never rfl (pi_tup (pe_tup (pa_cons (pe_tup (pa_cons pe_int (pa_cons pe_int pa_nil))) (pa_cons (pe_tup (pa_cons pe_int (pa_cons pe_int pa_nil))) (pa_cons (pe_tup (pa_cons pe_int (pa_cons pe_int pa_nil))) (pa_cons (pe_tup (pa_cons pe_int (pa_cons pe_int pa_nil))) (pa_cons (pe_tup (pa_cons pe_int (pa_cons pe_int pa_nil))) pa_nil))))))) (pg_tup (by rfl) (pgs_cons (pg_name (i := 2) scLaw.nd rfl (Or.inl rfl)) (pgs_cons (pg_name (i := 11) scLaw.nd rfl (Or.inr rfl)) pgs_nil)))
        (pss_one (ps_if (pt_cmpR (op_neD hun) (pc Dr Gr hr3 (pa_cons (pv 2) (pa_cons (pv 9) pa_nil))) (pe_lc (own := [("_law_m", 12)]) (g := gName 12) (tt := tYes) rfl scLaw.nd (pi_range1 (by rfl) T.range (pa_cons pe_int pa_nil))
            (blkOk_by (own := [("_law_m", 12)]) (N := ["_law_script", "_law_deck_here", "_law_at", "_law_value_here", "_law_shown", "_law_placed", "_law_named", "_law_mark", "_law_e", "_law_first", "_law_second", "_law_k", "_law_m"]) (sc := defScope sLaw) (by decide +kernel)) (fun _ _ _ _ _ => pg_name (i := 12) scLaw.nd rfl (Or.inl rfl)) (fun _ _ _ _ _ => pts_nil) (fun _ _ _ _ _ => pe_cmpR op_eq (pv 12) (pv 11) (nomark _))) (nomark _)) (pss_one (ps_ret pe_bl)) pss_nil)))
      (pss_one (ps_ret pe_bl)))))))), ?_⟩
    have same1 : ∀ z : Str, decide (V.str z = V.str z) = true := fun z => decide_eq_true rfl
    refine ⟨_, rfl, a, ns, rfl, hS, hlen, fun H1 d c hd hc D1 s1 => ?_⟩
    refine ⟨_, rfl, by decide, by decide, ?_⟩
    refine for_range (lo := 0) (n := 10) (fun i σ H' => ∃ (n : Nat) (v2 v3 v4 v5 v6 v7 v8 v9 v10 v11 v12 : Option V), σ = [some (.ref a), some (.ref d), v2, v3, v4, v5, v6, v7, v8, v9, v10, v11, v12] ∧ n ≤ 40 * i ∧ DD H' d c n) ⟨0, _, _, _, _, _, _, _, _, _, _, _, rfl, Nat.le_refl _, D1⟩ ?_ ?_
    · rintro i σ H2 hi ⟨n, v2, v3, v4, v5, v6, v7, v8, v9, v10, v11, v12, rfl, hn, D2⟩
      rw [Int.zero_add]
      refine ⟨_, rfl, d, c, n, 3, rfl, Nat.le_refl _, by omega, D2, fun H3 y n3 hn3 D3 B3 fs => ?_⟩
      obtain ⟨dt, q1, q2, q3, q4, q5⟩ := fs H3 (fun b o _ e => e)
      have hl := Dat.shown q3 q4
      have hdp : dt.depth ≤ 50 := by omega
      refine ⟨_, rfl, y, dt, rfl, q1, q2, hl, hdp, ?_⟩
      refine ⟨_, rfl, _, rfl, i, y, rfl, hi, fun H4 t e1 e2 s4 ht r1 r2 => ?_⟩
      refine ⟨t, _, rfl, SqT.of ht, rfl, _, _, rfl, _, _, rfl, _, _, rfl, rfl, ?_⟩
      refine ⟨_, rfl, _, rfl, (by show 2 ≤ sizeLine; decide), fun t2 ht2 => ⟨t2, rfl, ⟨_, SqT.of upd_same⟩, ?_⟩⟩
      refine for_tup (K := K) (a := t2) (xs := [.ref e1, .ref e2]) (fun j σ H' => ∃ v8 : Option V, σ = [some (.ref a), some (.ref d), some (.int (i : Int)), some y, some (.str dt.shown), some (.ref e1), some (.ref e2), some (.str (fld i)), v8, v9, v10, v11, v12] ∧ Same H4 H' ∧ H' t2 = some (.tup [.ref e1, .ref e2]))
        ⟨_, rfl, Same.upd ht2, upd_same⟩ (fun _ _ _ _ ⟨_, _, _, h⟩ => SqT.of h) ?_ ?_
      · rintro j x σ H5 hj ⟨u8, rfl, s5, h5⟩
        obtain ⟨e, rfl, ee⟩ : ∃ e, x = V.ref e ∧ Err H5 e ((cls C0 C1 C2 C3 C4 C5 C6 C7 C8 C9 C10 C11 C12) i) [(fld i, y)] := by
          have q := List.mem_of_getElem? hj
          simp only [List.mem_cons, List.not_mem_nil, or_false] at q
          rcases q with rfl | rfl
          · exact ⟨e1, rfl, r1.same s5⟩
          · exact ⟨e2, rfl, r2.same s5⟩
        obtain ⟨TT, hno⟩ := errs_one X i hi
        have s35 := s4.trans s5
        refine ⟨_, rfl, _, rfl, e, _, i, y, rfl, hi, TT, ee, hno, y, dt, rfl, Dq.up s35 q1, q2, hl, hdp, _, rfl, rfl, _, rfl, ?_⟩
        rw [same1]
        refine iteF ?_
        refine ⟨_, rfl, y, dt, rfl, Dq.up s35 q1, q2, hl, hdp, _, rfl, rfl, _, rfl, ?_⟩
        rw [same1]
        refine iteF ?_
        obtain ⟨dx, g1, g2⟩ := ee
        refine ⟨_, rfl, _, rfl, e, _, some dx, i, rfl, by omega, KX i (by omega), g1, (fun d' ed => by cases ed; exact ⟨_, g2⟩), fun H6 s6 => ⟨_, rfl, iteF ?_⟩⟩
        exact ⟨_, rfl, s5.trans s6, s6 _ _ h5⟩
      · rintro σ H5 ⟨u8, rfl, s5, h5⟩
        exact ⟨n3, _, _, _, _, _, _, _, _, _, _, _, rfl, by omega, (D3.same s4).same s5⟩
    rintro σ H2 ⟨n, v2, v3, v4, v5, v6, v7, v8, v9, v10, v11, v12, rfl, hn, D2⟩
    refine ⟨_, rfl, d, c, n, 2, rfl, by decide, by omega, D2, fun H3 y1 n3 hn3 D3 B3 fs1 => ⟨_, rfl, d, c, n3, 2, rfl, by decide, by omega, D3, fun H4 y2 n4 hn4 D4 B4 fs2 => ⟨_, _, rfl, ?_⟩⟩⟩
    obtain ⟨t1, p1, p2, p3, p4, p5⟩ := fs1 H4 (fun b o hb e => by
      obtain ⟨_, _, _, z1, z2, _⟩ := D2
      exact B4 b o (fun z => by rw [z, z1] at hb; cases hb) (fun z => by rw [z, z2] at hb; cases hb) e)
    obtain ⟨t2, q1, q2, q3, q4, q5⟩ := fs2 H4 (fun b o _ e => e)
    have hsh : (PyData.list [t1, t2]).showable = true := by
      show (t1.showable && (t2.showable && true)) = true
      rw [p2, q2]; rfl
    have hlen2 := two_shown p3 q3 p4 q4
    have hdep2 : (PyData.list [t1, t2]).depth ≤ 50 := by
      show max t1.depth (max t2.depth 0) + 1 ≤ 50
      omega
    clear fs1 fs2 hn3 hn4 hn
    generalize v2 = w2
    generalize v3 = w3
    generalize v4 = w4
    generalize v5 = w5
    generalize v6 = w6
    generalize v7 = w7
    generalize v11 = w11
    generalize v12 = w12
    -- the errors with two attributes: one, other
    refine ⟨_, rfl, _, rfl, (by show 2 ≤ 1000; decide), fun a1 ha1 => ⟨a1, C11, y1, y2, rfl, X.e11.T, X.n11a, X.n11b, upd_same, fun dx hdx ne => ⟨rfl, ⟨some dx, by rw [upd_ne (Ne.symm ne), upd_same]⟩, ?_⟩⟩⟩
    obtain ⟨sA, rA⟩ := made_err2 (fs := [("one", y1)]) (gs := [("other", y2), ("one", y1)]) ha1 hdx ne
    refine ⟨_, rfl, _, rfl, Nat.zero_le _, fun a2 ha2 => ⟨a2, C11, y1, y2, rfl, X.e11.T, X.n11a, X.n11b, upd_same, fun dx2 hdx2 ne2 => ⟨rfl, ⟨some dx2, by rw [upd_ne (Ne.symm ne2), upd_same]⟩, (by show 2 ≤ sizeLine; decide), fun t ht => ⟨t, rfl, ⟨_, SqT.of upd_same⟩, ?_⟩⟩⟩⟩
    obtain ⟨sB, rB⟩ := made_err2 (fs := [("one", y1)]) (gs := [("other", y2), ("one", y1)]) ha2 hdx2 ne2
    refine for_tup (K := K) (a := t) (xs := [.ref a1, .ref a2]) (fun j σ H' => ∃ u8 : Option V, σ = [some (.ref a), some (.ref d), w2, w3, w4, w5, w6, w7, u8, some y1, some y2, w11, w12] ∧ Same H4 H' ∧ Err H' a1 C11 [("other", y2), ("one", y1)] ∧ Err H' a2 C11 [("other", y2), ("one", y1)] ∧ H' t = some (.tup [.ref a1, .ref a2]))
      ⟨_, rfl, (sA.trans sB).trans (Same.upd ht), rA.same (sB.trans (Same.upd ht)), rB.same (Same.upd ht), upd_same⟩ (fun _ _ _ _ ⟨_, _, _, _, _, h⟩ => SqT.of h) ?_ ?_
    · rintro j x σ H5 hj ⟨u8, rfl, s5, m1, m2, h5⟩
      obtain ⟨e, rfl, dx, g1, g2⟩ : ∃ e, x = V.ref e ∧ Err H5 e C11 [("other", y2), ("one", y1)] := by
        have q := List.mem_of_getElem? hj
        simp only [List.mem_cons, List.not_mem_nil, or_false] at q
        rcases q with rfl | rfl
        · exact ⟨a1, rfl, m1⟩
        · exact ⟨a2, rfl, m2⟩
      have sD := s5
      refine ⟨_, rfl, e, C11, dx, _, y1, rfl, X.e11.T, g1, g2, X.n11a, look_b (by decide +kernel) _ _, _, rfl, e, C11, dx, _, y2, rfl, X.e11.T, g1, g2, X.n11b, look_a _ _ _ _, (by show 2 ≤ sizeLine; decide), fun l hl => ?_⟩
      have sL := sD.trans (Same.upd (o := .lst [y1, y2]) hl)
      refine ⟨.ref l, .list [t1, t2], rfl, .lst (SqL.of upd_same) (.cons (Dq.up sL p1) (.cons (Dq.up sL q1) .nil)), hsh, hlen2, hdep2, ?_⟩
      refine ⟨_, rfl, _, rfl, (by show 2 ≤ sizeLine; decide), fun l2 hl2 => ?_⟩
      have sM := sL.trans (Same.upd (o := .lst [y1, y2]) hl2)
      refine ⟨.ref l2, .list [t1, t2], rfl, .lst (SqL.of upd_same) (.cons (Dq.up sM p1) (.cons (Dq.up sM q1) .nil)), hsh, hlen2, hdep2, rfl, _, rfl, ?_⟩
      rw [same1]
      refine iteF ?_
      have s2 : Same H5 _ := (Same.upd (o := .lst [y1, y2]) hl).trans (Same.upd (o := .lst [y1, y2]) hl2)
      refine ⟨_, rfl, e, C11, some dx, 11, rfl, by decide, KX 11 (by decide), s2 _ _ g1, (fun d' ed => by cases ed; exact ⟨_, s2 _ _ g2⟩), fun H6 s6 => ⟨_, rfl, iteF ?_⟩⟩
      have s7 := s2.trans s6
      exact ⟨_, rfl, s5.trans s7, m1.same s7, m2.same s7, s7 _ _ h5⟩
    rintro σ H7 ⟨u8, rfl, sK, _, _, _⟩
    -- the errors with two attributes: ahead, behind
    refine ⟨_, rfl, _, rfl, (by show 2 ≤ 1000; decide), fun a1 ha1 => ⟨a1, C12, y1, y2, rfl, X.e12.T, X.n12a, X.n12b, upd_same, fun dx hdx ne => ⟨rfl, ⟨some dx, by rw [upd_ne (Ne.symm ne), upd_same]⟩, ?_⟩⟩⟩
    obtain ⟨sA, rA⟩ := made_err2 (fs := [("ahead", y1)]) (gs := [("behind", y2), ("ahead", y1)]) ha1 hdx ne
    refine ⟨_, rfl, _, rfl, Nat.zero_le _, fun a2 ha2 => ⟨a2, C12, y1, y2, rfl, X.e12.T, X.n12a, X.n12b, upd_same, fun dx2 hdx2 ne2 => ⟨rfl, ⟨some dx2, by rw [upd_ne (Ne.symm ne2), upd_same]⟩, (by show 2 ≤ sizeLine; decide), fun t ht => ⟨t, rfl, ⟨_, SqT.of upd_same⟩, ?_⟩⟩⟩⟩
    obtain ⟨sB, rB⟩ := made_err2 (fs := [("ahead", y1)]) (gs := [("behind", y2), ("ahead", y1)]) ha2 hdx2 ne2
    refine for_tup (K := K) (a := t) (xs := [.ref a1, .ref a2]) (fun j σ H' => ∃ u8 : Option V, σ = [some (.ref a), some (.ref d), w2, w3, w4, w5, w6, w7, u8, some y1, some y2, w11, w12] ∧ Same H7 H' ∧ Err H' a1 C12 [("behind", y2), ("ahead", y1)] ∧ Err H' a2 C12 [("behind", y2), ("ahead", y1)] ∧ H' t = some (.tup [.ref a1, .ref a2]))
      ⟨_, rfl, (sA.trans sB).trans (Same.upd ht), rA.same (sB.trans (Same.upd ht)), rB.same (Same.upd ht), upd_same⟩ (fun _ _ _ _ ⟨_, _, _, _, _, h⟩ => SqT.of h) ?_ ?_
    · rintro j x σ H5 hj ⟨u8, rfl, s5, m1, m2, h5⟩
      obtain ⟨e, rfl, dx, g1, g2⟩ : ∃ e, x = V.ref e ∧ Err H5 e C12 [("behind", y2), ("ahead", y1)] := by
        have q := List.mem_of_getElem? hj
        simp only [List.mem_cons, List.not_mem_nil, or_false] at q
        rcases q with rfl | rfl
        · exact ⟨a1, rfl, m1⟩
        · exact ⟨a2, rfl, m2⟩
      have sD := sK.trans s5
      refine ⟨_, rfl, e, C12, dx, _, y1, rfl, X.e12.T, g1, g2, X.n12a, look_b (by decide +kernel) _ _, _, rfl, e, C12, dx, _, y2, rfl, X.e12.T, g1, g2, X.n12b, look_a _ _ _ _, (by show 2 ≤ sizeLine; decide), fun l hl => ?_⟩
      have sL := sD.trans (Same.upd (o := .lst [y1, y2]) hl)
      refine ⟨.ref l, .list [t1, t2], rfl, .lst (SqL.of upd_same) (.cons (Dq.up sL p1) (.cons (Dq.up sL q1) .nil)), hsh, hlen2, hdep2, ?_⟩
      refine ⟨_, rfl, _, rfl, (by show 2 ≤ sizeLine; decide), fun l2 hl2 => ?_⟩
      have sM := sL.trans (Same.upd (o := .lst [y1, y2]) hl2)
      refine ⟨.ref l2, .list [t1, t2], rfl, .lst (SqL.of upd_same) (.cons (Dq.up sM p1) (.cons (Dq.up sM q1) .nil)), hsh, hlen2, hdep2, rfl, _, rfl, ?_⟩
      rw [same1]
      refine iteF ?_
      have s2 : Same H5 _ := (Same.upd (o := .lst [y1, y2]) hl).trans (Same.upd (o := .lst [y1, y2]) hl2)
      refine ⟨_, rfl, e, C12, some dx, 12, rfl, by decide, KX 12 (by decide), s2 _ _ g1, (fun d' ed => by cases ed; exact ⟨_, s2 _ _ g2⟩), fun H6 s6 => ⟨_, rfl, iteF ?_⟩⟩
      have s7 := s2.trans s6
      exact ⟨_, rfl, s5.trans s7, m1.same s7, m2.same s7, s7 _ _ h5⟩
    rintro σ H8 ⟨u9, rfl, sK2, _, _, _⟩
    -- the one with none, and what is of no class
    refine ⟨Nat.zero_le _, fun a3 ha3 => ⟨a3, rfl, rfl, ⟨none, upd_same⟩, a3, C10, none, 10, rfl, by decide, KX 10 (by decide), upd_same, (fun d' e => by cases e), fun H9 s9 => ⟨_, rfl, iteF ?_⟩⟩⟩
    refine fun a4 ha4 => ?_
    refine ⟨a4, R, none, (fun _ => false), rfl, TR, exO_err upd_same, (fun d' e => by cases e), kitR, fun H10 l s10 hl10 => ?_⟩
    refine ⟨l, _, rfl, .inl (SqL.of hl10), rfl, rfl, _, rfl, ?_⟩
    refine ite_no (by rfl) ?_
    -- raised and caught
    refine ⟨(by show 2 ≤ sizeLine; decide), fun q1 h1 => ⟨(by show 2 ≤ sizeLine; decide), fun q2 h2 => ⟨(by show 2 ≤ sizeLine; decide), fun q3 h3 => ⟨(by show 2 ≤ sizeLine; decide), fun q4 h4 => ⟨(by show 2 ≤ sizeLine; decide), fun q5 h5 => ⟨(by show 5 ≤ sizeLine; decide), fun t ht => ⟨t, rfl, ⟨_, SqT.of upd_same⟩, ?_⟩⟩⟩⟩⟩⟩⟩
    have b5 := Same.upd (o := .tup [.ref q1, .ref q2, .ref q3, .ref q4, .ref q5]) ht
    have b4 := (Same.upd (o := .tup [.int 4, .int 10]) h5).trans b5
    have b3 := (Same.upd (o := .tup [.int 3, .int 12]) h4).trans b4
    have b2 := (Same.upd (o := .tup [.int 2, .int 9]) h3).trans b3
    have b1 := (Same.upd (o := .tup [.int 1, .int 8]) h2).trans b2
    refine for_tup (K := K) (a := t) (xs := [.ref q1, .ref q2, .ref q3, .ref q4, .ref q5]) (fun j σ H' => ∃ u2 u11 : Option V, σ = [some (.ref a), some (.ref d), u2, w3, w4, w5, w6, w7, u9, some y1, some y2, u11, w12] ∧
        H' q1 = some (.tup [.int 0, .int 0]) ∧ H' q2 = some (.tup [.int 1, .int 8]) ∧ H' q3 = some (.tup [.int 2, .int 9]) ∧ H' q4 = some (.tup [.int 3, .int 12]) ∧ H' q5 = some (.tup [.int 4, .int 10]) ∧ H' t = some (.tup [.ref q1, .ref q2, .ref q3, .ref q4, .ref q5]))
      ⟨_, _, rfl, b1 _ _ upd_same, b2 _ _ upd_same, b3 _ _ upd_same, b4 _ _ upd_same, b5 _ _ upd_same, upd_same⟩ (fun _ _ _ _ ⟨_, _, _, _, _, _, _, _, h⟩ => SqT.of h) ?_ ?_
    · rintro j x σ H11 hj ⟨u2, u11, rfl, c1, c2, c3, c4, c5, ct⟩
      obtain ⟨q, m, rfl, hm, cq⟩ : ∃ (q : Addr) (m : Nat), x = V.ref q ∧ m < 5 ∧ H11 q = some (.tup [.int (m : Int), .int (idx m : Nat)]) := by
        have z := List.mem_of_getElem? hj
        simp only [List.mem_cons, List.not_mem_nil, or_false] at z
        rcases z with rfl | rfl | rfl | rfl | rfl
        · exact ⟨q1, 0, rfl, by decide, c1⟩
        · exact ⟨q2, 1, rfl, by decide, c2⟩
        · exact ⟨q3, 2, rfl, by decide, c3⟩
        · exact ⟨q4, 3, rfl, by decide, c4⟩
        · exact ⟨q5, 4, rfl, by decide, c5⟩
      refine ⟨q, _, rfl, SqT.of cq, rfl, _, _, rfl, _, _, rfl, rfl, ?_⟩
      refine ⟨_, rfl, _, rfl, m, y1, rfl, hm, fun H12 l s12 hl => ?_⟩
      refine ⟨_, rfl, by decide, by decide, fun L hL => ?_⟩
      refine lc_range (lo := 0) (n := 13) (fun i H' => H' = upd H12 L (.lst (((List.range i).map fun k => decide (k = idx m)).map V.bl))) rfl ?_ ?_
      · rintro i H13 hi rfl
        refine ⟨rfl, ?_⟩
        dsimp only [tYes]
        refine iteT ?_
        refine ⟨_, rfl, _, rfl, rfl, _, upd_same, ?_, ?_⟩
        · rw [List.length_map, List.length_map, List.length_range]; exact Nat.lt_of_lt_of_le hi (by decide)
        · have e : decide (V.int (0 + (i : Int)) = V.int ((idx m : Nat) : Int)) = decide (i = idx m) := decide_eq_decide.mpr ⟨fun h => by have := V.int.inj h; omega, fun h => by rw [h]; congr 1; omega⟩
          show upd (upd H12 L _) L (.lst (_ ++ [V.bl (decide (V.int (0 + (i : Int)) = V.int ((idx m : Nat) : Int)))])) = _
          rw [e, upd_upd, List.range_succ, List.map_append, List.map_append]; rfl
      rintro H13 rfl
      have sZ := s12.trans (Same.upd (o := .lst (((List.range 13).map fun k => decide (k = idx m)).map V.bl)) hL)
      refine ne_bools (l := (List.range 13).map fun k => decide (k = idx m)) (SqL.of (Same.upd hL _ _ hl)) (SqL.of upd_same) ?_
      refine ⟨_, rfl, iteF ?_⟩
      exact ⟨_, _, rfl, sZ _ _ c1, sZ _ _ c2, sZ _ _ c3, sZ _ _ c4, sZ _ _ c5, sZ _ _ ct⟩
    rintro σ H14 ⟨_, _, rfl, _⟩
    exact k _
end
end K80

set_option Elab.async false
set_option linter.all false
set_option maxRecDepth 100000
namespace K80
open PySem PySem.Spec PyProof.Rows L2 Ami
/-- how the classes stand to one another, by looking -/
def kitB (K : PySem.W.Frag) (R : Addr) (CA : Nat → Addr) : Bool := (List.range 13).all fun n =>
  ((List.range 13).all fun k => decide (PySem.W.kitOne K (.ref (CA n)) (.ref (CA k)) = some (decide (k = n)))) &&
  decide (PySem.W.kitOne K (.ref (CA n)) (.ref R) = some true) && decide (PySem.W.kitOne K (.ref (CA n)) (.type "Exception") = some true) &&
  decide (PySem.W.kitAny K (.ref (CA n)) (["ValueError", "LookupError", "ArithmeticError", "TypeError"].map fun n => Value.type n) = some false) &&
  decide (PySem.W.kitAny K (.ref (CA n)) (["RuntimeError", "AttributeError", "KeyError"].map fun n => Value.type n) = some false) &&
  decide (PySem.W.exmOne K (.ref (CA n)) (.ref R) = some true) && decide (PySem.W.kitOne K (.ref R) (.ref (CA n)) = some false)
theorem kitB_at {K : PySem.W.Frag} {R : Addr} {CA : Nat → Addr} (h : kitB K R CA = true) {n : Nat} (hn : n < 13) : (∀ k, k < 13 → PySem.W.kitOne K (.ref (CA n)) (.ref (CA k)) = some (decide (k = n))) ∧ PySem.W.kitOne K (.ref (CA n)) (.ref R) = some true ∧ PySem.W.kitOne K (.ref (CA n)) (.type "Exception") = some true ∧
    PySem.W.kitAny K (.ref (CA n)) (["ValueError", "LookupError", "ArithmeticError", "TypeError"].map fun n => Value.type n) = some false ∧ PySem.W.kitAny K (.ref (CA n)) (["RuntimeError", "AttributeError", "KeyError"].map fun n => Value.type n) = some false ∧
    PySem.W.exmOne K (.ref (CA n)) (.ref R) = some true ∧ PySem.W.kitOne K (.ref R) (.ref (CA n)) = some false := by
  have q := List.all_eq_true.mp h n (List.mem_range.mpr hn)
  simp only [Bool.and_eq_true, decide_eq_true_eq] at q
  obtain ⟨⟨⟨⟨⟨⟨q1, q2⟩, q3⟩, q4⟩, q5⟩, q6⟩, q7⟩ := q
  exact ⟨fun k hk => of_decide_eq_true (List.all_eq_true.mp q1 k (List.mem_range.mpr hk)), q2, q3, q4, q5, q6, q7⟩
theorem all_mk {l : PySem.W.OpenLaw} {w : World} {K : PySem.W.Frag} {h : Heap} {mg : Str → Option Value} {fa R g1 g2 g3 g4 g5 g6 g7 g8 g9 g10 C0 C1 C2 C3 C4 C5 C6 C7 C8 C9 C10 C11 C12 f0 f1 f2 f3 f4 f5 f6 f7 f8 f9 f10 f11 f12 : Addr} (X : K.In h) (G : h.Ns mainGlobals mg) (hfa : mg "law" = some (.ref fa))
    {od1 an1 od2 an2 od3 an3 od4 an4 od5 an5 od6 an6 od7 an7 od8 an8 od9 an9 od10 an10 odC0 anC0 odC1 anC1 odC2 anC2 odC3 anC3 odC4 anC4 odC5 anC5 odC6 anC6 odC7 anC7 odC8 anC8 odC9 anC9 odC10 anC10 odC11 anC11 odC12 anC12 : Option Addr} {sl1 sl2 sl3 sl4 sl5 sl6 sl7 sl8 sl9 sl10 slC0 slC1 slC2 slC3 slC4 slC5 slC6 slC7 slC8 slC9 slC10 slC11 slC12 : Array (Option Value)} {oc1 kV1 dc1 pm1 cd1 ct1 oc2 kV2 dc2 pm2 cd2 ct2 oc3 kV3 dc3 pm3 cd3 ct3 oc4 kV4 dc4 pm4 cd4 ct4 oc5 kV5 dc5 pm5 cd5 ct5 oc6 kV6 dc6 pm6 cd6 ct6 oc7 kV7 dc7 pm7 cd7 ct7 oc8 kV8 dc8 pm8 cd8 ct8 oc9 kV9 dc9 pm9 cd9 ct9 oc10 kV10 dc10 pm10 cd10 ct10 ocC0 kVC0 dcC0 pmC0 cdC0 ctC0 ocC1 kVC1 dcC1 pmC1 cdC1 ctC1 ocC2 kVC2 dcC2 pmC2 cdC2 ctC2 ocC3 kVC3 dcC3 pmC3 cdC3 ctC3 ocC4 kVC4 dcC4 pmC4 cdC4 ctC4 ocC5 kVC5 dcC5 pmC5 cdC5 ctC5 ocC6 kVC6 dcC6 pmC6 cdC6 ctC6 ocC7 kVC7 dcC7 pmC7 cdC7 ctC7 ocC8 kVC8 dcC8 pmC8 cdC8 ctC8 ocC9 kVC9 dcC9 pmC9 cdC9 ctC9 ocC10 kVC10 dcC10 pmC10 cdC10 ctC10 ocC11 kVC11 dcC11 pmC11 cdC11 ctC11 ocC12 kVC12 dcC12 pmC12 cdC12 ctC12 : Value}
    (a1 : PySem.W.nsIn K mainGlobals "_law_deck" = some (some (.ref g1))) (l1 : K.lookup g1 = some ⟨oc1, od1, .func (PySem.W.fnOf "_law_deck" "_law_deck" (defArgs sDeck) (defBody sDeck) (defScope sDeck) .none kV1 dc1 pm1 an1 cd1 ct1), sl1⟩) (c1 : PySem.W.codeIn K cd1 "_law_deck" = true) (k1 : PySem.W.keepIn K (.ref g1) = true)
    (a2 : PySem.W.nsIn K mainGlobals "_law_draw" = some (some (.ref g2))) (l2 : K.lookup g2 = some ⟨oc2, od2, .func (PySem.W.fnOf "_law_draw" "_law_draw" (defArgs sDraw) (defBody sDraw) (defScope sDraw) .none kV2 dc2 pm2 an2 cd2 ct2), sl2⟩) (c2 : PySem.W.codeIn K cd2 "_law_draw" = true) (k2 : PySem.W.keepIn K (.ref g2) = true)
    (a3 : PySem.W.nsIn K mainGlobals "_law_pick" = some (some (.ref g3))) (l3 : K.lookup g3 = some ⟨oc3, od3, .func (PySem.W.fnOf "_law_pick" "_law_pick" (defArgs sPick) (defBody sPick) (defScope sPick) .none kV3 dc3 pm3 an3 cd3 ct3), sl3⟩) (c3 : PySem.W.codeIn K cd3 "_law_pick" = true) (k3 : PySem.W.keepIn K (.ref g3) = true)
    (a4 : PySem.W.nsIn K mainGlobals "_law_value" = some (some (.ref g4))) (l4 : K.lookup g4 = some ⟨oc4, od4, .func (PySem.W.fnOf "_law_value" "_law_value" (defArgs sValue) (defBody sValue) (defScope sValue) .none kV4 dc4 pm4 an4 cd4 ct4), sl4⟩) (c4 : PySem.W.codeIn K cd4 "_law_value" = true) (k4 : PySem.W.keepIn K (.ref g4) = true)
    (a5 : PySem.W.nsIn K mainGlobals "_law_one" = some (some (.ref g5))) (l5 : K.lookup g5 = some ⟨oc5, od5, .func (PySem.W.fnOf "_law_one" "_law_one" (defArgs sOne) (defBody sOne) (defScope sOne) .none kV5 dc5 pm5 an5 cd5 ct5), sl5⟩) (c5 : PySem.W.codeIn K cd5 "_law_one" = true) (k5 : PySem.W.keepIn K (.ref g5) = true)
    (a6 : PySem.W.nsIn K mainGlobals "_law_held" = some (some (.ref g6))) (l6 : K.lookup g6 = some ⟨oc6, od6, .func (PySem.W.fnOf "_law_held" "_law_held" (defArgs sHeld) (defBody sHeld) (defScope sHeld) .none kV6 dc6 pm6 an6 cd6 ct6), sl6⟩) (c6 : PySem.W.codeIn K cd6 "_law_held" = true) (k6 : PySem.W.keepIn K (.ref g6) = true)
    (a7 : PySem.W.nsIn K mainGlobals "_law_classes" = some (some (.ref g7))) (l7 : K.lookup g7 = some ⟨oc7, od7, .func (PySem.W.fnOf "_law_classes" "_law_classes" (defArgs sClasses) (defBody sClasses) (defScope sClasses) .none kV7 dc7 pm7 an7 cd7 ct7), sl7⟩) (c7 : PySem.W.codeIn K cd7 "_law_classes" = true) (k7 : PySem.W.keepIn K (.ref g7) = true)
    (a8 : PySem.W.nsIn K mainGlobals "_law_is_alone" = some (some (.ref g8))) (l8 : K.lookup g8 = some ⟨oc8, od8, .func (PySem.W.fnOf "_law_is_alone" "_law_is_alone" (defArgs sAlone) (defBody sAlone) (defScope sAlone) .none kV8 dc8 pm8 an8 cd8 ct8), sl8⟩) (c8 : PySem.W.codeIn K cd8 "_law_is_alone" = true) (k8 : PySem.W.keepIn K (.ref g8) = true)
    (a9 : PySem.W.nsIn K mainGlobals "_law_raised" = some (some (.ref g9))) (l9 : K.lookup g9 = some ⟨oc9, od9, .func (PySem.W.fnOf "_law_raised" "_law_raised" (defArgs sRaised) (defBody sRaised) (defScope sRaised) .none kV9 dc9 pm9 an9 cd9 ct9), sl9⟩) (c9 : PySem.W.codeIn K cd9 "_law_raised" = true) (k9 : PySem.W.keepIn K (.ref g9) = true)
    (a10 : PySem.W.nsIn K mainGlobals "law" = some (some (.ref g10))) (l10 : K.lookup g10 = some ⟨oc10, od10, .func (PySem.W.fnOf "law" "law" (defArgs sLaw) (defBody sLaw) (defScope sLaw) .none kV10 dc10 pm10 an10 cd10 ct10), sl10⟩) (c10 : PySem.W.codeIn K cd10 "law" = true) (k10 : PySem.W.keepIn K (.ref g10) = true)
    (aC0 : PySem.W.nsIn K mainGlobals "BadFormat" = some (some (.ref C0))) (xC0 : exB K C0 = true) (iC0 : PySem.W.findIn K (.ref C0) "__init__" = some (some (.ref f0))) (tC0 : PySem.W.typeIn K (.ref f0) = some (.type "function")) (lC0 : K.lookup f0 = some ⟨ocC0, odC0, .func (PySem.W.fnOf "__init__" "BadFormat.__init__" (defArgs iBadFormat) (defBody iBadFormat) (defScope iBadFormat) .none kVC0 dcC0 pmC0 anC0 cdC0 ctC0), slC0⟩) (cC0 : PySem.W.codeIn K cdC0 "BadFormat.__init__" = true) (kC0 : PySem.W.keepIn K (.ref f0) = true)
    (n0a : PySem.W.findIn K (.ref C0) "part" = some none)
    (aC1 : PySem.W.nsIn K mainGlobals "BadWord" = some (some (.ref C1))) (xC1 : exB K C1 = true) (iC1 : PySem.W.findIn K (.ref C1) "__init__" = some (some (.ref f1))) (tC1 : PySem.W.typeIn K (.ref f1) = some (.type "function")) (lC1 : K.lookup f1 = some ⟨ocC1, odC1, .func (PySem.W.fnOf "__init__" "BadWord.__init__" (defArgs iBadWord) (defBody iBadWord) (defScope iBadWord) .none kVC1 dcC1 pmC1 anC1 cdC1 ctC1), slC1⟩) (cC1 : PySem.W.codeIn K cdC1 "BadWord.__init__" = true) (kC1 : PySem.W.keepIn K (.ref f1) = true)
    (n1a : PySem.W.findIn K (.ref C1) "word" = some none)
    (aC2 : PySem.W.nsIn K mainGlobals "BadRecord" = some (some (.ref C2))) (xC2 : exB K C2 = true) (iC2 : PySem.W.findIn K (.ref C2) "__init__" = some (some (.ref f2))) (tC2 : PySem.W.typeIn K (.ref f2) = some (.type "function")) (lC2 : K.lookup f2 = some ⟨ocC2, odC2, .func (PySem.W.fnOf "__init__" "BadRecord.__init__" (defArgs iBadRecord) (defBody iBadRecord) (defScope iBadRecord) .none kVC2 dcC2 pmC2 anC2 cdC2 ctC2), slC2⟩) (cC2 : PySem.W.codeIn K cdC2 "BadRecord.__init__" = true) (kC2 : PySem.W.keepIn K (.ref f2) = true)
    (n2a : PySem.W.findIn K (.ref C2) "record" = some none)
    (aC3 : PySem.W.nsIn K mainGlobals "InvalidText" = some (some (.ref C3))) (xC3 : exB K C3 = true) (iC3 : PySem.W.findIn K (.ref C3) "__init__" = some (some (.ref f3))) (tC3 : PySem.W.typeIn K (.ref f3) = some (.type "function")) (lC3 : K.lookup f3 = some ⟨ocC3, odC3, .func (PySem.W.fnOf "__init__" "InvalidText.__init__" (defArgs iInvalidText) (defBody iInvalidText) (defScope iInvalidText) .none kVC3 dcC3 pmC3 anC3 cdC3 ctC3), slC3⟩) (cC3 : PySem.W.codeIn K cdC3 "InvalidText.__init__" = true) (kC3 : PySem.W.keepIn K (.ref f3) = true)
    (n3a : PySem.W.findIn K (.ref C3) "line" = some none)
    (aC4 : PySem.W.nsIn K mainGlobals "NoReading" = some (some (.ref C4))) (xC4 : exB K C4 = true) (iC4 : PySem.W.findIn K (.ref C4) "__init__" = some (some (.ref f4))) (tC4 : PySem.W.typeIn K (.ref f4) = some (.type "function")) (lC4 : K.lookup f4 = some ⟨ocC4, odC4, .func (PySem.W.fnOf "__init__" "NoReading.__init__" (defArgs iNoReading) (defBody iNoReading) (defScope iNoReading) .none kVC4 dcC4 pmC4 anC4 cdC4 ctC4), slC4⟩) (cC4 : PySem.W.codeIn K cdC4 "NoReading.__init__" = true) (kC4 : PySem.W.keepIn K (.ref f4) = true)
    (n4a : PySem.W.findIn K (.ref C4) "word" = some none)
    (aC5 : PySem.W.nsIn K mainGlobals "NotSure" = some (some (.ref C5))) (xC5 : exB K C5 = true) (iC5 : PySem.W.findIn K (.ref C5) "__init__" = some (some (.ref f5))) (tC5 : PySem.W.typeIn K (.ref f5) = some (.type "function")) (lC5 : K.lookup f5 = some ⟨ocC5, odC5, .func (PySem.W.fnOf "__init__" "NotSure.__init__" (defArgs iNotSure) (defBody iNotSure) (defScope iNotSure) .none kVC5 dcC5 pmC5 anC5 cdC5 ctC5), slC5⟩) (cC5 : PySem.W.codeIn K cdC5 "NotSure.__init__" = true) (kC5 : PySem.W.keepIn K (.ref f5) = true)
    (n5a : PySem.W.findIn K (.ref C5) "place" = some none)
    (aC6 : PySem.W.nsIn K mainGlobals "NoBook" = some (some (.ref C6))) (xC6 : exB K C6 = true) (iC6 : PySem.W.findIn K (.ref C6) "__init__" = some (some (.ref f6))) (tC6 : PySem.W.typeIn K (.ref f6) = some (.type "function")) (lC6 : K.lookup f6 = some ⟨ocC6, odC6, .func (PySem.W.fnOf "__init__" "NoBook.__init__" (defArgs iNoBook) (defBody iNoBook) (defScope iNoBook) .none kVC6 dcC6 pmC6 anC6 cdC6 ctC6), slC6⟩) (cC6 : PySem.W.codeIn K cdC6 "NoBook.__init__" = true) (kC6 : PySem.W.keepIn K (.ref f6) = true)
    (n6a : PySem.W.findIn K (.ref C6) "length" = some none)
    (aC7 : PySem.W.nsIn K mainGlobals "EvenLength" = some (some (.ref C7))) (xC7 : exB K C7 = true) (iC7 : PySem.W.findIn K (.ref C7) "__init__" = some (some (.ref f7))) (tC7 : PySem.W.typeIn K (.ref f7) = some (.type "function")) (lC7 : K.lookup f7 = some ⟨ocC7, odC7, .func (PySem.W.fnOf "__init__" "EvenLength.__init__" (defArgs iEvenLength) (defBody iEvenLength) (defScope iEvenLength) .none kVC7 dcC7 pmC7 anC7 cdC7 ctC7), slC7⟩) (cC7 : PySem.W.codeIn K cdC7 "EvenLength.__init__" = true) (kC7 : PySem.W.keepIn K (.ref f7) = true)
    (n7a : PySem.W.findIn K (.ref C7) "length" = some none)
    (aC8 : PySem.W.nsIn K mainGlobals "NameTaken" = some (some (.ref C8))) (xC8 : exB K C8 = true) (iC8 : PySem.W.findIn K (.ref C8) "__init__" = some (some (.ref f8))) (tC8 : PySem.W.typeIn K (.ref f8) = some (.type "function")) (lC8 : K.lookup f8 = some ⟨ocC8, odC8, .func (PySem.W.fnOf "__init__" "NameTaken.__init__" (defArgs iNameTaken) (defBody iNameTaken) (defScope iNameTaken) .none kVC8 dcC8 pmC8 anC8 cdC8 ctC8), slC8⟩) (cC8 : PySem.W.codeIn K cdC8 "NameTaken.__init__" = true) (kC8 : PySem.W.keepIn K (.ref f8) = true)
    (n8a : PySem.W.findIn K (.ref C8) "name" = some none)
    (aC9 : PySem.W.nsIn K mainGlobals "UnknownName" = some (some (.ref C9))) (xC9 : exB K C9 = true) (iC9 : PySem.W.findIn K (.ref C9) "__init__" = some (some (.ref f9))) (tC9 : PySem.W.typeIn K (.ref f9) = some (.type "function")) (lC9 : K.lookup f9 = some ⟨ocC9, odC9, .func (PySem.W.fnOf "__init__" "UnknownName.__init__" (defArgs iUnknownName) (defBody iUnknownName) (defScope iUnknownName) .none kVC9 dcC9 pmC9 anC9 cdC9 ctC9), slC9⟩) (cC9 : PySem.W.codeIn K cdC9 "UnknownName.__init__" = true) (kC9 : PySem.W.keepIn K (.ref f9) = true)
    (n9a : PySem.W.findIn K (.ref C9) "name" = some none)
    (aC10 : PySem.W.nsIn K mainGlobals "OtherLetters" = some (some (.ref C10))) (xC10 : exB K C10 = true) (iC10 : PySem.W.findIn K (.ref C10) "__init__" = some (some (.ref f10))) (tC10 : PySem.W.typeIn K (.ref f10) = some (.type "function")) (lC10 : K.lookup f10 = some ⟨ocC10, odC10, .func (PySem.W.fnOf "__init__" "OtherLetters.__init__" (defArgs iOtherLetters) (defBody iOtherLetters) (defScope iOtherLetters) .none kVC10 dcC10 pmC10 anC10 cdC10 ctC10), slC10⟩) (cC10 : PySem.W.codeIn K cdC10 "OtherLetters.__init__" = true) (kC10 : PySem.W.keepIn K (.ref f10) = true)
    (aC11 : PySem.W.nsIn K mainGlobals "TwoReadings" = some (some (.ref C11))) (xC11 : exB K C11 = true) (iC11 : PySem.W.findIn K (.ref C11) "__init__" = some (some (.ref f11))) (tC11 : PySem.W.typeIn K (.ref f11) = some (.type "function")) (lC11 : K.lookup f11 = some ⟨ocC11, odC11, .func (PySem.W.fnOf "__init__" "TwoReadings.__init__" (defArgs iTwoReadings) (defBody iTwoReadings) (defScope iTwoReadings) .none kVC11 dcC11 pmC11 anC11 cdC11 ctC11), slC11⟩) (cC11 : PySem.W.codeIn K cdC11 "TwoReadings.__init__" = true) (kC11 : PySem.W.keepIn K (.ref f11) = true)
    (n11a : PySem.W.findIn K (.ref C11) "one" = some none)
    (n11b : PySem.W.findIn K (.ref C11) "other" = some none)
    (aC12 : PySem.W.nsIn K mainGlobals "NotEnough" = some (some (.ref C12))) (xC12 : exB K C12 = true) (iC12 : PySem.W.findIn K (.ref C12) "__init__" = some (some (.ref f12))) (tC12 : PySem.W.typeIn K (.ref f12) = some (.type "function")) (lC12 : K.lookup f12 = some ⟨ocC12, odC12, .func (PySem.W.fnOf "__init__" "NotEnough.__init__" (defArgs iNotEnough) (defBody iNotEnough) (defScope iNotEnough) .none kVC12 dcC12 pmC12 anC12 cdC12 ctC12), slC12⟩) (cC12 : PySem.W.codeIn K cdC12 "NotEnough.__init__" = true) (kC12 : PySem.W.keepIn K (.ref f12) = true)
    (n12a : PySem.W.findIn K (.ref C12) "ahead" = some none)
    (n12b : PySem.W.findIn K (.ref C12) "behind" = some none)
    (aR : PySem.W.nsIn K mainGlobals "ReadError" = some (some (.ref R))) (xR : exB K R = true) (qR : PySem.W.excIn K R eTail "Exception.__new__" = true) (kit : kitB K R (cls C0 C1 C2 C3 C4 C5 C6 C7 C8 C9 C10 C11 C12) = true)
    (b1 : PySem.W.nsIn K mainGlobals "len" = some none)
    (b2 : PySem.W.nsIn K mainGlobals "int" = some none)
    (b3 : PySem.W.nsIn K mainGlobals "list" = some none)
    (b4 : PySem.W.nsIn K mainGlobals "range" = some none)
    (b5 : PySem.W.nsIn K mainGlobals "tuple" = some none)
    (b6 : PySem.W.nsIn K mainGlobals "isinstance" = some none)
    (b7 : PySem.W.nsIn K mainGlobals "repr" = some none)
    (b8 : PySem.W.nsIn K mainGlobals "Exception" = some none)
    (b9 : PySem.W.nsIn K mainGlobals "ValueError" = some none)
    (b10 : PySem.W.nsIn K mainGlobals "LookupError" = some none)
    (b11 : PySem.W.nsIn K mainGlobals "ArithmeticError" = some none)
    (b12 : PySem.W.nsIn K mainGlobals "TypeError" = some none)
    (b13 : PySem.W.nsIn K mainGlobals "RuntimeError" = some none)
    (b14 : PySem.W.nsIn K mainGlobals "AttributeError" = some none)
    (b15 : PySem.W.nsIn K mainGlobals "KeyError" = some none)
    : ∃ fd : FuncData, (∀ (s : Shared) (v : Value), BindsTo s fd ⟨[v], []⟩ [("_law_script", v)]) ∧ ∀ base : Heap, K.In base → base.Ns mainGlobals mg → FnG l.prog w K mg base CX0 7 fa fd ["_law_script"] (spLaw K) := by
  have e := hfa.symm.trans (PySem.W.mg_of X G a10)
  cases e
  have T : Blt mg := ⟨PySem.W.mg_none_of X G b1, PySem.W.mg_none_of X G b2, PySem.W.mg_none_of X G b3, PySem.W.mg_none_of X G b4, PySem.W.mg_none_of X G b5, PySem.W.mg_none_of X G b6, PySem.W.mg_none_of X G b7, PySem.W.mg_none_of X G b8, PySem.W.mg_none_of X G b9, PySem.W.mg_none_of X G b10, PySem.W.mg_none_of X G b11, PySem.W.mg_none_of X G b12, PySem.W.mg_none_of X G b13, PySem.W.mg_none_of X G b14, PySem.W.mg_none_of X G b15⟩
  have D1 : DefAt K mg "_law_deck" sDeck ["_law_script"] g1 _ := ⟨fun_mk (st := sDeck) l1 c1 k1, (fun_mk (st := sDeck) l1 c1 k1).binds (ps := ["_law_script"]) fun _ _ _ _ _ _ us hl => match us, hl with | [_], _ => rfl, PySem.W.mg_of X G a1⟩
  have D2 : DefAt K mg "_law_draw" sDraw ["_law_deck_here", "_law_many"] g2 _ := ⟨fun_mk (st := sDraw) l2 c2 k2, (fun_mk (st := sDraw) l2 c2 k2).binds (ps := ["_law_deck_here", "_law_many"]) fun _ _ _ _ _ _ us hl => match us, hl with | [_, _], _ => rfl, PySem.W.mg_of X G a2⟩
  have D3 : DefAt K mg "_law_pick" sPick ["_law_deck_here", "_law_some"] g3 _ := ⟨fun_mk (st := sPick) l3 c3 k3, (fun_mk (st := sPick) l3 c3 k3).binds (ps := ["_law_deck_here", "_law_some"]) fun _ _ _ _ _ _ us hl => match us, hl with | [_, _], _ => rfl, PySem.W.mg_of X G a3⟩
  have D4 : DefAt K mg "_law_value" sValue ["_law_deck_here", "_law_deep"] g4 _ := ⟨fun_mk (st := sValue) l4 c4 k4, (fun_mk (st := sValue) l4 c4 k4).binds (ps := ["_law_deck_here", "_law_deep"]) fun _ _ _ _ _ _ us hl => match us, hl with | [_, _], _ => rfl, PySem.W.mg_of X G a4⟩
  have D5 : DefAt K mg "_law_one" sOne ["_law_at", "_law_value_here"] g5 _ := ⟨fun_mk (st := sOne) l5 c5 k5, (fun_mk (st := sOne) l5 c5 k5).binds (ps := ["_law_at", "_law_value_here"]) fun _ _ _ _ _ _ us hl => match us, hl with | [_, _], _ => rfl, PySem.W.mg_of X G a5⟩
  have D6 : DefAt K mg "_law_held" sHeld ["_law_e", "_law_mark"] g6 _ := ⟨fun_mk (st := sHeld) l6 c6 k6, (fun_mk (st := sHeld) l6 c6 k6).binds (ps := ["_law_e", "_law_mark"]) fun _ _ _ _ _ _ us hl => match us, hl with | [_, _], _ => rfl, PySem.W.mg_of X G a6⟩
  have D7 : DefAt K mg "_law_classes" sClasses ["_law_e"] g7 _ := ⟨fun_mk (st := sClasses) l7 c7 k7, (fun_mk (st := sClasses) l7 c7 k7).binds (ps := ["_law_e"]) fun _ _ _ _ _ _ us hl => match us, hl with | [_], _ => rfl, PySem.W.mg_of X G a7⟩
  have D8 : DefAt K mg "_law_is_alone" sAlone ["_law_e", "_law_at"] g8 _ := ⟨fun_mk (st := sAlone) l8 c8 k8, (fun_mk (st := sAlone) l8 c8 k8).binds (ps := ["_law_e", "_law_at"]) fun _ _ _ _ _ _ us hl => match us, hl with | [_, _], _ => rfl, PySem.W.mg_of X G a8⟩
  have D9 : DefAt K mg "_law_raised" sRaised ["_law_at", "_law_value_here"] g9 _ := ⟨fun_mk (st := sRaised) l9 c9 k9, (fun_mk (st := sRaised) l9 c9 k9).binds (ps := ["_law_at", "_law_value_here"]) fun _ _ _ _ _ _ us hl => match us, hl with | [_, _], _ => rfl, PySem.W.mg_of X G a9⟩
  have ER : Errs K mg C0 C1 C2 C3 C4 C5 C6 C7 C8 C9 C10 C11 C12 f0 f1 f2 f3 f4 f5 f6 f7 f8 f9 f10 f11 f12 _ _ _ _ _ _ _ _ _ _ _ _ _ := ⟨⟨PySem.W.mg_of X G aC0, ex_of xC0, iC0, tC0, fun_mk (st := iBadFormat) lC0 cC0 kC0⟩,
    ⟨PySem.W.mg_of X G aC1, ex_of xC1, iC1, tC1, fun_mk (st := iBadWord) lC1 cC1 kC1⟩,
    ⟨PySem.W.mg_of X G aC2, ex_of xC2, iC2, tC2, fun_mk (st := iBadRecord) lC2 cC2 kC2⟩,
    ⟨PySem.W.mg_of X G aC3, ex_of xC3, iC3, tC3, fun_mk (st := iInvalidText) lC3 cC3 kC3⟩,
    ⟨PySem.W.mg_of X G aC4, ex_of xC4, iC4, tC4, fun_mk (st := iNoReading) lC4 cC4 kC4⟩,
    ⟨PySem.W.mg_of X G aC5, ex_of xC5, iC5, tC5, fun_mk (st := iNotSure) lC5 cC5 kC5⟩,
    ⟨PySem.W.mg_of X G aC6, ex_of xC6, iC6, tC6, fun_mk (st := iNoBook) lC6 cC6 kC6⟩,
    ⟨PySem.W.mg_of X G aC7, ex_of xC7, iC7, tC7, fun_mk (st := iEvenLength) lC7 cC7 kC7⟩,
    ⟨PySem.W.mg_of X G aC8, ex_of xC8, iC8, tC8, fun_mk (st := iNameTaken) lC8 cC8 kC8⟩,
    ⟨PySem.W.mg_of X G aC9, ex_of xC9, iC9, tC9, fun_mk (st := iUnknownName) lC9 cC9 kC9⟩,
    ⟨PySem.W.mg_of X G aC10, ex_of xC10, iC10, tC10, fun_mk (st := iOtherLetters) lC10 cC10 kC10⟩,
    ⟨PySem.W.mg_of X G aC11, ex_of xC11, iC11, tC11, fun_mk (st := iTwoReadings) lC11 cC11 kC11⟩,
    ⟨PySem.W.mg_of X G aC12, ex_of xC12, iC12, tC12, fun_mk (st := iNotEnough) lC12 cC12 kC12⟩,
    n0a,
    n1a,
    n2a,
    n3a,
    n4a,
    n5a,
    n6a,
    n7a,
    n8a,
    n9a,
    n11a,
    n11b,
    n12a,
    n12b⟩
  have TX : ∀ k, k < 13 → EX K ((cls C0 C1 C2 C3 C4 C5 C6 C7 C8 C9 C10 C11 C12) k) := by
    intro k hk
    have c13 : k = 0 ∨ k = 1 ∨ k = 2 ∨ k = 3 ∨ k = 4 ∨ k = 5 ∨ k = 6 ∨ k = 7 ∨ k = 8 ∨ k = 9 ∨ k = 10 ∨ k = 11 ∨ k = 12 := by omega
    rcases c13 with rfl | rfl | rfl | rfl | rfl | rfl | rfl | rfl | rfl | rfl | rfl | rfl | rfl
    · exact ER.e0.T
    · exact ER.e1.T
    · exact ER.e2.T
    · exact ER.e3.T
    · exact ER.e4.T
    · exact ER.e5.T
    · exact ER.e6.T
    · exact ER.e7.T
    · exact ER.e8.T
    · exact ER.e9.T
    · exact ER.e10.T
    · exact ER.e11.T
    · exact ER.e12.T
  have KX : ∀ k, k < 13 → KitC K (cls C0 C1 C2 C3 C4 C5 C6 C7 C8 C9 C10 C11 C12) R ((cls C0 C1 C2 C3 C4 C5 C6 C7 C8 C9 C10 C11 C12) k) k := fun k hk => by
    obtain ⟨q1, q2, q3, q4, q5, q6, q7⟩ := kitB_at kit hk
    exact ⟨TX k hk, q1, q2, q3, q4, q5⟩
  exact ⟨_, fun s v => .of_eq rfl, fun base _ _ => ok_law (fun_mk (st := sLaw) l10 c10 k10) T ER (PySem.W.mg_of X G aR) D1 D2 D3 D4 D5 D6 D7 D8 D9 KX (fun k hk => (kitB_at kit hk).2.2.2.2.2.1) qR (ex_of xR).kp (ex_of xR) (fun k hk => (kitB_at kit hk).2.2.2.2.2.2)⟩
end K80

open PySem PySem.W PyProof.Rows in
set_option maxRecDepth 100000 in
set_option maxHeartbeats 0 in
theorem PySem.Challenge.cw_amidread_k80_errors_holds : PySem.Challenge.rw_amidread_k80_errors.Holds := by
  w_on; o_law; k_head; (case hw => w_witness2)
  k_fill
  refine Ami.walk_ofG (l := PySem.Challenge.rw_amidread_k80_errors) (n := 63) (k := 7) (x := "_law_script") (sp := fun w => K80.spLaw _) rfl (by decide) rfl ⟨rfl, by decide, by decide⟩ (fun w h Y => PySem.W.kIn_of Y) ?F (fun _ _ a ns hl _ hS => ⟨a, ns, rfl, hS, hl, fun _ => rfl⟩)
  case F =>
    intro w mg fa h KX G hmg
    refine' K80.all_mk KX G hmg ?a1 ?l1 ?c1 ?k1 ?a2 ?l2 ?c2 ?k2 ?a3 ?l3 ?c3 ?k3 ?a4 ?l4 ?c4 ?k4 ?a5 ?l5 ?c5 ?k5 ?a6 ?l6 ?c6 ?k6 ?a7 ?l7 ?c7 ?k7 ?a8 ?l8 ?c8 ?k8 ?a9 ?l9 ?c9 ?k9 ?a10 ?l10 ?c10 ?k10 ?aC0 ?xC0 ?iC0 ?tC0 ?lC0 ?cC0 ?kC0 ?n0a ?aC1 ?xC1 ?iC1 ?tC1 ?lC1 ?cC1 ?kC1 ?n1a ?aC2 ?xC2 ?iC2 ?tC2 ?lC2 ?cC2 ?kC2 ?n2a ?aC3 ?xC3 ?iC3 ?tC3 ?lC3 ?cC3 ?kC3 ?n3a ?aC4 ?xC4 ?iC4 ?tC4 ?lC4 ?cC4 ?kC4 ?n4a ?aC5 ?xC5 ?iC5 ?tC5 ?lC5 ?cC5 ?kC5 ?n5a ?aC6 ?xC6 ?iC6 ?tC6 ?lC6 ?cC6 ?kC6 ?n6a ?aC7 ?xC7 ?iC7 ?tC7 ?lC7 ?cC7 ?kC7 ?n7a ?aC8 ?xC8 ?iC8 ?tC8 ?lC8 ?cC8 ?kC8 ?n8a ?aC9 ?xC9 ?iC9 ?tC9 ?lC9 ?cC9 ?kC9 ?n9a ?aC10 ?xC10 ?iC10 ?tC10 ?lC10 ?cC10 ?kC10 ?aC11 ?xC11 ?iC11 ?tC11 ?lC11 ?cC11 ?kC11 ?n11a ?n11b ?aC12 ?xC12 ?iC12 ?tC12 ?lC12 ?cC12 ?kC12 ?n12a ?n12b ?aR ?xR ?qR ?kit ?b1 ?b2 ?b3 ?b4 ?b5 ?b6 ?b7 ?b8 ?b9 ?b10 ?b11 ?b12 ?b13 ?b14 ?b15
    (case a1 => k_is)
    (case l1 => k_is)
    (case c1 => k_is)
    (case k1 => k_is)
    (case a2 => k_is)
    (case l2 => k_is)
    (case c2 => k_is)
    (case k2 => k_is)
    (case a3 => k_is)
    (case l3 => k_is)
    (case c3 => k_is)
    (case k3 => k_is)
    (case a4 => k_is)
    (case l4 => k_is)
    (case c4 => k_is)
    (case k4 => k_is)
    (case a5 => k_is)
    (case l5 => k_is)
    (case c5 => k_is)
    (case k5 => k_is)
    (case a6 => k_is)
    (case l6 => k_is)
    (case c6 => k_is)
    (case k6 => k_is)
    (case a7 => k_is)
    (case l7 => k_is)
    (case c7 => k_is)
    (case k7 => k_is)
    (case a8 => k_is)
    (case l8 => k_is)
    (case c8 => k_is)
    (case k8 => k_is)
    (case a9 => k_is)
    (case l9 => k_is)
    (case c9 => k_is)
    (case k9 => k_is)
    (case a10 => k_is)
    (case l10 => k_is)
    (case c10 => k_is)
    (case k10 => k_is)
    (case aC0 => k_is)
    (case xC0 => kernel_rfl)
    (case iC0 => k_is)
    (case tC0 => k_is)
    (case lC0 => k_is)
    (case cC0 => k_is)
    (case kC0 => k_is)
    (case n0a => k_is)
    (case aC1 => k_is)
    (case xC1 => kernel_rfl)
    (case iC1 => k_is)
    (case tC1 => k_is)
    (case lC1 => k_is)
    (case cC1 => k_is)
    (case kC1 => k_is)
    (case n1a => k_is)
    (case aC2 => k_is)
    (case xC2 => kernel_rfl)
    (case iC2 => k_is)
    (case tC2 => k_is)
    (case lC2 => k_is)
    (case cC2 => k_is)
    (case kC2 => k_is)
    (case n2a => k_is)
    (case aC3 => k_is)
    (case xC3 => kernel_rfl)
    (case iC3 => k_is)
    (case tC3 => k_is)
    (case lC3 => k_is)
    (case cC3 => k_is)
    (case kC3 => k_is)
    (case n3a => k_is)
    (case aC4 => k_is)
    (case xC4 => kernel_rfl)
    (case iC4 => k_is)
    (case tC4 => k_is)
    (case lC4 => k_is)
    (case cC4 => k_is)
    (case kC4 => k_is)
    (case n4a => k_is)
    (case aC5 => k_is)
    (case xC5 => kernel_rfl)
    (case iC5 => k_is)
    (case tC5 => k_is)
    (case lC5 => k_is)
    (case cC5 => k_is)
    (case kC5 => k_is)
    (case n5a => k_is)
    (case aC6 => k_is)
    (case xC6 => kernel_rfl)
    (case iC6 => k_is)
    (case tC6 => k_is)
    (case lC6 => k_is)
    (case cC6 => k_is)
    (case kC6 => k_is)
    (case n6a => k_is)
    (case aC7 => k_is)
    (case xC7 => kernel_rfl)
    (case iC7 => k_is)
    (case tC7 => k_is)
    (case lC7 => k_is)
    (case cC7 => k_is)
    (case kC7 => k_is)
    (case n7a => k_is)
    (case aC8 => k_is)
    (case xC8 => kernel_rfl)
    (case iC8 => k_is)
    (case tC8 => k_is)
    (case lC8 => k_is)
    (case cC8 => k_is)
    (case kC8 => k_is)
    (case n8a => k_is)
    (case aC9 => k_is)
    (case xC9 => kernel_rfl)
    (case iC9 => k_is)
    (case tC9 => k_is)
    (case lC9 => k_is)
    (case cC9 => k_is)
    (case kC9 => k_is)
    (case n9a => k_is)
    (case aC10 => k_is)
    (case xC10 => kernel_rfl)
    (case iC10 => k_is)
    (case tC10 => k_is)
    (case lC10 => k_is)
    (case cC10 => k_is)
    (case kC10 => k_is)
    (case aC11 => k_is)
    (case xC11 => kernel_rfl)
    (case iC11 => k_is)
    (case tC11 => k_is)
    (case lC11 => k_is)
    (case cC11 => k_is)
    (case kC11 => k_is)
    (case n11a => k_is)
    (case n11b => k_is)
    (case aC12 => k_is)
    (case xC12 => kernel_rfl)
    (case iC12 => k_is)
    (case tC12 => k_is)
    (case lC12 => k_is)
    (case cC12 => k_is)
    (case kC12 => k_is)
    (case n12a => k_is)
    (case n12b => k_is)
    (case aR => k_is)
    (case xR => kernel_rfl)
    (case qR => k_exc)
    (case kit => kernel_rfl)
    (case b1 => k_is)
    (case b2 => k_is)
    (case b3 => k_is)
    (case b4 => k_is)
    (case b5 => k_is)
    (case b6 => k_is)
    (case b7 => k_is)
    (case b8 => k_is)
    (case b9 => k_is)
    (case b10 => k_is)
    (case b11 => k_is)
    (case b12 => k_is)
    (case b13 => k_is)
    (case b14 => k_is)
    (case b15 => k_is)

