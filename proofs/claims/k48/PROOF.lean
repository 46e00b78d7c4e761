import PyProof.Rows.All
import Wide.All
import OpenK.AllK
import Wide.FinOn
import HandS.ForMost
import HandS.IsInst
import HandS.Walk
import HandS.Conv
import HandS.Style
import HandS.Flow
import PyProof.ListStr
import PyProof.ReprRoads
import HandS.Set
import HandS.SetTxt0
import PyProof.Rows.SetFrom
import PyProof.Rows.SortStr
import HandS.SetKeys
import PyProof.ReprLen
import HandS.DictComp
import HandS.Codes
import PySem.Challenge.RW_amidread_k48_words_seen_at_a_wrong_place
set_option Elab.async false
set_option linter.all false
set_option maxRecDepth 100000
set_option maxHeartbeats 2000000
namespace Ami
open PySem PySem.Spec PyProof.Rows L2

/-! ### texts -/
/-- a text of one sign -/
def one (c : Nat) : Str := ⟨#[c]⟩
/-- the signs of a text, each as a text -/
def letts (z : Str) : List Str := z.cps.toList.map one
theorem letts_length (z : Str) : (letts z).length = z.length := by
  unfold letts
  rw [List.length_map, Array.length_toList]
  rfl

section
variable {X : Cx}
/-- list(z) -/
theorem cr_listStr (hc : X.calm = true) : CallR X (.type "list") (fun vs H Q => ∃ z : Str, vs = [.str z] ∧ z.length ≤ sizeLine ∧ ∀ p, H p = none → Q (.ref p) (upd H p (.lst ((letts z).map V.str)))) := by
  intro pins s σ H vs us Q I r h
  obtain ⟨z, rfl, hz, q⟩ := h
  obtain ⟨u, rfl, t, rfl⟩ := vals1 r
  refine call_list_str (I.ok.hd hc) z t (fun h' tk acc c' k hS hacc => ?_) hz
  have hl : acc.size = z.cps.size := hacc.1
  have hv : Vals ((letts z).map V.str) acc.toList := by
    refine vals_of_at ?_ fun j x u hx hu => ?_
    · rw [List.length_map, letts_length, Array.length_toList, hl]; rfl
    · have hu' : acc[j]? = some u := by rw [← Array.getElem?_toList]; exact hu
      have hj : j < acc.size := (Array.getElem?_eq_some_iff.mp hu').1
      obtain ⟨c, t', e1, e2⟩ := hacc.2 j u hu'
      subst e2
      have e3 : (letts z)[j]? = some (one c) := by
        unfold letts
        rw [List.getElem?_map, Array.getElem?_toList, e1]; rfl
      rw [List.getElem?_map, e3] at hx
      cases hx
      exact ⟨t', rfl⟩
  refine ⟨.ref s.heap.objs.size, _, I.laid (t' := tk) k (Nat.le_refl _) (show ObjOk X.prog X.w _ h' _ (.lst ((letts z).map V.str)) from ⟨?_, acc.toList, c', hv, by simpa using hS⟩), rfl, q _ (I.hok.fresh (Nat.le_refl _))⟩
  rw [List.length_map, letts_length]; exact hz

/-- z * n, as a text -/
def repS (z : Str) (n : Nat) : Str := ⟨(List.replicate n z.cps.toList).flatten.toArray⟩
theorem flat_rep (l : List Nat) : ∀ (n : Nat) (acc : List Nat), (List.replicate n l.toArray).foldl (· ++ ·) acc.toArray = (acc ++ (List.replicate n l).flatten).toArray := by
  intro n
  induction n with
  | zero => intro acc; simp
  | succ n ih =>
    intro acc
    rw [List.replicate_succ, List.foldl_cons, List.append_toArray, ih, List.replicate_succ, List.flatten_cons, List.append_assoc]
theorem repS_length (z : Str) (n : Nat) : (repS z n).length = n * z.length := by
  show ((List.replicate n z.cps.toList).flatten.toArray).size = n * z.cps.size
  rw [List.size_toArray, List.length_flatten, List.map_replicate, List.sum_replicate_nat, Array.length_toList]
theorem repS_mem {z : Str} {n c : Nat} (h : c ∈ (repS z n).cps.toList) : c ∈ z.cps.toList := by
  have h' : c ∈ (List.replicate n z.cps.toList).flatten := h
  obtain ⟨l, h1, h2⟩ := List.mem_flatten.mp h'
  rw [(List.mem_replicate.mp h1).2] at h2
  exact h2
/-- text * int -/
theorem op_repS : OpR X (binaryOp .Mult) (fun x y H Q => ∃ (z : Str) (n : Nat), x = .str z ∧ y = .int n ∧ n * z.length ≤ sizeLine ∧ n < 2 ^ 62 ∧ Q (.str (repS z n)) H) := by
  intro pins s σ H x y v u Q I rx ry h
  obtain ⟨z, n, rfl, rfl, hz, hn, q⟩ := h
  obtain ⟨t, rfl⟩ := rx
  obtain ⟨t', rfl⟩ := ry
  have hline := sizeLine_eq
  have e0 : (List.replicate n z.cps).foldl (· ++ ·) #[] = (repS z n).cps := by
    have := flat_rep z.cps.toList n []
    simpa [repS] using this
  have fin : ∀ t' k, EP X pins σ Q (.str (repS z n) t') { s with toks := k } := fun t' k => ⟨.str (repS z n), H, I.tok _, ⟨t', rfl⟩, q⟩
  refine PySem.P.mul_str ?_ ?_ ?_ ?_
  · have h1 : ¬ ((n : Int) < -(2 ^ 63 : Int)) := by omega
    have h2 : ¬ ((n : Int) ≥ 2 ^ 63) := by omega
    rw [decide_eq_false h1, decide_eq_false h2]; rfl
  · intro h1 _
    have hn0 : 0 < n := by omega
    have hz' : z.length ≤ n * z.length := Nat.le_mul_of_pos_left _ hn0
    have hq : (2 ^ 63 - 1 : Int) / n ≥ z.length := by
      refine Int.le_ediv_of_mul_le (by omega) ?_
      have e : (z.length : Int) * (n : Int) = ((n * z.length : Nat) : Int) := by
        rw [Nat.mul_comm n z.length]; exact (Int.natCast_mul _ _).symm
      rw [e]
      omega
    omega
  · intro h1 _
    show decide (z.length * n > sizeLine) = false
    rw [Nat.mul_comm]
    exact decide_eq_false (by omega)
  · by_cases c1 : (n : Int) < 1
    · rw [if_pos c1]
      have hn0 : n = 0 := by omega
      subst hn0
      exact ⟨Nat.zero_le _, by have e : Str.empty = repS z 0 := by simp [repS, Str.empty]
                               rw [e]; exact fin _ _⟩
    · rw [if_neg c1]
      by_cases c2 : ((n : Int) == 1 || z.length == 0) = true
      · rw [if_pos c2]
        have e : z = repS z n := by
          rcases (Bool.or_eq_true _ _).mp c2 with k | k
          · have : n = 1 := by have := of_decide_eq_true k; omega
            subst this
            simp [repS]
          · have k' : z.length = 0 := by simpa using k
            have z0 : z.cps = #[] := Array.eq_empty_of_size_eq_zero k'
            obtain ⟨a⟩ := z
            simp only at z0
            subst z0
            simp [repS]
        show EP X pins σ Q (.str z t) s
        exact ⟨.str z, H, I, ⟨t, rfl⟩, by rw [e]; exact q⟩
      · rw [if_neg c2]
        refine ⟨?_, ?_⟩
        · show ((List.replicate ((n : Int)).toNat z.cps).foldl (· ++ ·) #[]).size ≤ sizeLine
          rw [Int.toNat_natCast, e0]
          have := repS_length z n
          unfold Str.length at this
          rw [this]
          exact hz
        · have e1 : (⟨(List.replicate ((n : Int)).toNat z.cps).foldl (· ++ ·) #[]⟩ : Str) = repS z n := by
            rw [Int.toNat_natCast, e0]
          rw [e1]
          exact fin _ _

/-- z[::-1], as a text -/
def revS (z : Str) : Str := ⟨z.cps.toList.reverse.toArray⟩
theorem revS_length (z : Str) : (revS z).length = z.length := by
  show z.cps.toList.reverse.toArray.size = z.cps.size
  rw [List.size_toArray, List.length_reverse, Array.length_toList]
def tRevS (te : TE) : TE := fun σ H Q => te σ H fun x H1 => ∃ z : Str, x = .str z ∧ z.length ≤ sizeLine ∧ Q (.str (revS z)) H1
theorem sliceMade_rev (z : Str) (t uk : Tok) : sliceMade z t none none (some (-1, uk)) = .str (revS z) := by
  unfold sliceMade
  rw [if_neg (by simp)]
  have e : slicePicked z none none (some (-1, uk)) = (List.range z.length).map fun k => z.length - 1 - k := by
    show sliceRange ((z.length : Int) - 1) (-1) (-1) = _
    exact PySem.W.krv_sliceRange z.length
  rw [e]
  have e2 := PySem.W.krv_range z.length
  rw [e2, List.filterMap_reverse]
  have e3 := PySem.W.krv_all z.cps
  unfold Str.length
  rw [e3]
  rfl
theorem pe_revS {e : Expr} {te : TE} {k : Nat} {p1 p2 p3 pos : Pos} (he : PE X e te) : PE X (.Subscript e (.Slice none none (some (.UnaryOp .USub (.Constant (.int 1) k p1) p2)) p3) pos) (tRevS te) := by
  refine ⟨fun pins s σ H Q I h => ?_⟩
  refine Subscript_ (thn (he.run pins s σ H _ I h) fun v s1 ⟨x, H1, I1, r1, z, ex, hz, q⟩ => ?_)
  subst ex
  obtain ⟨t, rfl⟩ := r1
  have hst : PO X (some (.UnaryOp .USub (.Constant (.int 1) k p1) p2)) (tPart (tUn (rU fun i => .int (-i)) (tC (.int 1)))) := po_some (pe_un un_neg pe_int)
  refine wpAny_Slice (thn (po_none.run pins s1 σ H1 (fun o H2 => o = none ∧ H2 = H1) I1 ⟨rfl, rfl⟩) fun vl s2 ⟨l, H2, I2, pl, el, e2⟩ => ?_)
  subst el e2
  refine thn (po_none.run pins s2 σ H2 (fun o H3 => o = none ∧ H3 = H2) I2 ⟨rfl, rfl⟩) fun vu s3 ⟨u, H3, I3, pu, eu, e3⟩ => ?_
  subst eu e3
  refine thn (hst.run pins s3 σ H3 (fun o H4 => o = some (-1) ∧ H4 = H3) I3 ⟨1, rfl, -1, rfl, rfl, rfl⟩) fun vs s4 ⟨o, H4, I4, ps, eo, e4⟩ => ?_
  subst eo e4
  have I5 : Inv X pins σ H4 { s4 with heap := s4.heap.push { cls := .type "slice", data := .fields #[vl, vu, vs] } } := I4.kept (t' := s4.toks) fun b ob q => Heap.get?_push_of_some _ q
  obtain ⟨l0, e1, e2⟩ := IsPart.raw pl
  obtain ⟨u0, e3, e4⟩ := IsPart.raw pu
  obtain ⟨k0, e5, e6⟩ := IsPart.raw ps
  have l00 : l0 = none := by cases l0 with | none => rfl | some p => cases e2
  have u00 : u0 = none := by cases u0 with | none => rfl | some p => cases e4
  obtain ⟨uk, k00⟩ : ∃ uk, k0 = some (-1, uk) := by
    cases k0 with
    | none => cases e6
    | some p =>
      obtain ⟨i, uk⟩ := p
      have : i = -1 := Option.some.inj e6
      subst this
      exact ⟨uk, rfl⟩
  subst l00 u00 k00 e1 e3 e5
  show wpAny (model X.prog X.w) X.A (subscriptTail e (.Slice none none (some (.UnaryOp .USub (.Constant (.int 1) k p1) p2)) p3) (.str z t) (.ref s4.heap.objs.size)) (EP X pins σ Q) X.xe { s4 with heap := s4.heap.push { cls := .type "slice", data := .fields #[partValue none, partValue none, partValue (some (-1, uk))] } }
  refine tail_any (ops := [.ref s4.heap.objs.size, .str z t]) (typeIs_str _ _ _) (PySem.F.slot_str_getitem.lookup) ?_ (by with_unfolding_all rfl)
  refine wpAny_getItem_str_slice (l := none) (u := none) (st := some (-1, uk)) ⟨_, Heap.get?_push_size _ rfl, rfl, rfl⟩ rfl ?_
  rw [sliceMade_rev]
  exact ⟨by rw [revS_length]; exact hz, .str (revS z), _, I5.tok _, ⟨_, rfl⟩, q⟩
end

/-! ### what repr shows -/
mutual
inductive Dq (K : PySem.W.Frag) (H : Hp) : V → PyData → Prop
  | non : Dq K H .non .none
  | bl (b : Bool) : Dq K H (.bl b) (.bool b)
  | int (i : Int) : Dq K H (.int i) (.int i)
  | str (x : Str) : Dq K H (.str x) (.str x)
  | lst {a : Addr} {xs : List V} {ds : List PyData} : SqL K H a xs → DqAll K H xs ds → Dq K H (.ref a) (.list ds)
  | tup {a : Addr} {xs : List V} {ds : List PyData} : SqT K H a xs → DqAll K H xs ds → Dq K H (.ref a) (.tuple ds)
  | dct {a : Addr} {kvs : List (Key × V)} {ds : List (PyData × PyData)} : H a = some (.dK kvs) → DqAll K H (kvs.map fun p => kV p.1) (ds.map (·.1)) → DqAll K H (kvs.map (·.2)) (ds.map (·.2)) → Dq K H (.ref a) (.dict ds)
inductive DqAll (K : PySem.W.Frag) (H : Hp) : List V → List PyData → Prop
  | nil : DqAll K H [] []
  | cons {v : V} {vs : List V} {d : PyData} {ds : List PyData} : Dq K H v d → DqAll K H vs ds → DqAll K H (v :: vs) (d :: ds)
end
mutual
theorem Dq.same {K : PySem.W.Frag} {H H' : Hp} (k : ∀ a, (∀ xs, SqL K H a xs → SqL K H' a xs) ∧ (∀ xs, SqT K H a xs → SqT K H' a xs) ∧ ∀ kvs, H a = some (.dK kvs) → H' a = some (.dK kvs)) : ∀ {v : V} {d : PyData}, Dq K H v d → Dq K H' v d
  | _, _, .non => .non
  | _, _, .bl b => .bl b
  | _, _, .int i => .int i
  | _, _, .str x => .str x
  | _, _, .lst h t => .lst ((k _).1 _ h) (DqAll.same k t)
  | _, _, .tup h t => .tup ((k _).2.1 _ h) (DqAll.same k t)
  | _, _, .dct h t u => .dct ((k _).2.2 _ h) (DqAll.same k t) (DqAll.same k u)
theorem DqAll.same {K : PySem.W.Frag} {H H' : Hp} (k : ∀ a, (∀ xs, SqL K H a xs → SqL K H' a xs) ∧ (∀ xs, SqT K H a xs → SqT K H' a xs) ∧ ∀ kvs, H a = some (.dK kvs) → H' a = some (.dK kvs)) : ∀ {vs : List V} {ds : List PyData}, DqAll K H vs ds → DqAll K H' vs ds
  | _, _, .nil => .nil
  | _, _, .cons h t => .cons (Dq.same k h) (DqAll.same k t)
end
theorem pairs_vals {P : Program} {w : World} : ∀ {es : List DictEntry} {vs : List (Key × Value)} {kvs : List (Key × V)}, Pairs (mixKind P w) es vs → KV kvs vs →
    Vals (kvs.map fun p => kV p.1) (es.map (·.key)) ∧ Vals (kvs.map (·.2)) (es.map (·.val))
  | _, _, _, .nil, .nil => ⟨.nil, .nil⟩
  | _, _, _, .cons h1 h2 h3, .cons q1 q2 => by
    obtain ⟨t1, t2⟩ := pairs_vals h3 q2
    refine ⟨.cons ?_ t1, .cons ?_ t2⟩
    · dsimp only; rw [q1.1]; exact keyIs_rel h1
    · dsimp only; rw [h2]; exact q1.2
section
variable {X : Cx} {pins : List (Addr × Obj)} {σ : L2.St} {H : Hp} {s : Shared}
mutual
theorem Dq.reads (I : Inv X pins σ H s) : ∀ {v : V} {d : PyData} (u : Value), Dq X.K H v d → RelV v u → ∃ as, Reads s.heap u d as
  | _, _, _, .non, r => by cases r; exact ⟨_, Reads.none⟩
  | _, _, _, .bl b, r => by cases r; exact ⟨_, Reads.bool b⟩
  | _, _, _, .int i, r => by obtain ⟨t, rfl⟩ := r; exact ⟨_, Reads.int i t⟩
  | _, _, _, .str x, r => by obtain ⟨t, rfl⟩ := r; exact ⟨_, Reads.str x t⟩
  | _, _, _, .lst hs ha, r => by
    cases r
    obtain ⟨its, rv, ⟨o, n, ho, hc, _, hd⟩, _⟩ := I.list hs
    obtain ⟨as, hr⟩ := DqAll.reads I its ha rv
    exact ⟨_, Reads.list ho hc hd hr⟩
  | _, _, _, .tup hs ha, r => by
    cases r
    obtain ⟨its, rv, ⟨o, ho, hc, n, hd⟩, _⟩ := I.tuple hs
    obtain ⟨as, hr⟩ := DqAll.reads I its ha rv
    exact ⟨_, Reads.tuple ho hc hd hr⟩
  | _, _, _, @Dq.dct _ _ a kvs ds ha h1 h2, r => by
    cases r
    obtain ⟨_, _, vs, kv, o, es, ep, ho, hx, hd, _, pr, _⟩ := dk_of I.hok ha
    obtain ⟨p1, p2⟩ := pairs_vals pr kv
    obtain ⟨as, q1⟩ := DqAll.reads I _ h1 p1
    obtain ⟨bs, q2⟩ := DqAll.reads I _ h2 p2
    exact ⟨_, Reads.dict ho hx.1 hd q1 q2⟩
theorem DqAll.reads (I : Inv X pins σ H s) : ∀ {vs : List V} {ds : List PyData} (us : List Value), DqAll X.K H vs ds → Vals vs us → ∃ as, ReadsAll s.heap us ds as
  | _, _, _, .nil, r => by cases r; exact ⟨_, ReadsAll.nil⟩
  | _, _, _, .cons h1 h2, r => by
    cases r with
    | cons r1 r2 =>
      obtain ⟨as, q1⟩ := Dq.reads I _ h1 r1
      obtain ⟨bs, q2⟩ := DqAll.reads I _ h2 r2
      exact ⟨_, ReadsAll.cons q1 q2⟩
end

/-- what has no object of its own -/
def flatD : PyData → Bool
  | .none | .bool _ | .int _ | .str _ => true
  | _ => false
theorem DqAll.flat (I : Inv X pins σ H s) : ∀ {vs : List V} {ds : List PyData} (us : List Value), DqAll X.K H vs ds → ds.all flatD = true → Vals vs us → ReadsAll s.heap us ds []
  | _, _, _, .nil, _, r => by cases r; exact ReadsAll.nil
  | _, _, _, .cons h1 h2, f, r => by
    cases r with
    | cons r1 r2 =>
      rw [List.all_cons, Bool.and_eq_true] at f
      have q2 := DqAll.flat I _ h2 f.2 r2
      cases h1 with
      | non => cases r1; exact ReadsAll.cons Reads.none q2
      | bl b => cases r1; exact ReadsAll.cons (Reads.bool b) q2
      | int i => obtain ⟨t, rfl⟩ := r1; exact ReadsAll.cons (Reads.int i t) q2
      | str x => obtain ⟨t, rfl⟩ := r1; exact ReadsAll.cons (Reads.str x t) q2
      | _ => cases f.1
/-- no dict within, or itself a dict of what has no object of its own -/
def dictFlat : PyData → Bool
  | .dict kvs => (kvs.map (·.1)).all flatD && (kvs.map (·.2)).all flatD
  | d => !d.hasDict
theorem Dq.readsF (I : Inv X pins σ H s) {v : V} {d : PyData} (u : Value) (h : Dq X.K H v d) (r : RelV v u) (f : dictFlat d = true) : ∃ as, Reads s.heap u d as ∧ (d.hasDict = true → sysModules ∉ as) := by
  cases h with
  | @dct a kvs ds ha h1 h2 =>
    cases r
    obtain ⟨_, hsy, vs, kv, o, es, ep, ho, hx, hd, _, pr, _⟩ := dk_of I.hok ha
    obtain ⟨p1, p2⟩ := pairs_vals pr kv
    have f' : ((ds.map (·.1)).all flatD && (ds.map (·.2)).all flatD) = true := f
    rw [Bool.and_eq_true] at f'
    refine ⟨_, Reads.dict ho hx.1 hd (DqAll.flat I _ h1 f'.1 p1) (DqAll.flat I _ h2 f'.2 p2), fun _ m => ?_⟩
    have m' : sysModules = a := by simpa using m
    rw [m'] at hsy
    simp at hsy
  | non => exact (Dq.reads I u .non r).imp fun as q => ⟨q, fun z => by cases z⟩
  | bl b => exact (Dq.reads I u (.bl b) r).imp fun as q => ⟨q, fun z => by cases z⟩
  | int i => exact (Dq.reads I u (.int i) r).imp fun as q => ⟨q, fun z => by cases z⟩
  | str x => exact (Dq.reads I u (.str x) r).imp fun as q => ⟨q, fun z => by cases z⟩
  | lst hs ha =>
    have f' : (!(PyData.list _).hasDict) = true := f
    exact (Dq.reads I u (.lst hs ha) r).imp fun as q => ⟨q, fun z => by rw [z] at f'; cases f'⟩
  | tup hs ha =>
    have f' : (!(PyData.tuple _).hasDict) = true := f
    exact (Dq.reads I u (.tup hs ha) r).imp fun as q => ⟨q, fun z => by rw [z] at f'; cases f'⟩
end
section
variable {X : Cx}
/-- repr(x) -/
def rRepr (K : PySem.W.Frag) : List V → Hp → VK → Prop := fun xs H Q => ∃ (x : V) (d : PyData), xs = [x] ∧ Dq K H x d ∧ dictFlat d = true ∧ d.showable = true ∧ d.shown.length ≤ sizeLine ∧ d.depth ≤ 50 ∧ Q (.str d.shown) H
theorem cr_repr (hg : X.A.guards = some []) (hu : X.A.units + 64 < cLine) : CallR X (.builtin "repr") (rRepr X.K) := by
  intro pins s σ H xs us Q I r h
  obtain ⟨x, d, rfl, hd, hf, hs, hl, hdep, q⟩ := h
  obtain ⟨u, rfl, rx⟩ := vals1 r
  obtain ⟨as, hr, hsm⟩ := Dq.readsF I u hd rx hf
  have hfin : ∀ (h' : Heap) (t : Tok) (tk : Nat), (∀ b o, s.heap.get? b = some o → h'.get? b = some o) → EP X pins σ Q (.str d.shown t) { s with heap := h', toks := tk } :=
    fun h' t tk k => ⟨.str d.shown, H, I.kept (t' := tk) k, ⟨t, rfl⟩, q⟩
  have hsame : EP X pins σ Q (.str d.shown s.toks) { s with toks := s.toks + 1 } := hfin s.heap s.toks (s.toks + 1) fun _ _ e => e
  cases hd with
  | non => cases rx; exact PySem.P.repr_of_none hsame
  | bl b => cases rx; exact PySem.P.repr_of_bool hsame
  | int i =>
    obtain ⟨t, rfl⟩ := rx
    exact PySem.P.repr_of_int (of_decide_eq_true hs) hsame
  | str y =>
    obtain ⟨t, rfl⟩ := rx
    exact PySem.P.repr_of_str hsame hl
  | lst => cases rx; exact repr_of_reads' hr hs hsm hg (by omega) (fun _ _ e => e) hfin hl
  | tup => cases rx; exact repr_of_reads' hr hs hsm hg (by omega) (fun _ _ e => e) hfin hl
  | dct => cases rx; exact repr_of_reads' hr hs hsm hg (by omega) (fun _ _ e => e) hfin hl
end
end Ami

set_option Elab.async false
set_option linter.all false
set_option maxRecDepth 100000
set_option maxHeartbeats 2000000
namespace Ami
open PySem PySem.Spec PyProof.Rows L2

/-- the key that a member of a set stands for -/
def kOf : Value → Key
  | .int i _ => .inl i
  | .str x _ => .inr x
  | _ => .inl 0
theorem kOf_is {k : Key} {v : Value} (h : keyIs k v = true) : kOf v = k := by
  rcases keyIs_shape h with ⟨i, t, rfl, rfl⟩ | ⟨x, t, rfl, rfl⟩ <;> rfl
def Mem (w : World) (e : Int × Value) : Prop := keyIs (kOf e.2) e.2 = true ∧ e.1 = keyH w (kOf e.2)
theorem scan_of {k : Key} {v : Value} (h : keyIs k v = true) : v.scannable = true := by
  rcases keyIs_shape h with ⟨i, t, rfl, rfl⟩ | ⟨x, t, rfl, rfl⟩ <;> rfl
abbrev keysIn (es : List (Int × Value)) : List Key := es.map fun e => kOf e.2

/-- at a stands a set; its members are the keys of l, each once there -/
def SetW (w : World) (h : Heap) (a : Addr) (l : List Key) : Prop :=
  ∃ o es ep t, h.get? a = some o ∧ o.ExactSet ∧ o.data = .set es ep t ∧ (∀ e ∈ es.toList, Mem w e) ∧ (keysIn es.toList).Nodup ∧ l.Perm (keysIn es.toList) ∧
    es.size < scanBound ∧ t.fits es.size = true ∧ Ris t.place.toList ∧ (w.params.followText "set-order" = true ∨ t.led = true)

section
variable {P : Program} {w : World} {h h' : Heap} {a : Addr} {l l' : List Key}
theorem SetW.at (R : SetW w h a l) (k : ∀ o, h.get? a = some o → h'.get? a = some o) : SetW w h' a l := by
  obtain ⟨o, es, ep, t, ho, r⟩ := R
  exact ⟨o, es, ep, t, k o ho, r⟩
theorem SetW.congr (R : SetW w h a l) (e : l'.Perm l) : SetW w h a l' := by
  obtain ⟨o, es, ep, t, ho, x, d, g, nd, m, r⟩ := R
  exact ⟨o, es, ep, t, ho, x, d, g, nd, e.trans m, r⟩
theorem SetW.nodup (R : SetW w h a l) : l.Nodup := by
  obtain ⟨o, es, ep, t, ho, x, d, g, nd, m, r⟩ := R
  exact m.nodup_iff.mpr nd
theorem elems_of {es : List (Int × Value)} (g : ∀ e ∈ es, Mem w e) : ElemsOf (mixKind P w) es := fun e he => ⟨⟨_, (g e he).1, (g e he).2⟩, scan_of (g e he).1⟩
theorem find_iff {es : List (Int × Value)} (g : ∀ e ∈ es, Mem w e) (k : Key) : k ∈ keysIn es ↔ ∃ e ∈ es, (mixKind P w).is k e.2 = true := by
  constructor
  · intro m
    obtain ⟨e, he, q⟩ := List.mem_map.mp m
    exact ⟨e, he, by rw [← q]; exact (g e he).1⟩
  · rintro ⟨e, he, q⟩
    exact List.mem_map.mpr ⟨e, he, kOf_is q⟩
theorem SetW.setOf (R : SetW w h a l) (S : Key → Bool) (hS : ∀ k, S k = true ↔ k ∈ l) : ∃ n, h.SetOf (mixKind P w) a S n := by
  obtain ⟨o, es, ep, t, ho, x, d, g, nd, m, b, f, r⟩ := R
  exact ⟨_, o, es, ep, t, ho, x, d, elems_of g, fun k => by rw [hS k, m.mem_iff]; exact find_iff g k, b, f, rfl⟩
theorem setW_fresh (w : World) (led : Bool) (hl : w.params.followText "set-order" = true ∨ led = true) :
    SetW w (h.push { cls := .type "set", dict := none, data := .set #[] 0 (.fresh 0 0 led) }) h.objs.size [] :=
  ⟨_, #[], 0, _, Heap.get?_push_size _ rfl, ⟨rfl, rfl, rfl⟩, rfl, (fun e he => by simp at he), List.nodup_nil, List.Perm.nil, (by decide), (by rfl), List.Pairwise.nil, hl⟩
end

section
variable {P : Program} {w : World} {A : Around} {E : Value → Shared → Prop} {s : Shared} {a : Addr} {l : List Key}

/-- the last part of an add: the entries are stored, and laid anew where the table is too full -/
theorem tail_w {g : Bool → Sem Unit} (hg : ∀ (b : Bool) (s₁ : Shared) (Q' : Unit → Shared → Prop), Q' () s₁ → wpAny (model P w) A (g b) Q' E s₁)
    {o : Obj} {es : Array (Int × Value)} {ep : Nat} {t : SetTable} (ho : s.heap.get? a = some o) (hx : o.ExactSet) (hd : o.data = .set es ep t)
    {es1 : Array (Int × Value)} {t1 : SetTable} {l1 : List Key} (g1 : ∀ e ∈ es1.toList, Mem w e) (nd1 : (keysIn es1.toList).Nodup) (m1 : l1.Perm (keysIn es1.toList))
    (hb : es1.size < scanBound) (hf : t1.fits es1.size = true) (hr : Ris t1.place.toList) (hl : w.params.followText "set-order" = true ∨ t1.led = true) {dummy : Bool} {R : Option Bool → Shared → Prop}
    (hR : ∀ h', Heap.SameBut a s.heap h' → SetW w h' a l1 → R (some true) { s with heap := h' }) :
    wpAny (model P w) A (do
        storeSet a es1 t1
        if (!dummy && t1.tooFull) = true then do
            g (relayAll t1 es1 (SetTable.grown es1.size)).2.2
            storeSet a (relayAll t1 es1 (SetTable.grown es1.size)).1 (relayAll t1 es1 (SetTable.grown es1.size)).2.1
            pure (some true)
          else pure (some true)) R E s := by
  have same1 := Heap.SameBut.update s.heap a (Obj.putSet es1 t1)
  have at1 := store_at (es' := es1) (t' := t1) ho hd
  refine wpAny_bind (wpAny_storeSet_of ho hd ?_ (fits_of_scanBound hb))
  by_cases c : (!dummy && t1.tooFull) = true
  · rw [if_pos c]
    obtain ⟨es2, t2, gave, eZ⟩ : ∃ es2 t2 gave, relayAll t1 es1 (SetTable.grown es1.size) = (es2, t2, gave) := ⟨_, _, _, rfl⟩
    have pm := relayAll_perm t1 es1 (SetTable.grown es1.size)
    have hf2 := relayAll_fits t1 es1 (SetTable.grown es1.size)
    have hr2 := relayAll_ris t1 es1 (SetTable.grown es1.size)
    have hl2 := relayAll_led t1 es1 (SetTable.grown es1.size)
    rw [eZ] at pm hf2 hr2 hl2 ⊢
    have hsz : es2.size = es1.size := by rw [← Array.length_toList, pm.length_eq, Array.length_toList]
    have pk : (keysIn es2.toList).Perm (keysIn es1.toList) := pm.map _
    refine wpAny_bind (hg _ _ _ ?_)
    refine wpAny_bind (wpAny_storeSet_of at1 rfl ?_ (fits_of_scanBound (by rw [hsz]; exact hb)))
    refine wpAny_pure (hR _ (same1.trans (Heap.SameBut.update _ a _)) ⟨_, es2, _, t2, store_at (es' := es2) (t' := t2) at1 rfl, hx, rfl, fun e he => g1 e (pm.mem_iff.mp he), pk.nodup_iff.mpr nd1,
      m1.trans pk.symm, by rw [hsz]; exact hb, hf2, hr2, hl.imp id fun z => hl2.trans z⟩)
  · rw [if_neg c]
    exact wpAny_pure (hR _ same1 ⟨_, es1, _, t1, at1, hx, rfl, g1, nd1, m1, hb, hf, hr, hl⟩)

/-- a key is added -/
theorem add_w {k : Key} {v : Value} {Q : Bool → Shared → Prop} (R : SetW w s.heap a l) (hk : keyIs k v = true) (room : l.length + 1 < scanBound)
    (hQ : ∀ (b : Bool) (h' : Heap) (l' : List Key), Heap.SameBut a s.heap h' → SetW w h' a l' → (k ∈ l → l' = l) → (k ∉ l → l' = k :: l) → Q b { s with heap := h' }) :
    wpAny (model P w) A (setAddHashed a v (keyH w k)) Q E s := by
  obtain ⟨o, es, ep, t, ho, hx, hd, g, ndE, m, hb, hf, hr, hl⟩ := R
  have el : ElemsOf (mixKind P w) es.toList := elems_of g
  have hsc := scan_of hk
  have hsize : es.size = l.length := by
    have := m.symm.length_eq
    rw [List.length_map, Array.length_toList] at this
    exact this
  unfold setAddHashed setAddHashedIn
  refine wpAny_holding (wpAny_bind (wpAny_setState_of ho hd hf ?_))
  dsimp only
  rw [byScan_of hsc hb el]
  simp only [↓reduceIte]
  unfold setAddByScan
  refine wpAny_bind ?_
  refine wpAny_bind (wpAny_rule ?_)
  refine wpAny_bind (wpAny_setScan_of (knd := mixKind P w) (k := k) hk ho hd hf el ?_)
  cases hfi : List.findIdx? (fun e => (mixKind P w).is k e.2) es.toList with
  | some j =>
    dsimp only
    obtain ⟨hj, pj, _⟩ := List.findIdx?_eq_some_iff_getElem.mp hfi
    have hkl : k ∈ l := m.mem_iff.mpr ((find_iff (P := P) g k).mpr ⟨_, List.getElem_mem hj, pj⟩)
    refine wpAny_pure (wpAny_pure ?_)
    exact hQ _ s.heap l (Heap.SameBut.refl a s.heap) ⟨o, es, ep, t, ho, hx, hd, g, ndE, m, hb, hf, hr, hl⟩ (fun _ => rfl) fun z => absurd hkl z
  | none =>
    dsimp only
    have hnk : k ∉ keysIn es.toList := fun z => by
      obtain ⟨e, he, q⟩ := (find_iff (P := P) g k).mp z
      have := List.findIdx?_eq_none_iff.mp hfi e he
      rw [q] at this
      cases this
    have hkl : k ∉ l := fun z => hnk (m.mem_iff.mp z)
    have gave : ∀ (b : Bool) {s₁ : Shared} {Q' : Unit → Shared → Prop}, Q' () s₁ → wpAny (model P w) A (match b with | true => rule "set.scan.the-table-gave-way" | false => pure ()) Q' E s₁ :=
      fun b s₁ Q' q => by cases b with | true => exact wpAny_rule q | false => exact wpAny_pure q
    obtain ⟨es1, t1, dummy, gv, eZ⟩ : ∃ es1 t1 dummy gv, layNew t es (keyH w k) v = (es1, t1, dummy, gv) := ⟨_, _, _, _, rfl⟩
    have pm := layNew_perm t es (keyH w k) v
    have hf1 := layNew_fits t es (keyH w k) v
    have hr1 := layNew_ris t es (keyH w k) v hr
    have hl1 := layNew_led t es (keyH w k) v
    have eZ' : layNew t es ((mixKind P w).hash k) v = (es1, t1, dummy, gv) := eZ
    rw [eZ] at pm hf1 hr1 hl1
    rw [eZ]
    dsimp only at pm hf1 hr1 hl1 ⊢
    rw [Array.toList_push] at pm
    have pc : es1.toList.Perm ((keyH w k, v) :: es.toList) := pm.trans (List.perm_append_singleton _ _)
    have pk : (keysIn es1.toList).Perm (k :: keysIn es.toList) := by
      have q := pc.map fun e : Int × Value => kOf e.2
      rw [List.map_cons, kOf_is hk] at q
      exact q
    have g1 : ∀ e ∈ es1.toList, Mem w e := fun e he => by
      rcases List.mem_cons.mp (pc.mem_iff.mp he) with z | z
      · rw [z]
        have e1 := kOf_is hk
        exact ⟨by show keyIs (kOf v) v = true; rw [e1]; exact hk, by show keyH w k = keyH w (kOf v); rw [e1]⟩
      · exact g e z
    have nd1 : (keysIn es1.toList).Nodup := pk.nodup_iff.mpr (List.nodup_cons.mpr ⟨hnk, ndE⟩)
    have m1 : (k :: l).Perm (keysIn es1.toList) := (m.cons k).trans pk.symm
    have hb1 : es1.size < scanBound := by
      have : es1.size = es.size + 1 := by rw [← Array.length_toList, pc.length_eq, List.length_cons, Array.length_toList]
      omega
    have led1 : w.params.followText "set-order" = true ∨ t1.led = true := hl.imp id fun z => hl1.trans z
    refine wpAny_bind (gave _ ?_)
    by_cases hpl : t1.plain = true
    · rw [if_pos hpl]
      refine wpAny_bind ?_
      rw [hashByValue_scannable 8 hsc]
      refine wpAny_pure ?_
      refine tail_w ?_ ho hx hd g1 nd1 m1 hb1 ?_ ?_ ?_ fun h' sb r => wpAny_pure (hQ _ h' (k :: l) sb r (fun z => absurd z hkl) fun _ => rfl)
      · intro b s₁ Q' q; exact gave b q
      · split
        · exact hf1
        · exact SetTable.fits_plain_off hf1
      · split <;> exact hr1
      · split <;> exact led1
    · rw [if_neg hpl]
      refine wpAny_bind (wpAny_pure ?_)
      simp only [↓reduceIte]
      refine tail_w ?_ ho hx hd g1 nd1 m1 hb1 hf1 hr1 led1 fun h' sb r => wpAny_pure (hQ _ h' (k :: l) sb r (fun z => absurd z hkl) fun _ => rfl)
      intro b s₁ Q' q; exact gave b q

/-- what is walked goes into the set -/
theorem loop_w {I : Addr} {fp : List Addr} {n : Nat} {Pv : Nat → Value → Prop} {St : Nat → Heap → Prop} (W : Walks P w A.in1 I fp [I] n Pv St) (haf : a ∉ fp) (hfI : I ∈ fp) {f : Nat → Key} (hf : ∀ i v, i < n → Pv i v → keyIs (f i) v = true) {R : Result → Shared → Prop} :
    ∀ (m i : Nat) (l : List Key) (s : Shared), n - i = m → i ≤ n → SetW w s.heap a l → St i s.heap → l.length + m < scanBound →
    (∀ (h' : Heap) (tk : Nat) (l' : List Key), (∀ b o, b ≠ a → b ≠ I → s.heap.get? b = some o → h'.get? b = some o) →
      SetW w h' a l' → (∀ k, k ∈ l' ↔ k ∈ l ∨ ∃ j, i ≤ j ∧ j < n ∧ k = f j) → R (.ok (.ret .none)) { s with heap := h', toks := tk }) →
    codeAny (model P w) A (.builtin "set.update.loop" ⟨[.ref a, .ref I], []⟩) R s := by
  have haI : a ≠ I := fun e => haf (e ▸ hfI)
  intro m
  induction m with
  | zero =>
    intro i l s hm hi ha hst hb h
    have hin : i = n := by omega
    subst hin
    refine codeAny_builtin PyProof.Rows.F.entry_set_update_loop ?_
    rw [Around.under_plainId PyProof.Rows.F.plain_set_update_loop _]
    show wpAny _ A.in1 (pyNext (.ref I) >>= _) _ _ s
    refine wpAny_bind (W.done s _ _ hst fun h' tk hk => ?_)
    show wpAny _ A.in1 (ret Value.none) _ _ _
    refine wpAny_pure (h h' tk l (fun b o _ hb e => hk b o (by simpa using hb) e) (ha.at fun o e => hk a o (by simpa using haI) e) fun k => ⟨.inl, fun z => z.elim id fun ⟨j, h1, h2, _⟩ => by omega⟩)
  | succ m ih =>
    intro i l s hm hi ha hst hb h
    have hlt : i < n := by omega
    refine codeAny_builtin PyProof.Rows.F.entry_set_update_loop ?_
    rw [Around.under_plainId PyProof.Rows.F.plain_set_update_loop _]
    show wpAny _ A.in1 (pyNext (.ref I) >>= _) _ _ s
    refine wpAny_bind (W.item i s _ _ hlt hst fun v h1 tk hP hst1 hk1 => ?_)
    have hkey : keyIs (f i) v = true := hf i v hlt hP
    show wpAny _ A.in1 (holding [v] (setAdd a v) >>= _) _ _ _
    refine wpAny_bind (wpAny_holding ?_)
    unfold setAdd
    refine wpAny_holding ?_
    refine wpAny_bind ((mixKind P w).pyHash (k := f i) hkey ?_)
    refine add_w (s := { s with heap := h1, toks := tk + 1 }) (ha.at fun o e => hk1 a o (by simpa using haI) e) hkey (by omega) fun b h2 l2 sb R2 q1 q2 => ?_
    have hl2 : l2.length ≤ l.length + 1 := by
      rcases Classical.em (f i ∈ l) with z | z
      · rw [q1 z]; omega
      · rw [q2 z, List.length_cons]; omega
    have hm2 : ∀ k, k ∈ l2 ↔ k ∈ l ∨ k = f i := fun k => by
      rcases Classical.em (f i ∈ l) with z | z
      · rw [q1 z]
        exact ⟨.inl, fun y => y.elim id fun e => e ▸ z⟩
      · rw [q2 z, List.mem_cons]
        exact Or.comm
    have hst2 : St (i + 1) h2 := W.frame _ _ _ hst1 fun c hc o e => (sb.2 c fun z => haf (z ▸ hc)).trans e
    refine wpAny_pure ⟨plainId_quiet PyProof.Rows.F.plain_set_update_loop _, ih (i + 1) l2 { s with heap := h2, toks := tk + 1 } (by omega) hlt R2 hst2 (by omega) fun h3 tk3 l3 k3 R3 m3 => ?_⟩
    refine h h3 tk3 l3 (fun c o hc1 hc2 e => k3 c o hc1 hc2 ((sb.2 c hc1).trans (hk1 c o (by simpa using hc2) e))) R3 fun k => ?_
    rw [m3 k, hm2 k]
    constructor
    · rintro ((q | q) | ⟨j, j1, j2, q⟩)
      · exact .inl q
      · exact .inr ⟨i, Nat.le_refl _, hlt, q⟩
      · exact .inr ⟨j, by omega, j2, q⟩
    · rintro (q | ⟨j, j1, j2, q⟩)
      · exact .inl (.inl q)
      · by_cases e : j = i
        · subst e; exact .inl (.inr q)
        · exact .inr ⟨j, by omega, j2, q⟩


theorem new_led (v : Value) {Q₁ : Value → Shared → Prop}
    (h : Q₁ (.ref s.heap.objs.size) { s with heap := s.heap.push { cls := .type "set", dict := none, data := .set #[] 0 (.fresh 0 0 (!w.params.followText "set-order")) } }) :
    codeAny (model P w) A (.call (.builtin "set.__new__") ⟨[.type "set", v], []⟩) (wants Q₁ E) s := by
  refine codeAny_of_tree ?_
  show wpAny _ A.in1 (do checkBuiltinCall "set.__new__" ⟨[.type "set", v], []⟩; again (.builtin "set.__new__" ⟨[.type "set", v], []⟩)) _ _ s
  refine wpAny_bind (wpAny_of_eq (PySem.F.newCall_set_1 v) (wpAny_pure ⟨plainId_quiet PySem.F.plain_set_new _, codeAny_builtin PySem.F.entry_set_new ?_⟩))
  rw [Around.under_plainId PySem.F.plain_set_new _]
  have hsub := PySem.sub_set_self
  unfold Builtin.«set.__new__» Builtin.Frozenset.newClass
  obtain ⟨hp, g, d, tk, os⟩ := s
  dsimp only
  wp_walk
  refine wpAny_askSetting (wpAny_pure ?_)
  dsimp only
  simp only [newObj]
  refine wpAny_bind (wpAny_alloc (wpAny_pure ?_))
  exact wpAny_pure h

/-- set(v): what is needed of v and its walk -/
structure Fills (P : Program) (w : World) (h : Heap) (v : Value) (T : String) (n : Nat) (f : Nat → Key) : Prop where
  ty : ∀ s' : Shared, (∀ b o, h.get? b = some o → s'.heap.get? b = some o) → s'.TypeIs v T
  s1 : isSubtype (.type T) (.type "set") = pure false
  s2 : isSubtype (.type T) (.type "frozenset") = pure false
  nd : (Value.type T == Value.type "dict") = false
  it : ∀ (A : Around) (E : Value → Shared → Prop) (s' : Shared) (Q : Value → Shared → Prop), (∀ b o, h.get? b = some o → s'.heap.get? b = some o) →
    (∀ (h' : Heap) (I : Addr) (fp : List Addr) (Pv : Nat → Value → Prop) (St : Nat → Heap → Prop), (∀ b o, s'.heap.get? b = some o → h'.get? b = some o) → s'.heap.objs.size ≤ I → I ∈ fp → (∀ b ∈ fp, b = I ∨ ∃ o, h.get? b = some o) →
      (∀ A2 : Around, A2.handled = none → Walks P w A2 I fp [I] n Pv St) → St 0 h' → (∀ i v, i < n → Pv i v → keyIs (f i) v = true) → Q (.ref I) { s' with heap := h' }) → wpAny (model P w) A (pyIter v) Q E s'

end
end Ami

set_option Elab.async false
set_option linter.all false
set_option maxRecDepth 100000
set_option maxHeartbeats 2000000
namespace Ami
open PySem PySem.Spec PyProof.Rows L2
section
variable {P : Program} {w : World} {A : Around} {E : Value → Shared → Prop} {s : Shared} {a : Addr} {l : List Key}
set_option maxHeartbeats 4000000 in
theorem call_set_w {v : Value} {T : String} {n : Nat} {f : Nat → Key} {Q : Value → Shared → Prop} (hh : A.handled = none) (hn : n < scanBound) (F : Fills P w s.heap v T n f)
    (h : ∀ (h' : Heap) (tk : Nat) (l : List Key), (∀ b o, s.heap.get? b = some o → h'.get? b = some o) → SetW w h' s.heap.objs.size l → (∀ k, k ∈ l ↔ ∃ j, j < n ∧ k = f j) → Q (.ref s.heap.objs.size) { s with heap := h', toks := tk }) :
    wpAny (model P w) A (call (.type "set") [v]) Q E s := by
  obtain ⟨c, tl, hmro⟩ := PySem.F.called_set.mro
  have hmade := PySem.F.called_set.made
  have hsub := PySem.F.called_set.sub
  have keep0 : ∀ b o, s.heap.get? b = some o → (s.heap.push { cls := .type "set", dict := none, data := .set #[] 0 (.fresh 0 0 (!w.params.followText "set-order")) }).get? b = some o := fun b o e => Heap.get?_push_of_some _ e
  refine wpAny_call (codeAny_of_tree ?_)
  show wpAny _ _ (callAny (.type "set") _) _ _ _
  refine wpAny_pure ⟨Code.quiet_builtin _ (by decide +kernel), codeAny_builtin PySem.F.entry_type_call ?_⟩
  rw [Around.under_plain (weight_type_call_type "set" [v] []) rfl]
  have h1 := PySem.F.called_set.notType
  have h2 := PySem.F.called_set.canCreate
  have hct := PySem.F.typeCall_set_1 v
  repeat (any_goals (first | assumption | wp_step))
  refine codeAny_mono (new_led v (E := E) (Q₁ := fun obj s₁ => obj = .ref s.heap.objs.size ∧ s₁ = { s with heap := s.heap.push { cls := .type "set", dict := none, data := .set #[] 0 (.fresh 0 0 (!w.params.followText "set-order")) } }) ⟨rfl, rfl⟩) fun r s₁ hr => ?_
  cases r with
  | error e => exact hr
  | ok fl =>
    cases fl with
    | ret obj =>
      obtain ⟨rfl, rfl⟩ := hr
      have hS : (s.heap.push { cls := .type "set", dict := none, data := .set #[] 0 (.fresh 0 0 (!w.params.followText "set-order")) }).get? s.heap.objs.size = some { cls := .type "set", dict := none, data := .set #[] 0 (.fresh 0 0 (!w.params.followText "set-order")) } := Heap.get?_push_size _ rfl
      have hT : Shared.TypeIs { s with heap := s.heap.push { cls := .type "set", dict := none, data := .set #[] 0 (.fresh 0 0 (!w.params.followText "set-order")) } } (.ref s.heap.objs.size) "set" := ⟨_, hS, rfl⟩
      have hli := PySem.F.called_set.init.lookup
      have hbi := PySem.F.called_set.init.bind (.ref s.heap.objs.size)
      repeat (any_goals (first | assumption | wp_step))
      refine codeAny_mono (codeAny_call_builtin (R := wants (fun r s₂ => r = .none ∧ ∃ h' tk l, s₂ = { s with heap := h', toks := tk } ∧ (∀ b o, s.heap.get? b = some o → h'.get? b = some o) ∧ SetW w h' s.heap.objs.size l ∧
          (∀ k, k ∈ l ↔ ∃ j, j < n ∧ k = f j)) E) PySem.F.called_set.init.plain PySem.F.entry_set_init (PySem.check_set_init_1 hT ?_)) fun r₂ s₂ hr₂ => ?_
      · have hTv := F.ty { s with heap := s.heap.push { cls := .type "set", dict := none, data := .set #[] 0 (.fresh 0 0 (!w.params.followText "set-order")) } } keep0
        have q1 := F.s1
        have q2 := F.s2
        have q3 := F.nd
        unfold Builtin.«set.__init__» noKeywords Builtin.Frozenset.updateFrom
        generalize hPI : pyIter = PI
        wp_walk
        subst hPI
        refine F.it _ _ _ _ keep0 fun h1' I fp Pv St k1 hI hfI hfp W st hkey => ?_
        have hI' : s.heap.objs.size + 1 ≤ I := by
          have z := hI
          simp only [Heap.size_push] at z
          exact z
        have haf : s.heap.objs.size ∉ fp := fun m => by
          rcases hfp _ m with z | ⟨o, z⟩
          · exact absurd hI' (by rw [← z]; exact Nat.not_succ_le_self _)
          · exact absurd (Heap.lt_size z) (Nat.lt_irrefl _)
        refine wpAny_bind (wpAny_runValue ?_)
        refine loop_w (A := A.in1.in1) (W _ (by simp [hh])) haf hfI hkey n 0 [] _ (Nat.sub_zero n) (Nat.zero_le _) ((setW_fresh w _ ?_).at fun o e => k1 _ o e) st (by simpa using hn) fun h2 tk l2 k2 R2 m2 => ?_
        · cases w.params.followText "set-order"
          · exact .inr rfl
          · exact .inl rfl
        · refine wpAny_pure ?_
          show wpAny _ _ (ret Value.none) _ _ _
          refine wpAny_pure ⟨rfl, h2, tk, l2, rfl, fun b o e => ?_, R2, fun k => ?_⟩
          · have hb := Heap.lt_size e
            exact k2 b o (Nat.ne_of_lt hb) (Nat.ne_of_lt (Nat.lt_of_lt_of_le hb (Nat.le_of_succ_le hI'))) (k1 b o (keep0 b o e))
          · rw [m2 k]
            constructor
            · rintro (z | ⟨j, _, h2, h3⟩)
              · cases z
              · exact ⟨j, h2, h3⟩
            · rintro ⟨j, h2, h3⟩
              exact .inr ⟨j, Nat.zero_le _, h2, h3⟩
      · cases r₂ with
        | error e => exact hr₂
        | ok fl₂ =>
          cases fl₂ with
          | ret r =>
            obtain ⟨rfl, h', tk, l, rfl, hk', hS', hm'⟩ := hr₂
            repeat (any_goals (first | assumption | wp_step))
            exact h _ _ l hk' hS' hm'
          | _ => exact hr₂.elim
    | _ => exact hr.elim

/-- a text's signs fill a set -/
theorem fills_text {x : Str} {t : Tok} {h : Heap} : Fills P w h (.str x t) "str" x.cps.size (fun i => .inr (one (x.cps.getD i 0))) where
  ty := fun s' _ => typeIs_str s' x t
  s1 := by rw [isSubtype_type]; kernel_rfl
  s2 := by rw [isSubtype_type]; kernel_rfl
  nd := by decide
  it := fun A E s' Q k hq => by
    refine wpAny_pyIter_str fun o St W hst => ?_
    refine hq _ s'.heap.objs.size [s'.heap.objs.size] (SignAt x) St (fun b o' e => Heap.get?_push_of_some _ e) (Nat.le_refl _) (List.mem_singleton.mpr rfl) (fun b hb => .inl (List.mem_singleton.mp hb)) (fun A2 h2 => W A2 h2) hst fun i v hi hv => ?_
    obtain ⟨c, u, e1, e2⟩ := hv
    subst e2
    have e3 : x.cps.getD i 0 = c := by
      rw [Array.getD_eq_getD_getElem?, e1]; rfl
    rw [e3]
    exact keyIs_str _ _
end
end Ami

set_option Elab.async false
set_option linter.all false
set_option maxRecDepth 100000
set_option maxHeartbeats 2000000
namespace Ami
open PySem PySem.Spec PyProof.Rows L2
section
variable {P : Program} {w : World} {A : Around} {E : Value → Shared → Prop} {s : Shared} {a : Addr} {l : List Key}
theorem strs_of_keys : ∀ {us : List Value} {ss : List Str}, us.map kOf = ss.map Sum.inr → (∀ v ∈ us, keyIs (kOf v) v = true) → StrsAre us ss
  | [], [], _, _ => .nil
  | [], _ :: _, e, _ => by cases e
  | _ :: _, [], e, _ => by cases e
  | v :: us, x :: ss, e, g => by
    rw [List.map_cons, List.map_cons] at e
    obtain ⟨e1, e2⟩ := List.cons.inj e
    have h1 := g v List.mem_cons_self
    rw [e1] at h1
    obtain ⟨t, rfl⟩ : ∃ t, v = .str x t := by
      rcases keyIs_shape h1 with ⟨i, t, h, _⟩ | ⟨y, t, h, h2⟩
      · cases h
      · cases h; exact ⟨t, h2⟩
    exact .cons x t (strs_of_keys e2 fun u hu => g u (List.mem_cons_of_mem _ hu))

/-- sorted of a set of texts -/
theorem sorted_w {ss : List Str} {Q : Value → Shared → Prop} (R : SetW w s.heap a (ss.map Sum.inr)) (hh : A.handled = none) (h64 : ss.length < 64)
    (hQ : ∀ s' p (out : Array Value) (c : Nat) (ys : List Str), (∀ b o, s.heap.get? b = some o → s'.heap.get? b = some o) → s'.gens = s.gens → s'.os = s.os → s.heap.objs.size ≤ p →
      s'.heap.get? p = some (seqObj "list" out c) → StrsAre out.toList ys → ys.Perm ss → sortedS ys = true → Q (.ref p) s') :
    wpAny (model P w) A (call (.builtin "sorted") [.ref a]) Q E s := by
  obtain ⟨o, es, ep, t, ho, hx, hd, g, nd, m, hb, hf, hr, hl⟩ := R
  refine Calls.call_function_entry kind_sorted plain_sorted entry_sorted (args_sorted1 _) ?_
  unfold Builtin.«sorted»
  refine wpAny_bind (m := checkCount "sorted" 1 1 _) (wpAny_pure ?_)
  refine wpAny_bind (collect_set (A := A.in1) hh ⟨o, ho, hx.1, hd⟩ hf hb hr hl fun s1 vs k1 hz g1 o1 pm => ?_)
  have pk : (vs.map kOf).Perm (ss.map Sum.inr) := by
    have q := pm.map kOf
    rw [List.map_map] at q
    exact q.trans m.symm
  obtain ⟨ts, et, pt⟩ : ∃ ts : List Str, vs.map kOf = ts.map Sum.inr ∧ ts.Perm ss := by
    refine ⟨(vs.map kOf).map fun k => (match k with | .inr x => x | .inl _ => Str.empty), ?_, ?_⟩
    · rw [List.map_map]
      have : ∀ k ∈ vs.map kOf, k = Sum.inr (match k with | .inr x => x | .inl _ => Str.empty) := fun k hk => by
        obtain ⟨x, _, e⟩ := List.mem_map.mp (pk.mem_iff.mp hk)
        rw [← e]
      conv => lhs; rw [← List.map_id (vs.map kOf)]
      exact List.map_congr_left this
    · have q := pk.map fun k : Key => (match k with | .inr x => x | .inl _ => Str.empty)
      rw [List.map_map (l := ss)] at q
      have e : (ss.map ((fun k : Key => (match k with | .inr x => x | .inl _ => Str.empty)) ∘ Sum.inr)) = ss := by
        conv => rhs; rw [← List.map_id ss]
        exact List.map_congr_left fun _ _ => rfl
      rw [e] at q
      exact q
  have hS : StrsAre vs ts := strs_of_keys et fun v hv => by
    obtain ⟨e, he, q⟩ := List.mem_map.mp (pm.mem_iff.mp hv)
    rw [← q]
    exact (g e he).1
  have hvl : vs.length = ss.length := by
    have := pk.length_eq
    rw [List.length_map, List.length_map] at this
    exact this
  refine wpAny_bind (wpAny_newList ?_ (by rw [hvl, sizeLine_eq]; omega))
  have hoL : (s1.heap.push (seqObj "list" vs.toArray 0)).get? s1.heap.objs.size = some (seqObj "list" vs.toArray 0) := Heap.get?_push_size _ rfl
  refine wpAny_bind (wpAny_holding (wpAny_call_entry slot_list_sort ⟨_, hoL, rfl⟩ entry_list_sort
    (list_sort_treeK strKind_oneLt hoL hS.keysOf (fun v₁ v₂ rest e => keyKind_strs (by rw [← e]; exact hS)) (by rw [hvl]; exact h64) fun st' hp hs => ⟨_, rfl, ?_⟩) (args_list_sort _)))
  obtain ⟨ys, g1', g2, g3⟩ := sorted_out_str hS hp hs
  obtain ⟨c, hc⟩ := sortedHeap_at (vs := vs) (out := (arrOf st').map (·.2)) hoL
  refine wpAny_pure ⟨_, rfl, hQ _ s1.heap.objs.size ((arrOf st').map (·.2)) c ys (fun b u e => ?_) g1 o1 hz hc g1' (g2.trans pt) g3⟩
  have q := k1 b u e
  have hlt := Heap.lt_size q
  show (sortedHeap (s1.heap.push (seqObj "list" vs.toArray 0)) s1.heap.objs.size vs ((arrOf st').map (·.2))).get? b = some u
  rw [sortedHeap_old (Nat.ne_of_lt hlt) (by rw [Heap.size_push]; exact Nat.lt_succ_of_lt hlt)]
  exact Heap.get?_push_of_some _ q
end

/-! ### the rules -/
/-- a set of keys, tracked -/
def SW (w : World) (a : Addr) (l : List Key) : HO := .ext fun h => SetW w h a l
section
variable {X : Cx}
theorem sw_new {H : Hp} {h : Heap} {a : Addr} {l : List Key} {P : Program} {w : World} (R : SetW w h a l) : ObjOk P w H h a (SW w a l) := by
  have ⟨o, _, _, _, ho, _⟩ := R
  exact ⟨R, ⟨o, ho⟩, fun h1 h2 p k => p.at k⟩
theorem sw_get {pins : List (Addr × Obj)} {σ : L2.St} {H : Hp} {s : Shared} {a : Addr} {l : List Key} (I : Inv X pins σ H s) (ha : H a = some (SW X.w a l)) : SetW X.w s.heap a l := (I.hok a _ ha).1
/-- set(z) -/
theorem cr_setStr (hc : X.calm = true) : CallR X (.type "set") (fun vs H Q => ∃ z : Str, vs = [.str z] ∧ z.length < scanBound ∧
    ∀ p l, H p = none → l.Nodup → (∀ x, Sum.inr x ∈ l ↔ x ∈ letts z) → (∀ k ∈ l, ∃ x, k = Sum.inr x) → Q (.ref p) (upd H p (SW X.w p l))) := by
  intro pins s σ H vs us Q I r h
  obtain ⟨z, rfl, hz, q⟩ := h
  obtain ⟨u, rfl, t, rfl⟩ := vals1 r
  refine call_set_w (I.ok.hd hc) (n := z.cps.size) hz fills_text fun h' tk l k R m => ?_
  have hm : ∀ k, k ∈ l ↔ ∃ x ∈ letts z, k = Sum.inr x := fun k => by
    rw [m k]
    constructor
    · rintro ⟨j, hj, e⟩
      refine ⟨one (z.cps.getD j 0), ?_, e⟩
      unfold letts
      refine List.mem_map.mpr ⟨_, ?_, rfl⟩
      rw [Array.getD_eq_getD_getElem?, Array.getElem?_eq_getElem hj]
      exact Array.mem_toList_iff.mpr (Array.getElem_mem hj)
    · rintro ⟨x, hx, e⟩
      obtain ⟨c, hc, e2⟩ := List.mem_map.mp hx
      obtain ⟨j, hj, e3⟩ := List.getElem_of_mem hc
      rw [Array.length_toList] at hj
      refine ⟨j, hj, ?_⟩
      rw [e, ← e2, Array.getD_eq_getD_getElem?, Array.getElem?_eq_getElem hj]
      rw [Array.getElem_toList] at e3
      rw [e3]; rfl
  refine ⟨.ref s.heap.objs.size, _, I.laid (t' := tk) k (Nat.le_refl _) (sw_new R), rfl, q _ l (I.hok.fresh (Nat.le_refl _)) R.nodup (fun x => ?_) fun k hk => ?_⟩
  · rw [hm]
    exact ⟨fun ⟨y, hy, e⟩ => by cases e; exact hy, fun hy => ⟨x, hy, rfl⟩⟩
  · obtain ⟨x, _, e⟩ := (hm k).mp hk
    exact ⟨x, e⟩
/-- sorted of such a set of texts -/
theorem cr_sortedW (hc : X.calm = true) : CallR X (.builtin "sorted") (fun vs H Q => ∃ (a : Addr) (ss : List Str), vs = [.ref a] ∧ H a = some (SW X.w a (ss.map Sum.inr)) ∧ ss.length < 64 ∧
    ∀ ys p, ys.Perm ss → sortedS ys = true → H p = none → Q (.ref p) (upd H p (.lst (ys.map V.str)))) := by
  intro pins s σ H vs us Q I r h
  obtain ⟨a, ss, rfl, ha, h64, q⟩ := h
  rw [Vals.ref1 r]
  refine sorted_w (sw_get I ha) (I.ok.hd hc) h64 fun s' p out c ys k g o hp hg hs hpm hso => ?_
  have hlen : (ys.map V.str).length ≤ sizeLine := by rw [List.length_map, hpm.length_eq, sizeLine_eq]; omega
  have hn : H p = none := I.hok.fresh hp
  have J : Inv X pins σ (upd H p (.lst (ys.map V.str))) { s with heap := s'.heap, gens := s'.gens, drawn := s'.drawn, toks := s'.toks } :=
    I.call (ch := []) (Un.laid k hp hn) (I.hok.laid k hp ⟨hlen, out.toList, c, vals_of_strs hs, hg⟩) (by rw [g]; exact I.bare) (fun _ z => nomatch z)
  have e : s' = { s with heap := s'.heap, gens := s'.gens, drawn := s'.drawn, toks := s'.toks } := by
    cases s'
    cases s
    cases o
    rfl
  rw [e]
  exact ⟨.ref p, _, J, rfl, q ys p hpm hso hn⟩
end
end Ami

set_option Elab.async false
set_option linter.all false
set_option maxRecDepth 100000
set_option maxHeartbeats 2000000
namespace Ami
open PySem PySem.Spec PyProof.Rows L2

/-- a def keeps a promise where nothing is being shown: no guard of repr stands below -/
structure FnG (P : Program) (w : World) (K : PySem.W.Frag) (mg : Str → Option Value) (base : Heap) (CX : CXT) (k : Nat) (f : Addr) (fd : FuncData) (ps : List Str) (sp : Sp) : Prop where
  len : ∀ vs H Q E, sp vs H Q E → vs.length = ps.length
  run : ∀ (A : Around) (outer : List Env) (s : Shared) (H : Hp) (args : Args) (us : List Value) (vs : List V) (Q : VK) (E : XK), A.guards = some [] → Room k A → Env0 P w K mg base A outer s H →
    BindsTo s fd args (ps.zip us) → Vals vs us → sp vs H Q E → codeAny (model P w) A (.call (.ref f) args) (CR CX outer P w H s Q E) s
theorem FnG.of {P : Program} {w : World} {K : PySem.W.Frag} {mg : Str → Option Value} {base : Heap} {CX : CXT} {k : Nat} {f : Addr} {fd : FuncData} {ps : List Str} {sp : Sp} (F : FnOk P w K mg base CX k f fd ps sp) : FnG P w K mg base CX k f fd ps sp :=
  ⟨F.len, fun A outer s H args us vs Q E _ => F.run A outer s H args us vs Q E⟩
theorem guards_deeper {A : Around} (env : Env) (h : A.guards = some []) : (A.deeper env).guards = some [] := by
  show (A.guards) = some []
  exact h

section
variable {P : Program} {w : World} {K : PySem.W.Frag} {mg : Str → Option Value} {base : Heap}
theorem Fun.okG {x qual : Str} {st : Stmt} {f : Addr} {fd : FuncData} {N ps : List Str} {k : Nat} {sp : Sp} (F : Fun K x qual st f fd) (S : FnScope N ps (defScope st)) (len : ∀ vs H Q E, sp vs H Q E → vs.length = ps.length)
    (hbody : ∀ (cdv : Value) (A : Around) (outer : List Env) (s : Shared) (H : Hp) (vs : List V) (Q : VK) (E : XK), A.guards = some [] → Room k (A.deeper (envOfC qual (defScope st) s.heap.objs.size f cdv)) → sp vs H Q E →
      ∃ t, PSs (cxOf CX0 P w K mg base N qual (defScope st) f cdv A outer s H E).nox (defBody st) t ∧ t { nx := fun _ H' => Q .non H', rt := Q } (start N vs) H) : FnG P w K mg base CX0 (k + 1) f fd ps sp := by
  obtain ⟨oc, od, kV, doc, pm, an, cdv, ct, osl, rfl, lk, hcd⟩ := F.ex
  refine ⟨len, fun A outer s H args us vs Q E hg hr e0 hb r hsp => ?_⟩
  have hl := len _ _ _ _ hsp
  have KX : K.In s.heap := e0.mod.kin.keeps fun b o e => (e0.bs b o e).1
  have lim : s.heap.NoLimit := e0.mod.nolimit.keeps fun b o e => (e0.bs b o e).1
  have par : ∀ y ∈ ps.zip us, (defScope st).names.lookup y.1 = some .local ∨ ((defScope st).names.lookup y.1 = some .cell ∧ ((cellsFrom (s.heap.objs.size + 1) (defScope st).names []).lookup y.1).isSome = true) := fun ⟨n, v⟩ hy => by
    rcases S.par n (List.of_mem_zip hy).1 with q | q
    · exact .inl q
    · exact .inr ⟨q, PySem.W.cellsFrom_some _ _ _ (.inl q)⟩
  refine codeAny_call_function hr.depth (KX _ _ lk) rfl S.co S.gen rfl (PySem.W.codeRec_of KX hcd) (hb _ _ _ _ ?_)
  refine wpAny_newFunctionEnv_cells S.kind par fun env he s1 x => ?_
  subst he
  refine ⟨lim.keeps x.toInCall.keep, codeAny_func ?_⟩
  obtain ⟨t, ht, hq⟩ := hbody cdv A outer s H vs Q E hg (hr.deeper _) hsp
  have I : Inv (cxOf CX0 P w K mg base N qual (defScope st) f cdv A outer s H E) [] (start N vs) H s1 := inv_start S hr.hd e0 hl r x
  refine wpAny_mono (ht.nox.run [] s1 (start N vs) H _ I hq) (fun fl s' hs => ?_) fun e s' hs => hs
  have fin : ∀ {σ' : L2.St} {H' : Hp} {v : V} {u : Value}, Inv (cxOf CX0 P w K mg base N qual (defScope st) f cdv A outer s H E) [] σ' H' s' → RelV v u → Q v H' → CE outer P w H s Q u s' :=
    fun {σ' H' v u} J rv q => ⟨v, H', J.os, J.bare, J.base, J.hok, rv, q⟩
  cases fl with
  | ret u => obtain ⟨v, σ', H', J, rv, q⟩ := hs; exact fin J rv q
  | next => obtain ⟨σ', H', J, q⟩ := hs; exact fin (v := V.non) (u := Value.none) J rfl q
  | brk => obtain ⟨_, _, _, q⟩ := hs; exact False.elim q
  | cont => obtain ⟨_, _, _, q⟩ := hs; exact False.elim q
end

section
variable {X : Cx} {CX : CXT} {k : Nat} {f C : Addr} {fd : FuncData} {ps : List Str} {sp : Sp} {dvs : List V} {ds : List Value} {E : XK} {x m : Str} {p pos apos : Pos} {e o : Expr} {es : List Expr} {ta : TE} {t : TA}
theorem run_fnG {pins : List (Addr × Obj)} {σ : L2.St} {H : Hp} {s : Shared} {Q : VK} {us : List Value} {vs : List V} (F : FnG X.prog X.w X.K X.mg X.base CX k f fd ps sp) (hg : X.A.guards = some []) (hr : Room k X.A) (hb : Binds X.K fd ps ds) (hd : Vals dvs ds) (hx : Passes CX X E)
    (I : Inv X pins σ H s) (r : Vals vs us) (h : sp (vs ++ dvs) H Q E) : wpAny (model X.prog X.w) X.A (call (.ref f) us) (EP X pins σ Q) X.xe s := by
  have r2 : Vals (vs ++ dvs) (us ++ ds) := r.append hd
  have hl : (us ++ ds).length = ps.length := by rw [← r2.length]; exact F.len _ _ _ _ h
  refine wpAny_call (codeAny_mono (F.run X.A X.stack s H ⟨us, []⟩ (us ++ ds) (vs ++ dvs) Q E hg hr I.env0 (hb s us I.kIn hl) r2 h) fun r s' hq => ?_)
  cases r with
  | error e => exact hx pins σ H s e s' I hq
  | ok fl =>
    cases fl with
    | ret u => exact I.after hq
    | next => exact False.elim hq
    | brk => exact False.elim hq
    | cont => exact False.elim hq
theorem pe_callG (F : FnG X.prog X.w X.K X.mg X.base CX k f fd ps sp) (hg : X.A.guards = some []) (hr : Room k X.A) (hgl : Gl X x) (hm : X.mg x = some (.ref f)) (hk : PySem.W.keepIn X.K (.ref f) = true) (hb : Binds X.K fd ps ds) (hd : Vals dvs ds) (hx : Passes CX X E)
    (ha : PA X (e :: es) t) (hdb : (x == ("__debug__" : Str)) = false := by decide) (he : starEach (e :: es) X.env = (false, eval e X.env) :: starEach es X.env := by rfl) (hpl : (backTo pos (starEach es X.env)).any (·.1) = false := by rfl) :
    PE X (.Call (.Name x p) (e :: es) [] pos) (tCall sp dvs E t) := by
  refine ⟨fun pins s σ H Q I h => ?_⟩
  refine wpAny_Call_Name_kw (ld_glob I hgl hm ?_ hdb)
  refine PySem.W.callWith_K (h₀ := X.base) I.ok.mod.kin hk (thn (ha.run pos pins s σ H _ I h) fun us s1 ⟨vs, H1, I1, r, q⟩ => ⟨I1.kIn, ?_⟩) he hpl
  exact run_fnG F hg hr hb hd hx I1 r q
end

/-- the law's call, at the heap behind the top -/
theorem law_callG {P : Program} {w : World} {K : PySem.W.Frag} {mg mb : Str → Option Value} {k : Nat} {fa a : Addr} {fd : FuncData} {x : Str} {sp : Sp} {s₁ : Shared} {vs : List Value} {ns : List Int}
    (KX : K.In s₁.heap) (hns : s₁.heap.Ns mainGlobals mg) (hb : s₁.heap.Ns builtinsNs mb) (hbb : ∀ x : Str, x ≠ "__name__" → mb x = bootBuiltins x) (hlim : s₁.heap.NoLimit) (hg : s₁.gens = #[])
    (ha : s₁.heap.get? a = some { cls := .type "list", data := .seq vs.toArray }) (hi : IntsAre vs ns) (hl : ns.length ≤ sizeLine) (hr : Room k callerA)
    (F : ∀ base : Heap, K.In base → base.Ns mainGlobals mg → FnG P w K mg base CX0 k fa fd [x] sp) (hbind : ∀ (s : Shared) (u : Value), BindsTo s fd ⟨[u], []⟩ [(x, u)])
    (hsp : ∀ H : Hp, Only H → SqL K H a (ns.map V.int) → sp [.ref a] H (fun v _ => v = .bl true) fun _ _ _ => False) :
    codeAny (model P w) callerA (.call (.ref fa) ⟨[.ref a], []⟩) (fun r s' => r = .ok (.ret (.bool true)) ∧ OldK s₁.heap s'.heap ∧ s'.os = s₁.os ∧ AllBare s'.gens) s₁ := by
  have hfake : ∀ (H0 : Hp), (∀ b, H0 b ≠ none → b = a) → Only H0 → SqL K H0 a (ns.map V.int) → HOk P w H0 s₁.heap → (H0 a ≠ none → K.lookup a = none) →
      codeAny (model P w) callerA (.call (.ref fa) ⟨[.ref a], []⟩) (fun r s' => r = .ok (.ret (.bool true)) ∧ OldK s₁.heap s'.heap ∧ s'.os = s₁.os ∧ AllBare s'.gens) s₁ := by
    intro H0 hA hO hS hok hK
    have isList : ∀ {b : Addr}, H0 b ≠ none → s₁.heap.get? b = some { cls := .type "list", data := .seq vs.toArray } := fun {b} h => by rw [hA b h]; exact ha
    have untr : ∀ {b : Addr} {o : Obj} {es : Array DictEntry} {ep : Nat}, s₁.heap.get? b = some o → o.data = .dict es ep → H0 b = none := fun {b o es ep} e d => by
      refine Classical.byContradiction fun c => ?_
      have e2 := isList c
      rw [e] at e2
      rw [Option.some.inj e2] at d
      exact nomatch d
    have hbase : ∀ {b : Addr} {o : Obj}, s₁.heap.get? b = some o → H0 b = none → (hidT s₁.heap H0).get? b = some o := fun e n => hidT_get e n
    have nsK : ∀ {b : Addr} {m : Str → Option Value}, s₁.heap.Ns b m → (hidT s₁.heap H0).Ns b m := fun {b m} ⟨o, es, ep, e, d, r⟩ => ⟨o, es, ep, hbase e (untr e d), d, r⟩
    have inK : K.In (hidT s₁.heap H0) := fun b o e => hbase (KX b o e) (Classical.byContradiction fun c => by
      have z := hA b c
      subst z
      rw [hK c] at e
      cases e)
    obtain ⟨mc, n1, n2⟩ := hlim
    have hM : Mod K mg (hidT s₁.heap H0) := ⟨inK, nsK hns, ⟨mb, nsK hb, hbb⟩, mc, nsK n1, n2⟩
    have e0 : Env0 P w K mg (hidT s₁.heap H0) callerA [] s₁ H0 := ⟨rfl, hM, fun b o e => of_hidT e, Nat.le_of_eq (hidT_size _ _), trivial, fun b hb => absurd (show b ∈ ([] : List Addr) from hb) (by simp), hok, .of_eq hg⟩
    refine codeAny_mono ((F _ inK (nsK hns)).run callerA [] s₁ H0 ⟨[.ref a], []⟩ [.ref a] [.ref a] _ _ rfl hr e0 (hbind s₁ (.ref a)) (.cons rfl .nil) (hsp H0 hO hS)) fun r s' h => ?_
    cases r with
    | error e => exact False.elim h
    | ok fl =>
      cases fl with
      | next => exact False.elim h
      | brk => exact False.elim h
      | cont => exact False.elim h
      | ret u =>
        obtain ⟨v, H', os, bare, un, hok', rv, q⟩ := h
        have q' : v = .bl true := q
        subst q'
        have hu : u = Value.bool true := rv
        subst hu
        refine ⟨rfl, OldK.of_keep fun b o e => ?_, os, bare⟩
        rcases hO b with z | ⟨ob, xs, z⟩
        · exact un.keep b o e z (fun m => absurd (show b ∈ ([] : List Addr) from m) (by simp)) (by simp)
        · have p1 := (hok b _ z).1
          have p2 := (hok' b _ (un.frzs b ob _ z)).1
          rw [e] at p1
          rw [Option.some.inj p1]
          exact p2
  cases hk : K.lookup a with
  | some o =>
    have e := KX a o hk
    rw [ha] at e
    cases e
    exact hfake (fun _ => none) (fun b z => absurd rfl z) (fun _ => .inl rfl) (.inr ⟨_, vs.toArray, _, hk, rfl, rfl, rfl, by rw [List.size_toArray, hi.length]; exact hl, by simpa using vals_ints hi⟩) (fun b u z => nomatch (show (none : Option HO) = some u from z)) fun z => absurd rfl z
  | none =>
    refine hfake (fun b => if b = a then some (.frz { cls := .type "list", data := .seq vs.toArray } (.lst (ns.map V.int))) else none) (fun b z => ?_) (fun b => ?_) (.inl (.inr ⟨{ cls := .type "list", data := .seq vs.toArray }, if_pos rfl⟩)) (fun b u z => ?_) fun _ => hk
    · exact Classical.byContradiction fun c => z (if_neg c)
    · by_cases c : b = a
      · exact .inr ⟨_, _, if_pos c⟩
      · exact .inl (if_neg c)
    · by_cases c : b = a
      · have z' := (if_pos c).symm.trans z
        cases z'
        subst c
        exact ⟨ha, by rw [List.length_map]; exact hl, vs, _, vals_ints hi, ha⟩
      · exact nomatch (if_neg c).symm.trans z

/-- the end: what k_head leaves, from the law's promise -/
theorem walk_ofG {l : PySem.W.OpenLaw} {n k : Nat} {q : Program} {loose : List Str} {XP : (Str → Option Value) → Heap → Prop} {YP : World → Heap → Prop} {d : DefRec} {K : Params → PySem.W.Frag} {sp : World → Sp} {x : Str}
    (hn : l.most = some n) (hn2 : n ≤ sizeLine) (hdf : d.params.defaults = []) (hr : Room k callerA) (hY : ∀ (w : World) (h : Heap), YP w h → (K w.params).In h)
    (F : ∀ (w : World) (mg : Str → Option Value) (fa : Addr) (h : Heap), (K w.params).In h → h.Ns mainGlobals mg → mg d.name = some (.ref fa) →
      ∃ fd : FuncData, (∀ (s : Shared) (u : Value), BindsTo s fd ⟨[u], []⟩ [(x, u)]) ∧
        ∀ base : Heap, (K w.params).In base → base.Ns mainGlobals mg → FnG l.prog w (K w.params) mg base CX0 k fa fd [x] (sp w))
    (hsp : ∀ (w : World) (H : Hp) (a : Addr) (ns : List Int), ns.length ≤ n → Only H → SqL (K w.params) H a (ns.map V.int) → sp w [.ref a] H (fun v _ => v = .bl true) fun _ _ _ => False) :
    PySem.W.WalkO q loose XP YP l.row.toRowW d [] (fun f vs => PySem.call f vs) := by
  refine Att.attach_call hn hdf fun w s₀ s₁ mg mb fa o pm cd doc a vs ns G Y ho hd hcd hmg hobj hints hlen hg => ?_
  obtain ⟨fd, hb, hF⟩ := F w mg fa _ (hY w _ Y) G.T.g hmg
  exact law_callG (hY w _ Y) G.T.g G.T.b G.T.builtins G.T.nolimit hg hobj hints (Nat.le_trans hlen hn2) hr hF hb fun H hO hS => hsp w H a ns hlen hO hS
end Ami

set_option Elab.async false
set_option linter.all false
set_option maxRecDepth 100000
set_option maxHeartbeats 2000000
namespace Ami
open PySem PySem.Spec PyProof.Rows L2

/-! ### calls by keywords alone -/
section
variable {X : Cx} {CX : CXT} {k : Nat} {f C : Addr} {fd : FuncData} {ps ks : List Str} {sp : Sp} {E : XK} {x : Str} {p pos : Pos} {kws : List Keyword} {tk : TA} {g : List Value → List Value → List Value} {gV : List V → List V → List V}
theorem pe_callK0 (F : FnOk X.prog X.w X.K X.mg X.base CX k f fd ps sp) (hr : Room k X.A) (hg : Gl X x) (hm : X.mg x = some (.ref f)) (hk : PySem.W.keepIn X.K (.ref f) = true) (hb : KBinds X.K fd ps ks g gV) (hx : Passes CX X E) (hkw : PK X kws tk)
    (hall : (backToKw pos (keywordEach kws X.env)).all (·.1.isSome) = true := by rfl) (hks : (backToKw pos (keywordEach kws X.env)).filterMap (·.1) = ks := by rfl) (hdb : (x == ("__debug__" : Str)) = false := by decide)
    (hpl : ((backTo pos (starEach [] X.env)).any (·.1) || (backToKw pos (keywordEach kws X.env)).any (·.1.isNone)) = false := by rfl) :
    PE X (.Call (.Name x p) [] kws pos) (tCallK sp gV E tNil tk) := by
  refine ⟨fun pins s σ H Q I h => ?_⟩
  refine wpAny_Call_Name_kw (ld_glob I hg hm ?_ hdb)
  refine PySem.W.callWith_KW0 (h₀ := X.base) I.ok.mod.kin hk hall ?_ hpl
  refine thn (hkw.run pos pins s σ H _ I h) fun ws s2 ⟨zs, H2, I2, rz, q2⟩ => ⟨I2.kIn, ?_⟩
  rw [hks]
  exact run_fnk F hr hb hx I2 .nil rz q2
end

/-! ### a def of the text, with all that a call of it wants -/
structure DefAt (K : PySem.W.Frag) (mg : Str → Option Value) (x : Str) (st : Stmt) (ps : List Str) (f : Addr) (fd : FuncData) : Prop where
  F : Fun K x x st f fd
  b : Binds K fd ps []
  g : mg x = some (.ref f)
section
variable {X : Cx} {k : Nat} {f : Addr} {fd : FuncData} {ps : List Str} {sp : Sp} {x : Str} {st : Stmt} {p pos : Pos} {e : Expr} {es : List Expr} {t : TA}
/-- f(e, ..), of a def that lets nothing out -/
theorem pc (D : DefAt X.K X.mg x st ps f fd) (G : FnOk X.prog X.w X.K X.mg X.base CX0 k f fd ps sp) (hr : Room k X.A) (ha : PA X (e :: es) t) (hg : Gl X x := by rfl) (hdb : (x == ("__debug__" : Str)) = false := by decide)
    (he : starEach (e :: es) X.env = (false, eval e X.env) :: starEach es X.env := by rfl) (hpl : (backTo pos (starEach es X.env)).any (·.1) = false := by rfl) : PE X (.Call (.Name x p) (e :: es) [] pos) (tCall sp [] E0 t) :=
  pe_call G hr hg D.g D.F.kp D.b .nil pass0 ha hdb he hpl
theorem pcG (D : DefAt X.K X.mg x st ps f fd) (G : FnG X.prog X.w X.K X.mg X.base CX0 k f fd ps sp) (hgu : X.A.guards = some []) (hr : Room k X.A) (ha : PA X (e :: es) t) (hg : Gl X x := by rfl) (hdb : (x == ("__debug__" : Str)) = false := by decide)
    (he : starEach (e :: es) X.env = (false, eval e X.env) :: starEach es X.env := by rfl) (hpl : (backTo pos (starEach es X.env)).any (·.1) = false := by rfl) : PE X (.Call (.Name x p) (e :: es) [] pos) (tCall sp [] E0 t) :=
  pe_callG G hgu hr hg D.g D.F.kp D.b .nil pass0 ha hdb he hpl
end

/-! ### the deck -/
/-- all but d and c stands as it stood -/
def But (d c : Addr) (H H' : Hp) : Prop := ∀ b o, b ≠ d → b ≠ c → H b = some o → H' b = some o
theorem But.refl (d c : Addr) (H : Hp) : But d c H H := fun _ _ _ _ e => e
theorem But.trans {d c : Addr} {H H1 H2 : Hp} (a : But d c H H1) (b : But d c H1 H2) : But d c H H2 := fun x o h1 h2 e => b x o h1 h2 (a x o h1 h2 e)
theorem But.same {d c : Addr} {H H' : Hp} (s : Same H H') : But d c H H' := fun b o _ _ e => s b o e
theorem Same.upd {H : Hp} {p : Addr} {o : HO} (hp : H p = none) : Same H (L2.upd H p o) := fun b u e => by
  rw [upd_ne (ne_of_none e hp)]; exact e
theorem But.new {d c : Addr} {H H' : Hp} (s : But d c H H') {p : Addr} {o : HO} (hp : H' p = none) : But d c H (L2.upd H' p o) := fun b u h1 h2 e => by
  have e' := s b u h1 h2 e
  rw [upd_ne (ne_of_none e' hp)]
  exact e'

/-- what stays whatever the deck does -/
def Stay (d c : Addr) (φ : Hp → Prop) (H : Hp) : Prop := ∀ H', But d c H H' → φ H'
theorem Stay.now {d c : Addr} {φ : Hp → Prop} {H : Hp} (h : Stay d c φ H) : φ H := h H (But.refl d c H)
theorem Stay.go {d c : Addr} {φ : Hp → Prop} {H H' : Hp} (h : Stay d c φ H) (k : But d c H H') : Stay d c φ H' := fun _ k' => h _ (k.trans k')
theorem Stay.all {d c : Addr} {φ : Hp → Prop} {H : Hp} (h : ∀ H', φ H') : Stay d c φ H := fun H' _ => h H'
theorem Stay.mono {d c : Addr} {φ ψ : Hp → Prop} {H : Hp} (h : Stay d c φ H) (i : ∀ H', φ H' → ψ H') : Stay d c ψ H := fun H' k => i _ (h H' k)

/-- the deck at d, its cells at c, behind n draws -/
def DeckAt (H : Hp) (d c : Addr) (n : Nat) : Prop := c ≠ d ∧ ∃ (b : Int) (cells : List Int), H d = some (.lst [.ref c, .int b, .int n]) ∧ H c = some (.lst (cells.map V.int)) ∧ cells.length ≤ 63
theorem DeckAt.same {H H' : Hp} {d c : Addr} {n : Nat} (D : DeckAt H d c n) (s : Same H H') : DeckAt H' d c n := by
  obtain ⟨h, b, cells, h1, h2, h3⟩ := D
  exact ⟨h, b, cells, s _ _ h1, s _ _ h2, h3⟩
theorem DeckAt.ned {H : Hp} {d c p : Addr} {n : Nat} (D : DeckAt H d c n) (hp : H p = none) : p ≠ d ∧ p ≠ c := by
  obtain ⟨h, b, cells, h1, h2, h3⟩ := D
  exact ⟨fun e => (by rw [e, h1] at hp; cases hp), fun e => (by rw [e, h2] at hp; cases hp)⟩
theorem DeckAt.new {H : Hp} {d c p : Addr} {n : Nat} {o : HO} (D : DeckAt H d c n) (hp : H p = none) : DeckAt (upd H p o) d c n := D.same (Same.upd hp)
theorem DeckAt.set {H : Hp} {d c p : Addr} {n : Nat} {o : HO} (D : DeckAt H d c n) (h1 : p ≠ d) (h2 : p ≠ c) : DeckAt (upd H p o) d c n := by
  obtain ⟨h, b, cells, e1, e2, e3⟩ := D
  exact ⟨h, b, cells, by rw [upd_ne (Ne.symm h1)]; exact e1, by rw [upd_ne (Ne.symm h2)]; exact e2, e3⟩

/-- a draw below bd: any number there is -/
def spDraw : Sp := fun vs H Q _ => ∃ (d c : Addr) (n : Nat) (bd : Int), vs = [.ref d, .int bd] ∧ 0 < bd ∧ bd < 1073741824 ∧ n < 1000000 ∧ DeckAt H d c n ∧
  ∀ (H' : Hp) (r : Int), 0 ≤ r → r < bd → DeckAt H' d c (n + 1) → But d c H H' → Q (.int r) H'

/-- an item of a list or a tuple, or a sign of a text -/
inductive Some1 (K : PySem.W.Frag) (H : Hp) : V → List V → Prop
  | lst {a : Addr} {xs : List V} (h : SqL K H a xs) : Some1 K H (.ref a) xs
  | txt (z : Str) (h : z.length ≤ sizeLine) : Some1 K H (.str z) ((letts z).map V.str)
def spPick (K : PySem.W.Frag) : Sp := fun vs H Q _ => ∃ (d c : Addr) (n : Nat) (x : V) (xs : List V), vs = [.ref d, x] ∧ xs ≠ [] ∧ xs.length < 1073741824 ∧ n < 1000000 ∧ DeckAt H d c n ∧ Stay d c (fun H' => Some1 K H' x xs) H ∧
  ∀ (H' : Hp) (y : V), y ∈ xs → DeckAt H' d c (n + 1) → But d c H H' → Q y H'
end Ami

set_option Elab.async false
set_option linter.all false
set_option maxRecDepth 100000
set_option maxHeartbeats 2000000
namespace Ami
open PySem PySem.Spec PyProof.Rows L2

/-! ### rows of flat values as data -/
def fD : V → PyData
  | .bl b => .bool b
  | .int i => .int i
  | .str x => .str x
  | _ => .none
/-- None, a bool, an int, a text that can be laid -/
def okF : V → Bool
  | .non => true
  | .bl _ => true
  | .int _ => true
  | .str x => PyData.strOk x
  | _ => false
theorem dp_flat {K : PySem.W.Frag} {H : Hp} : ∀ {v : V}, okF v = true → Dp K H v (fD v)
  | .non, _ => .non
  | .bl b, _ => .bl b
  | .int i, _ => .int i
  | .str x, _ => .str x
theorem dpAll_flat {K : PySem.W.Frag} {H : Hp} : ∀ {xs : List V}, xs.all okF = true → DpAll K H xs (xs.map fD)
  | [], _ => .nil
  | v :: xs, h => by
    rw [List.all_cons, Bool.and_eq_true] at h
    exact .cons (dp_flat h.1) (dpAll_flat h.2)
theorem dq_flat {K : PySem.W.Frag} {H : Hp} : ∀ {v : V}, okF v = true → Dq K H v (fD v)
  | .non, _ => .non
  | .bl b, _ => .bl b
  | .int i, _ => .int i
  | .str x, _ => .str x
theorem dqAll_flat {K : PySem.W.Frag} {H : Hp} : ∀ {xs : List V}, xs.all okF = true → DqAll K H xs (xs.map fD)
  | [], _ => .nil
  | v :: xs, h => by
    rw [List.all_cons, Bool.and_eq_true] at h
    exact .cons (dq_flat h.1) (dqAll_flat h.2)
theorem canLay_flat : ∀ {v : V}, okF v = true → (fD v).canLay0 = true
  | .non, _ => rfl
  | .bl _, _ => rfl
  | .int _, _ => rfl
  | .str x, h => h
theorem canLayAll_flat : ∀ {xs : List V}, xs.all okF = true → PyData.canLayAll0 (xs.map fD) = true
  | [], _ => rfl
  | v :: xs, h => by
    rw [List.all_cons, Bool.and_eq_true] at h
    show ((fD v).canLay0 && PyData.canLayAll0 (xs.map fD)) = true
    rw [canLay_flat h.1, canLayAll_flat h.2]; rfl
theorem depth_flat : ∀ v : V, (fD v).depth = 0
  | .non => rfl
  | .bl _ => rfl
  | .int _ => rfl
  | .str _ => rfl
  | .byt _ => rfl
  | .flt _ => rfl
  | .ref _ => rfl
  | .ty _ => rfl
theorem depthAll_flat : ∀ xs : List V, PyData.depthAll (xs.map fD) = 0
  | [] => rfl
  | v :: xs => by
    show max (fD v).depth (PyData.depthAll (xs.map fD)) = 0
    rw [depth_flat, depthAll_flat]; rfl
theorem shaped_list {xs : List V} (h : xs.all okF = true) : SeqAt.shaped (.list (xs.map fD)) = true := by
  show ((PyData.list (xs.map fD)).canLay0 && decide ((PyData.list (xs.map fD)).depth ≤ 64)) = true
  have e1 : (PyData.list (xs.map fD)).canLay0 = true := canLayAll_flat h
  have e2 : (PyData.list (xs.map fD)).depth = 1 := by
    show PyData.depthAll (xs.map fD) + 1 = 1
    rw [depthAll_flat]
  rw [e1, e2]; rfl
theorem shaped_tup {xs : List V} (h : xs.all okF = true) : SeqAt.shaped (.tuple (xs.map fD)) = true := by
  show ((PyData.tuple (xs.map fD)).canLay0 && decide ((PyData.tuple (xs.map fD)).depth ≤ 64)) = true
  have e1 : (PyData.tuple (xs.map fD)).canLay0 = true := canLayAll_flat h
  have e2 : (PyData.tuple (xs.map fD)).depth = 1 := by
    show PyData.depthAll (xs.map fD) + 1 = 1
    rw [depthAll_flat]
  rw [e1, e2]; rfl
theorem eqvAll_nil : ∀ xs : List V, PyData.eqvAll (xs.map fD) [] = xs.isEmpty
  | [] => rfl
  | _ :: _ => rfl
theorem all_ints (ns : List Int) : (ns.map V.int).all okF = true := by
  rw [List.all_eq_true]
  intro v hv
  obtain ⟨n, _, rfl⟩ := List.mem_map.mp hv
  rfl
theorem all_bls (bs : List Bool) : (bs.map V.bl).all okF = true := by
  rw [List.all_eq_true]
  intro v hv
  obtain ⟨n, _, rfl⟩ := List.mem_map.mp hv
  rfl

/-- xs != [], xs == [] over flat items: the answer -/
theorem ne_nil {K : PySem.W.Frag} {H : Hp} {a p : Addr} {xs : List V} {Q : VK} (ha : SqL K H a xs) (hp : SqL K H p []) (h : xs.all okF = true) (q : Q (.bl (!xs.isEmpty)) H) : rNeD K (.ref a) (.ref p) H Q :=
  ⟨_, _, .lst ha (dpAll_flat h), .lst hp .nil, shaped_list h, rfl, by
    have e : PyData.eqv (.list (xs.map fD)) (.list []) = xs.isEmpty := eqvAll_nil xs
    rw [e]; exact q⟩
theorem eq_nil {K : PySem.W.Frag} {H : Hp} {a p : Addr} {xs : List V} {Q : VK} (ha : SqL K H a xs) (hp : SqL K H p []) (h : xs.all okF = true) (q : Q (.bl xs.isEmpty) H) : rEqD K (.ref a) (.ref p) H Q :=
  ⟨_, _, .lst ha (dpAll_flat h), .lst hp .nil, shaped_list h, rfl, by
    have e : PyData.eqv (.list (xs.map fD)) (.list []) = xs.isEmpty := eqvAll_nil xs
    rw [e]; exact q⟩
theorem pow18 : CPow 10 18 := ⟨by decide, by decide, by decide⟩
theorem pow39 : CPow 10 39 := ⟨by decide, by decide, by decide⟩
theorem mod_range (a : Int) {m : Int} (h : 0 < m) : 0 ≤ a % m ∧ a % m < m := ⟨Int.emod_nonneg _ (by omega), Int.emod_lt_of_pos _ h⟩
end Ami

set_option Elab.async false
set_option linter.all false
set_option maxRecDepth 100000
set_option maxHeartbeats 2000000
namespace Ami
open PySem PySem.Spec PyProof.Rows L2

/-! ### texts of signs, sorted and joined -/
theorem joinOnes (cs : List Nat) : Txt.join ⟨#[]⟩ (cs.map one) = ⟨cs.toArray⟩ := by
  have h := join_nil_signs ⟨cs.toArray⟩
  have e : PyProof.Rows.signs ⟨cs.toArray⟩ = cs.map one := rfl
  rw [e] at h
  show Builtin.Str.glued ⟨#[]⟩ (cs.map one) = _
  rw [StrLaws.glued_eq_join]
  exact h
theorem eraseMap {α β : Type} (f : α → β) : ∀ (l : List α) (n : Nat), (l.map f).eraseIdx n = (l.eraseIdx n).map f
  | [], _ => rfl
  | _ :: _, 0 => rfl
  | a :: l, n + 1 => by
    show f a :: (l.map f).eraseIdx n = f a :: (l.eraseIdx n).map f
    rw [eraseMap f l n]
theorem one_inj {a b : Nat} (h : one a = one b) : a = b := by
  have e : [a] = [b] := congrArg (fun y : Str => y.cps.toList) h
  exact (List.cons.inj e).1
theorem unmap_ones {ys : List Str} {cs : List Nat} (h : ys.Perm (cs.map one)) : ∃ ds : List Nat, ys = ds.map one ∧ ds.Perm cs := by
  have e : ys = (ys.map fun y => y.cps.getD 0 0).map one := by
    rw [List.map_map]
    conv => lhs; rw [← List.map_id ys]
    refine List.map_congr_left fun y hy => ?_
    obtain ⟨c, _, rfl⟩ := List.mem_map.mp (h.mem_iff.mp hy)
    rfl
  refine ⟨ys.map fun y => y.cps.getD 0 0, e, ?_⟩
  have q := h.map fun y => y.cps.getD 0 0
  rw [List.map_map] at q
  have e2 : cs.map ((fun y : Str => y.cps.getD 0 0) ∘ one) = cs := by
    conv => rhs; rw [← List.map_id cs]
    exact List.map_congr_left fun _ _ => rfl
  rw [e2] at q
  exact q
theorem rising_ones : ∀ (p : Nat) (cs : List Nat), risingS (one p) (cs.map one) = true → (p :: cs).Pairwise (· ≤ ·)
  | p, [], _ => List.pairwise_singleton _ _
  | p, x :: r, h => by
    have h' : (!ltCps [x] [p] && risingS (one x) (r.map one)) = true := h
    rw [Bool.and_eq_true] at h'
    have ih := rising_ones x r h'.2
    have hx : p ≤ x := by
      have e : ltCps [x] [p] = false := by simpa using h'.1
      have e2 : (decide (x < p) || (x == p && false)) = false := e
      simp at e2
      omega
    refine List.pairwise_cons.mpr ⟨fun y hy => ?_, ih⟩
    rcases List.mem_cons.mp hy with rfl | hy
    · exact hx
    · exact Nat.le_trans hx ((List.pairwise_cons.mp ih).1 y hy)
theorem sorted_ones : ∀ {cs : List Nat}, sortedS (cs.map one) = true → cs.Pairwise (· ≤ ·)
  | [], _ => .nil
  | x :: r, h => rising_ones x r h
theorem lt_of_le {cs : List Nat} (h : cs.Pairwise (· ≤ ·)) (nd : cs.Nodup) : cs.Pairwise (· < ·) := by
  induction cs with
  | nil => exact .nil
  | cons x r ih =>
    obtain ⟨h1, h2⟩ := List.pairwise_cons.mp h
    obtain ⟨n1, n2⟩ := List.nodup_cons.mp nd
    refine List.pairwise_cons.mpr ⟨fun y hy => ?_, ih h2 n2⟩
    have := h1 y hy
    have : x ≠ y := fun e => n1 (e ▸ hy)
    omega
/-- two rising rows with the same members are one -/
theorem rows_eq {xs ys : List Nat} (hx : xs.Pairwise (· < ·)) (hy : ys.Pairwise (· < ·)) (h : ∀ c, c ∈ xs ↔ c ∈ ys) : xs = ys := by
  have nx : xs.Nodup := hx.imp fun a => Nat.ne_of_lt a
  have ny : ys.Nodup := hy.imp fun a => Nat.ne_of_lt a
  have p : xs.Perm ys := (List.perm_ext_iff_of_nodup nx ny).mpr h
  exact p.eq_of_pairwise (fun a b _ _ h1 h2 => absurd (Nat.lt_trans h1 h2) (Nat.lt_irrefl _)) hx hy

/-- all signs below 128 -/
def Asc (z : Str) : Prop := ∀ c ∈ z.cps.toList, c < 128
theorem Asc.mem {z y : Str} (h : Asc z) (k : ∀ c ∈ y.cps.toList, c ∈ z.cps.toList) : Asc y := fun c hc => h c (k c hc)
theorem Asc.append {z y : Str} (h : Asc z) (k : Asc y) : Asc (z ++ y) := fun c hc => by
  have e : (z ++ y).cps.toList = z.cps.toList ++ y.cps.toList := Array.toList_append
  rw [e] at hc
  exact (List.mem_append.mp hc).elim (h c) (k c)
theorem Asc.cut {z : Str} (h : Asc z) (lo hi : Option Int) : Asc (cutS z lo hi) := h.mem fun c hc => List.mem_of_mem_drop (List.mem_of_mem_take hc)
theorem Asc.rev {z : Str} (h : Asc z) : Asc (revS z) := h.mem fun c hc => List.mem_reverse.mp hc
theorem Asc.rep {z : Str} (h : Asc z) (n : Nat) : Asc (repS z n) := h.mem fun c hc => repS_mem hc
theorem Asc.ok {z : Str} (h : Asc z) : PyData.strOk z = true := by
  show (z.cps.all (· < 0x110000)) = true
  rw [← Array.all_toList, List.all_eq_true]
  intro c hc
  have := h c hc
  exact decide_eq_true (by omega)
theorem Asc.repr {z : Str} (h : Asc z) (hl : z.length ≤ 100000) : (reprText z).length ≤ sizeLine := by
  have := StrLaws.reprText_len z fun c hc => Nat.lt_of_lt_of_le (h c hc) (by decide)
  rw [sizeLine_eq]
  omega
theorem append_length (z y : Str) : (z ++ y).length = z.length + y.length := Str.length_append z y

/-- letters as the laws draw them: two to so many of ten letters, ascending -/
def pool : List Nat := [97, 98, 99, 100, 101, 104, 109, 120, 121, 122]
def Sgn (top : Nat) (z : Str) : Prop := ∃ cs : List Nat, z = ⟨cs.toArray⟩ ∧ cs.Pairwise (· < ·) ∧ 2 ≤ cs.length ∧ cs.length ≤ top ∧ ∀ c ∈ cs, c ∈ pool
theorem Sgn.len {top : Nat} {z : Str} (h : Sgn top z) : 2 ≤ z.length ∧ z.length ≤ top := by
  obtain ⟨cs, rfl, _, h1, h2, _⟩ := h
  have e : (⟨cs.toArray⟩ : Str).length = cs.length := by simp [Str.length]
  omega
theorem Sgn.asc {top : Nat} {z : Str} (h : Sgn top z) : Asc z := by
  obtain ⟨cs, rfl, _, _, _, h3⟩ := h
  intro c hc
  have := h3 c hc
  simp [pool] at this
  omega
/-- letters drawn, as a promise -/
def spSigns : Sp := fun vs H Q _ => ∃ (d c : Addr) (n top : Nat), vs = [.ref d, .int top] ∧ 2 ≤ top ∧ top ≤ 10 ∧ n + 20 < 1000000 ∧ DeckAt H d c n ∧
  ∀ (H' : Hp) (z : Str) (n' : Nat), Sgn top z → n' ≤ n + 11 → DeckAt H' d c n' → But d c H H' → Q (.str z) H'
end Ami

set_option Elab.async false
set_option linter.all false
set_option maxRecDepth 100000
set_option maxHeartbeats 2000000
namespace Ami
open PySem PySem.Spec PyProof.Rows L2
theorem Same.seqT {K : PySem.W.Frag} {H H' : Hp} {a : Addr} {xs : List V} (e : Same H H') (h : SqT K H a xs) : SqT K H' a xs := by
  rcases h with (h | ⟨o, h⟩) | h
  · exact .inl (.inl (e _ _ h))
  · exact .inl (.inr ⟨o, e _ _ h⟩)
  · exact .inr h
theorem TyOf.same {K : PySem.W.Frag} {H H' : Hp} (e : Same H H') {x : V} {t : Value} (h : TyOf K H x t) : TyOf K H' x t := by
  cases h with
  | non => exact .non
  | bl b => exact .bl b
  | int i => exact .int i
  | str z => exact .str z
  | flt z => exact .flt z
  | lst h => exact .lst (e _ _ h)
  | frz h => exact .frz (e _ _ h)
  | tup h => exact .tup (e _ _ h)
  | dK h => exact .dK (e _ _ h)
  | dT h => exact .dT (e _ _ h)
  | ins h cl ha hn htk hm => exact .ins (e _ _ h) cl ha hn htk hm
theorem TyX.same {K : PySem.W.Frag} {H H' : Hp} (e : Same H H') {x : V} {t : Value} (h : TyX K H x t) : TyX K H' x t := by
  cases h with
  | base h => exact .base (TyOf.same e h)
  | byt b => exact .byt b
  | set h => exact .set (e _ _ h)
  | kList h c => exact .kList h c
  | kTuple h c => exact .kTuple h c
  | kDict h c => exact .kDict h c
  | fTuple h => exact .fTuple (e _ _ h)
  | fDict h => exact .fDict (e _ _ h)
theorem Dq.up {K : PySem.W.Frag} {H H' : Hp} (e : Same H H') {v : V} {d : PyData} (h : Dq K H v d) : Dq K H' v d :=
  h.same fun a => ⟨fun _ q => e.seq q, fun _ q => Same.seqT e q, fun _ q => e _ _ q⟩
/-- a row of two answers, as data -/
def D2b (b : Bool) : PyData := .list [.bool b, .bool b]
theorem d2_len (b : Bool) : (D2b b).shown.length ≤ sizeLine := by cases b <;> decide +kernel
theorem d2_at {K : PySem.W.Frag} {H : Hp} {a : Addr} {b : Bool} (h : H a = some (.lst [.bl b, .bl b])) : Dq K H (.ref a) (D2b b) := .lst (SqL.of h) (.cons (.bl b) (.cons (.bl b) .nil))
/-- by keyword, one parameter -/
def g1 {α : Type} : List α → List α → List α
  | [], [t] => [t]
  | _, _ => []
/-- by keywords, two parameters, the second one first -/
def g2 {α : Type} : List α → List α → List α
  | [], [t, l] => [l, t]
  | _, _ => []
theorem g1_rel {vs : List V} {us : List Value} {zs : List V} {ws : List Value} (r : Vals vs us) (rz : Vals zs ws) : Vals (g1 vs zs) (g1 us ws) := by
  cases r with
  | cons a b => exact .nil
  | nil =>
    cases rz with
    | nil => exact .nil
    | cons a b =>
      cases b with
      | nil => exact .cons a .nil
      | cons _ _ => exact .nil
theorem g2_rel {vs : List V} {us : List Value} {zs : List V} {ws : List Value} (r : Vals vs us) (rz : Vals zs ws) : Vals (g2 vs zs) (g2 us ws) := by
  cases r with
  | cons a b => exact .nil
  | nil =>
    cases rz with
    | nil => exact .nil
    | cons a b =>
      cases b with
      | nil => exact .nil
      | cons a2 b2 =>
        cases b2 with
        | nil => exact .cons a2 (.cons a .nil)
        | cons _ _ => exact .nil
end Ami

set_option Elab.async false
set_option linter.all false
set_option maxRecDepth 100000
set_option maxHeartbeats 2000000
namespace Ami
open PySem PySem.Spec PyProof.Rows L2
theorem leaves_texts : ∀ {ss : List Str}, (∀ z ∈ ss, Asc z) → PyData.leavesShortAll 8 ((ss.map V.str).map fD) = true
  | [], _ => rfl
  | z :: ss, h => by
    show ((z.cps.toList.all fun c => decide (c < 16 ^ 8)) && PyData.leavesShortAll 8 ((ss.map V.str).map fD)) = true
    rw [Bool.and_eq_true]
    refine ⟨List.all_eq_true.mpr fun c hc => decide_eq_true (Nat.lt_of_lt_of_le (h z List.mem_cons_self c hc) (by decide)), leaves_texts fun y hy => h y (List.mem_cons_of_mem _ hy)⟩
theorem weight_texts : ∀ ss : List Str, PyData.weightAll ((ss.map V.str).map fD) = (ss.map (fun z => z.length)).sum + ss.length
  | [] => rfl
  | z :: ss => by
    show z.cps.size + 1 + PyData.weightAll ((ss.map V.str).map fD) = z.length + (ss.map (fun z => z.length)).sum + (ss.length + 1)
    rw [weight_texts ss]
    unfold Str.length
    omega
theorem okF_texts {ss : List Str} (h : ∀ z ∈ ss, Asc z) : (ss.map V.str).all okF = true := by
  rw [List.all_eq_true]
  intro v hv
  obtain ⟨z, hz, rfl⟩ := List.mem_map.mp hv
  exact (h z hz).ok
theorem noDict_texts : ∀ ss : List Str, PyData.hasDictAll ((ss.map V.str).map fD) = false
  | [] => rfl
  | z :: ss => by show (false || PyData.hasDictAll ((ss.map V.str).map fD)) = false; rw [noDict_texts ss]; rfl
theorem showable_texts : ∀ ss : List Str, PyData.showableAll ((ss.map V.str).map fD) = true
  | [] => rfl
  | z :: ss => by show (true && PyData.showableAll ((ss.map V.str).map fD)) = true; rw [showable_texts ss]; rfl
theorem shownL_texts {ss : List Str} (h : ∀ z ∈ ss, Asc z) (hl : (ss.map (fun z => z.length)).sum + ss.length ≤ 1000000) : (PyData.list ((ss.map V.str).map fD)).shown.length ≤ sizeLine := by
  have q := PyData.shown_le 8 (Nat.le_refl _) (.list ((ss.map V.str).map fD)) (leaves_texts h)
  have e : PyData.weight (.list ((ss.map V.str).map fD)) = (ss.map (fun z => z.length)).sum + ss.length := weight_texts ss
  rw [e] at q
  rw [sizeLine_eq]
  omega
theorem shownT_texts {ss : List Str} (h : ∀ z ∈ ss, Asc z) (hl : (ss.map (fun z => z.length)).sum + ss.length ≤ 1000000) : (PyData.tuple ((ss.map V.str).map fD)).shown.length ≤ sizeLine := by
  have q := PyData.shown_le 8 (Nat.le_refl _) (.tuple ((ss.map V.str).map fD)) (leaves_texts h)
  have e : PyData.weight (.tuple ((ss.map V.str).map fD)) = (ss.map (fun z => z.length)).sum + ss.length := weight_texts ss
  rw [e] at q
  rw [sizeLine_eq]
  omega
theorem ones_sum (z : Str) : ((letts z).map (fun y => y.length)).sum = z.length := by
  unfold letts
  rw [List.map_map]
  have e : (fun y : Str => y.length) ∘ one = fun _ => 1 := rfl
  rw [e, List.map_const', List.sum_replicate_nat]
  show z.cps.toList.length * 1 = z.cps.size
  rw [Array.length_toList]; omega
theorem letts_asc {z : Str} (h : Asc z) : ∀ y ∈ letts z, Asc y := by
  intro y hy
  obtain ⟨c, hc, rfl⟩ := List.mem_map.mp hy
  intro d hd
  have : d = c := by simpa [one] using hd
  rw [this]
  exact h c hc
end Ami

set_option Elab.async false
set_option linter.all false
set_option maxRecDepth 100000
set_option maxHeartbeats 400000
/-! Dict comprehensions of two clauses. -/
namespace Ami
open PySem PySem.Spec PyProof.Rows L2
/-- the comprehension of two clauses that this file speaks of -/
abbrev dc2 (kx vx t0 i0 : Expr) (ifs0 : List Expr) (t1 i1 : Expr) (ifs1 : List Expr) (scope : Scope) (pos : Pos) : Expr := .DictComp kx vx [⟨t0, i0, ifs0, 0⟩, ⟨t1, i1, ifs1, 0⟩] scope pos
section
variable {kx vx t0 i0 t1 i1 : Expr} {ifs0 ifs1 : List Expr} {scope : Scope} {pos : Pos} {it : Value} {D : Addr} {env : Env}
/-- the tests of a clause, one behind the other -/
abbrev tested (env : Env) (ifs : List Expr) : Sem Bool := forIn ifs true fun c r => if r = true then do let ok ← isTrue c env (eval c env); pure (ForInStep.yield ok) else pure (ForInStep.yield r)
theorem turn_out : compTurn (dc2 kx vx t0 i0 ifs0 t1 i1 ifs1 scope pos) 0 it (.ref D) env = (do
    standAt i0.pos
    match ← pyNext it with
    | none => pure (.done .next)
    | some v =>
      letOwnedTupleGo t0 it v
      assign t0 env v
      if ← tested env ifs0 then
        let x ← eval i1 env
        standAt i1.pos
        let x ← foldedSetIterable i1 env x
        let _ ← runOwn (.compStart (dc2 kx vx t0 i0 ifs0 t1 i1 ifs1 scope pos) 1 (← holding [x] (pyIter x)) (.ref D) env) env
      again (.compLoop (dc2 kx vx t0 i0 ifs0 t1 i1 ifs1 scope pos) 0 it (.ref D) env)) := by rfl
theorem turn_in : compTurn (dc2 kx vx t0 i0 ifs0 t1 i1 ifs1 scope pos) 1 it (.ref D) env = (do
    standAt i1.pos
    match ← pyNext it with
    | none => pure (.done .next)
    | some v =>
      letOwnedTupleGo t1 it v
      assign t1 env v
      if ← tested env ifs1 then
        (do let kv ← eval kx env
            let vv ← holding [kv] (eval vx env)
            standAt { kx.pos with endLine := vx.pos.endLine, endCol := vx.pos.endCol }
            holding [kv, vv] (dictSet D kv vv))
      again (.compLoop (dc2 kx vx t0 i0 ifs0 t1 i1 ifs1 scope pos) 1 it (.ref D) env)) := by rfl
end
section
variable {prog : Program} {w : World} {A : Around} {R : Result → Shared → Prop} {s : Shared} {kx vx t0 i0 t1 i1 : Expr} {ifs0 ifs1 : List Expr} {scope : Scope} {pos : Pos} {it : Value} {D : Addr} {env : Env}
/-- where a raised error goes -/
abbrev lost (prog : Program) (w : World) (A : Around) (env : Env) (R : Result → Shared → Prop) : Value → Shared → Prop := notedBy (model prog w) A env fun e s' => R (.error e) s'
/-- one step of work, of which an error is lost -/
abbrev does {α : Type} (prog : Program) (w : World) (A : Around) (env : Env) (R : Result → Shared → Prop) (t : Sem α) (Q : α → Shared → Prop) (s : Shared) : Prop := wpAny (model prog w) A t Q (lost prog w A env R) s
theorem loop_out (hs : ∀ x, foldedSetIterable i1 env x = pure x) (I : Nat → Shared → Prop)
    (turn : ∀ n s, I n s → does prog w A env R (pyNext it) (fun r s₁ => match r with
      | none => R (.ok .next) s₁
      | some v => does prog w A env R (letOwnedTupleGo t0 it v) (fun _ s₂ => does prog w A env R (assign t0 env v) (fun _ s₃ => does prog w A env R (tested env ifs0) (fun ok s₄ =>
          if ok = true then does prog w A env R (eval i1 env) (fun x s₅ => does prog w A env R (pyIter x) (fun it1 s₆ =>
            codeAny (model prog w) A (.compStart (dc2 kx vx t0 i0 ifs0 t1 i1 ifs1 scope pos) 1 it1 (.ref D) env) (fun r s' => match r with
              | .ok _ => ∃ m, m < n ∧ I m s'
              | .error _ => False) s₆) s₅) s₄
          else ∃ m, m < n ∧ I m s₄) s₃) s₂) s₁) s)
    (n : Nat) (h : I n s) : codeAny (model prog w) A (.compLoop (dc2 kx vx t0 i0 ifs0 t1 i1 ifs1 scope pos) 0 it (.ref D) env) R s := by
  refine codeAny_loop rfl I (fun n s hI => ?_) n h
  show wpAny _ A ((compTurn (dc2 kx vx t0 i0 ifs0 t1 i1 ifs1 scope pos) 0 it (.ref D) env).onRaise (fun x => do noteFrame x env; theTreesLotGoes x)) _ _ s
  refine wpAny_noted ?_
  rw [turn_out]
  refine wpAny_bind (wpAny_standAt (wpAny_bind (wpAny_mono (turn n s hI) (fun r s₁ h₁ => ?_) fun _ _ z => z)))
  cases r with
  | none => exact wpAny_pure h₁
  | some v =>
    refine wpAny_bind (wpAny_mono h₁ (fun _ s₂ h₂ => wpAny_bind (wpAny_mono h₂ (fun _ s₃ h₃ => wpAny_bind (wpAny_mono h₃ (fun ok s₄ h₄ => ?_) fun _ _ z => z)) fun _ _ z => z)) fun _ _ z => z)
    cases ok with
    | false => exact wpAny_pure ⟨rfl, h₄⟩
    | true =>
      refine wpAny_bind (wpAny_mono h₄ (fun x s₅ h₅ => ?_) fun _ _ z => z)
      refine wpAny_bind (wpAny_standAt (wpAny_bind (wpAny_of_eq (hs x) (wpAny_bind (wpAny_holding (wpAny_mono h₅ (fun it1 s₆ h₆ => ?_) fun _ _ z => z))))))
      refine wpAny_bind (wpAny_runOwn ?_)
      rw [Around.mark_none]
      refine codeAny_mono h₆ fun r s' hr => ?_
      cases r with
      | ok f =>
        first
          | exact wpAny_pure ⟨rfl, hr⟩
          | exact wpAny_bind (wpAny_pure (wpAny_pure ⟨rfl, hr⟩))
      | error e => exact hr.elim
theorem loop_in (I : Nat → Shared → Prop)
    (turn : ∀ n s, I n s → does prog w A env R (pyNext it) (fun r s₁ => match r with
      | none => R (.ok .next) s₁
      | some v => does prog w A env R (letOwnedTupleGo t1 it v) (fun _ s₂ => does prog w A env R (assign t1 env v) (fun _ s₃ => does prog w A env R (tested env ifs1) (fun ok s₄ =>
          if ok = true then does prog w A env R (eval kx env) (fun k s₅ => does prog w A env R (eval vx env) (fun y s₆ => does prog w A env R (dictSet D k y) (fun _ s₇ => ∃ m, m < n ∧ I m s₇) s₆) s₅) s₄
          else ∃ m, m < n ∧ I m s₄) s₃) s₂) s₁) s)
    (n : Nat) (h : I n s) : codeAny (model prog w) A (.compLoop (dc2 kx vx t0 i0 ifs0 t1 i1 ifs1 scope pos) 1 it (.ref D) env) R s := by
  refine codeAny_loop rfl I (fun n s hI => ?_) n h
  show wpAny _ A ((compTurn (dc2 kx vx t0 i0 ifs0 t1 i1 ifs1 scope pos) 1 it (.ref D) env).onRaise (fun x => do noteFrame x env; theTreesLotGoes x)) _ _ s
  refine wpAny_noted ?_
  rw [turn_in]
  refine wpAny_bind (wpAny_standAt (wpAny_bind (wpAny_mono (turn n s hI) (fun r s₁ h₁ => ?_) fun _ _ z => z)))
  cases r with
  | none => exact wpAny_pure h₁
  | some v =>
    refine wpAny_bind (wpAny_mono h₁ (fun _ s₂ h₂ => wpAny_bind (wpAny_mono h₂ (fun _ s₃ h₃ => wpAny_bind (wpAny_mono h₃ (fun ok s₄ h₄ => ?_) fun _ _ z => z)) fun _ _ z => z)) fun _ _ z => z)
    cases ok with
    | false => exact wpAny_pure ⟨rfl, h₄⟩
    | true =>
      refine wpAny_bind (wpAny_bind (wpAny_mono h₄ (fun k s₅ h₅ => wpAny_bind (wpAny_holding (wpAny_mono h₅ (fun y s₆ h₆ => ?_) fun _ _ z => z))) fun _ _ z => z))
      exact wpAny_bind (wpAny_standAt (wpAny_holding (wpAny_mono h₆ (fun _ s₇ h₇ => wpAny_pure ⟨rfl, h₇⟩) fun _ _ z => z)))
/-- the second clause begins -/
theorem start_in (h0 : codeAny (model prog w) A (.compLoop (dc2 kx vx t0 i0 ifs0 t1 i1 ifs1 scope pos) 1 it (.ref D) env) R s)
    (h : wpAny (model prog w) A (pyIter it) (fun it' s' => codeAny (model prog w) A (.compLoop (dc2 kx vx t0 i0 ifs0 t1 i1 ifs1 scope pos) 1 it' (.ref D) env) R s') (lost prog w A env R) s) :
    codeAny (model prog w) A (.compStart (dc2 kx vx t0 i0 ifs0 t1 i1 ifs1 scope pos) 1 it (.ref D) env) R s := by
  refine codeAny_of_tree ?_
  show wpAny _ _ ((compStart (dc2 kx vx t0 i0 ifs0 t1 i1 ifs1 scope pos) 1 it (.ref D) env).onRaise (fun x => do noteFrame x env; standAt theWindowsPlace)) _ _ s
  refine wpAny_notedAt ?_
  unfold compStart
  show wpAny _ _ (ask >>= _) _ _ s
  refine wpAny_bind (wpAny_askSetting (wpAny_ite ?_))
  split
  · first
      | exact wpAny_bind (wpAny_pure (wpAny_pure (And.intro rfl h0)))
      | exact wpAny_pure (And.intro rfl h0)
  · first
      | exact wpAny_bind (wpAny_rule (wpAny_bind (wpAny_standAt (wpAny_bind (wpAny_mono h (fun it' s' z => wpAny_pure (And.intro rfl z)) fun _ _ x => x)))))
      | (refine wpAny_bind (wpAny_rule ?_); show wpAny _ _ (standAt i1.pos >>= _) _ _ s; exact wpAny_bind (wpAny_standAt (wpAny_bind (wpAny_mono h (fun it' s' z => wpAny_pure (And.intro rfl z)) fun _ _ x => x))))
end
section
variable {X : Cx}
/-- what a turn that stores into the dict at D has to find and to leave -/
def sto (D : Addr) (Nx : Hp → Prop) (y z : V) (H : Hp) : Prop := ∃ kvs k, y = kV k ∧ H D = some (.dK kvs) ∧ kvs.length < sizeLine ∧ Nx (upd H D (.dK (putK kvs k z)))
/-- the second clause's turns, from H0 on, to Nx -/
def TurnsIn (J : It) (g : TG) (tt : TT) (tk tv : TE) (vs : List Nat) (σ : L2.St) (D : Addr) (Nx : Hp → Prop) (H0 : Hp) : Prop :=
  ∃ W : Nat → Nat → Hp → Prop, (∃ m, W 0 m H0) ∧ ∀ j k H, W j k H → (J.stop j H ∧ Nx H) ∨ (J.go j H ∧ ∃ N1 : Hp → Prop, (∀ H', N1 H' → ∃ k', k' < k ∧ W (j + 1) k' H') ∧
    ∀ x H', J.yld j H x H' → g x (wipe σ vs) H' fun σ3 H5 => wipe σ3 vs = wipe σ vs ∧ tt σ3 H5 fun b H6 => if b = true then tk σ3 H6 fun y H7 => tv σ3 H7 fun z H8 => sto D N1 y z H8 else N1 H6)
/-- the first clause's turns, from H0 on, to Qd -/
def TurnsOut (J : It) (g : TG) (tt : TT) (wi1 : TI) (g1 : TG) (tt1 : TT) (tk tv : TE) (vs vs1 : List Nat) (σ : L2.St) (D : Addr) (Qd : Hp → Prop) (H0 : Hp) : Prop :=
  ∃ W : Nat → Nat → Hp → Prop, (∃ m, W 0 m H0) ∧ ∀ i m H, W i m H → (J.stop i H ∧ Qd H) ∨ (J.go i H ∧ ∃ Nx : Hp → Prop, (∀ H', Nx H' → ∃ m', m' < m ∧ W (i + 1) m' H') ∧
    ∀ x H', J.yld i H x H' → g x (wipe σ vs) H' fun σ2 H2 => wipe σ2 vs = wipe σ vs ∧ tt σ2 H2 fun b H3 => if b = true then wi1 σ2 H3 fun J1 H4 => TurnsIn J1 g1 tt1 tk tv vs1 σ2 D Nx H4 else Nx H3)
/-- {k: v for t in i if .. for t1 in i1 if ..} -/
def tDc2 (wi : TI) (g : TG) (tt : TT) (wi1 : TI) (g1 : TG) (tt1 : TT) (tk tv : TE) (vs vs1 : List Nat) : TE := fun σ H Q => wi σ H fun J H1 => ∀ D, H1 D = none → TurnsOut J g tt wi1 g1 tt1 tk tv vs vs1 σ D (fun H => Q (.ref D) H) (upd H1 D (.dK []))
theorem pe_dc2 {kx vx tg iter tg1 iter1 : Expr} {ifs ifs1 : List Expr} {scope : Scope} {own : List (PySem.Str × Nat)} {vs1 : List Nat} {pos : Pos} {wi wi1 : TI} {g g1 : TG} {tt tt1 : TT} {tk tv : TE}
    (hc : X.calm = true) (hN : X.N.Nodup) (hi : PI X tg iter wi) (ok : BlkOk X.N X.env.scope scope own) (hv : ∀ i ∈ vs1, i ∈ own.map (·.2))
    (hg : ∀ (s : Shared) (H : Hp) (C : Addr) (cl : List (PySem.Str × Addr)) (fp : List Addr), PG (X.blk s H scope (compEnvC scope cl C X.env) fp) tg g)
    (ht : ∀ (s : Shared) (H : Hp) (C : Addr) (cl : List (PySem.Str × Addr)) (fp : List Addr), PTs (X.blk s H scope (compEnvC scope cl C X.env) fp) ifs tt)
    (hi1 : ∀ (s : Shared) (H : Hp) (C : Addr) (cl : List (PySem.Str × Addr)) (fp : List Addr), PI (X.blk s H scope (compEnvC scope cl C X.env) fp) tg1 iter1 wi1)
    (hg1 : ∀ (s : Shared) (H : Hp) (C : Addr) (cl : List (PySem.Str × Addr)) (fp : List Addr), PG (X.blk s H scope (compEnvC scope cl C X.env) fp) tg1 g1)
    (ht1 : ∀ (s : Shared) (H : Hp) (C : Addr) (cl : List (PySem.Str × Addr)) (fp : List Addr), PTs (X.blk s H scope (compEnvC scope cl C X.env) fp) ifs1 tt1)
    (hk : ∀ (s : Shared) (H : Hp) (C : Addr) (cl : List (PySem.Str × Addr)) (fp : List Addr), PE (X.blk s H scope (compEnvC scope cl C X.env) fp) kx tk)
    (he : ∀ (s : Shared) (H : Hp) (C : Addr) (cl : List (PySem.Str × Addr)) (fp : List Addr), PE (X.blk s H scope (compEnvC scope cl C X.env) fp) vx tv)
    (hs : ∀ x, foldedSetIterable iter X.env x = pure x := by intro _; rfl) (hs1 : ∀ env x, foldedSetIterable iter1 env x = pure x := by intro _ _; rfl) :
    PE X (.DictComp kx vx [⟨tg, iter, ifs, 0⟩, ⟨tg1, iter1, ifs1, 0⟩] scope pos) (tDc2 wi g tt wi1 g1 tt1 tk tv (own.map (·.2)) vs1) := by
  refine ⟨fun pins s σ H Q I h => ?_⟩
  rw [arm_eval_DictComp]
  have known : ∀ y ∈ scope.names, y.2 = .free → ∃ c, X.env.cells.lookup y.1 = some c := fun y hy e =>
    (ok.free y hy e).elim (fun k => I.ok.has _ (.inl k)) fun k => I.ok.has _ (.inr k)
  refine wpAny_comprehension_free rfl hs (closure_ok known) ok.kind (fun y hy e => by rw [ok.uniq y hy, e])
    (thn (hi.run pins s σ H _ I h) fun xv s1 hx => thn hx fun itv s2 ⟨it, fp, tn, J, H2, e, I2, T, st2, f2, q⟩ => ?_)
  subst e
  refine wpAny_newObj_type (newEnv_comp ?_)
  -- the new dict, at the end of the heap
  obtain ⟨D, hD⟩ : ∃ D, s2.heap.objs.size = D := ⟨_, rfl⟩
  rw [hD]
  obtain ⟨W, ⟨m0, w0⟩, turn⟩ := q D (I2.hok.fresh (Nat.le_of_eq hD))
  obtain ⟨H3, hH3⟩ : ∃ H3, upd H2 D (.dK []) = H3 := ⟨_, rfl⟩
  rw [hH3] at w0
  obtain ⟨s3, hs3⟩ : ∃ s3 : Shared, ({ s2 with heap := s2.heap.push { cls := .type "dict", data := .dict #[] } } : Shared) = s3 := ⟨_, rfl⟩
  have grown : ∀ b o, s2.heap.get? b = some o → s3.heap.get? b = some o := fun b o e => by
    rw [← hs3]; exact Heap.get?_push_of_some _ e
  have I3 : Inv X pins σ H3 s3 := by
    rw [← hs3, ← hH3]
    refine I2.laid (t' := s2.toks) (fun b o e => Heap.get?_push_of_some _ e) (Nat.le_of_eq hD) ?_
    rw [← hD]
    exact dk_empty s2.heap I2.big
  have sz3 : s3.heap.objs.size = s2.heap.objs.size + 1 := by
    rw [← hs3]; exact Heap.size_push _ _
  have young : ∀ b ∈ fp, b < s2.heap.objs.size := fun b hb => by
    obtain ⟨o, e, _⟩ := T.obj _ _ st2 b hb
    exact Heap.lt_size e
  have f3 : ∀ b ∈ fp, FpOk X pins H3 b ∧ b < s3.heap.objs.size := fun b hb => by
    have hlt := young b hb
    refine ⟨⟨?_, (f2 b hb).2⟩, by rw [sz3]; exact Nat.lt_succ_of_lt hlt⟩
    rw [← hH3, upd_ne (by rw [← hD]; exact Nat.ne_of_lt hlt)]
    exact (f2 b hb).1
  have st3 : tn 0 s3.heap := T.keep _ _ _ st2 fun b _ o e => grown b o e
  -- the block
  have I4 := block_start I3 ok hN f3
  have pg := hg s3 H3 s3.heap.objs.size (cellsFrom (s3.heap.objs.size + 1) scope.names (cloFrom X.env.cells scope.names [])) fp
  have pt := ht s3 H3 s3.heap.objs.size (cellsFrom (s3.heap.objs.size + 1) scope.names (cloFrom X.env.cells scope.names [])) fp
  have pi1 := hi1 s3 H3 s3.heap.objs.size (cellsFrom (s3.heap.objs.size + 1) scope.names (cloFrom X.env.cells scope.names [])) fp
  have pg1 := hg1 s3 H3 s3.heap.objs.size (cellsFrom (s3.heap.objs.size + 1) scope.names (cloFrom X.env.cells scope.names [])) fp
  have pt1 := ht1 s3 H3 s3.heap.objs.size (cellsFrom (s3.heap.objs.size + 1) scope.names (cloFrom X.env.cells scope.names [])) fp
  have pk := hk s3 H3 s3.heap.objs.size (cellsFrom (s3.heap.objs.size + 1) scope.names (cloFrom X.env.cells scope.names [])) fp
  have pe := he s3 H3 s3.heap.objs.size (cellsFrom (s3.heap.objs.size + 1) scope.names (cloFrom X.env.cells scope.names [])) fp
  have away : ∀ b ∈ fp, H3 b = none := fun b hb => (f3 b hb).1.1
  subst hD
  show codeAny _ _ (.compStart (dc2 kx vx tg iter ifs tg1 iter1 ifs1 scope pos) 0 (.ref it) (.ref s2.heap.objs.size) (compEnvC scope (cellsFrom (({ s2 with heap := s2.heap.push { cls := .type "dict", data := .dict #[] } } : Shared).heap.objs.size + 1) scope.names (cloFrom X.env.cells scope.names [])) ({ s2 with heap := s2.heap.push { cls := .type "dict", data := .dict #[] } } : Shared).heap.objs.size X.env)) (compPost (model X.prog X.w) X.A X.xe none _ (.ref s2.heap.objs.size) ({ s2 with heap := s2.heap.push { cls := .type "dict", data := .dict #[] } } : Shared).heap.objs.size) { ({ s2 with heap := s2.heap.push { cls := .type "dict", data := .dict #[] } } : Shared) with heap := pushCells (({ s2 with heap := s2.heap.push { cls := .type "dict", data := .dict #[] } } : Shared).heap.push { cls := .type "dict", data := .dict #[] }) scope.names }
  rw [hs3]
  generalize s2.heap.objs.size = D at *
  show codeAny _ _ (.compStart _ 0 (.ref it) (.ref D) (compEnvC scope (cellsFrom (s3.heap.objs.size + 1) scope.names (cloFrom X.env.cells scope.names [])) s3.heap.objs.size X.env)) (compPost (model X.prog X.w) X.A X.xe none (EP X pins σ Q) (.ref D) s3.heap.objs.size) { s3 with heap := pushCells (s3.heap.push { cls := .type "dict", data := .dict #[] }) scope.names }
  obtain ⟨ce, hce⟩ : ∃ ce, compEnvC scope (cellsFrom (s3.heap.objs.size + 1) scope.names (cloFrom X.env.cells scope.names [])) s3.heap.objs.size X.env = ce := ⟨_, rfl⟩
  have cL : ce.locals = s3.heap.objs.size := by rw [← hce]; rfl
  rw [hce] at I4 pg pt pi1 pg1 pt1 pk pe ⊢
  have st4 : tn 0 ({ s3 with heap := pushCells (s3.heap.push { cls := .type "dict", data := .dict #[] }) scope.names } : Shared).heap := T.keep _ _ _ st3 fun b _ o e => pushCells_keeps _ _ _ _ (Heap.get?_push_of_some _ e)
  revert I4 st4
  generalize ({ s3 with heap := pushCells (s3.heap.push { cls := .type "dict", data := .dict #[] }) scope.names } : Shared) = s4
  intro I4 st4
  -- the iterator's own objects, as the block sees them
  have own_ok : ∀ {σ' : L2.St} {H' : Hp} {s' : Shared}, Inv (X.blk s3 H3 scope ce fp) [] σ' H' s' → (∀ b ∈ fp, H' b = none) → ∀ b ∈ fp, FpOk (X.blk s3 H3 scope ce fp) [] H' b := fun {σ' H' s'} I' hn b hb =>
    ⟨hn b hb, (I'.ok.exf b hb).1, I'.ok.exfs b hb, .inl hb, fun x c e => (I'.ok.exf b hb).2 x c e, fun p hp => absurd (show p ∈ ([] : List (Addr × Obj)) ++ [] from hp) (by simp)⟩
  have loop : codeAny (model X.prog X.w) X.A (.compLoop (dc2 kx vx tg iter ifs tg1 iter1 ifs1 scope pos) 0 (.ref it) (.ref D) ce) (compPost (model X.prog X.w) X.A X.xe none (EP X pins σ Q) (.ref D) s3.heap.objs.size) s4 := by
    refine loop_out (hs1 ce) (fun n s' => ∃ i H', Inv (X.blk s3 H3 scope ce fp) [] (wipe σ (own.map (·.2))) H' s' ∧ tn i s'.heap ∧ (∀ b ∈ fp, H' b = none) ∧ W i n H') ?_ m0 ⟨0, H3, I4, st4, away, w0⟩
    rintro n s5 ⟨i, H5, I5, st5, n5, w5⟩
    rcases turn i n H5 w5 with ⟨stop, qq⟩ | ⟨go, Nx, hNx, step⟩
    · refine thnF (T.done (X.blk s3 H3 scope ce fp) rfl rfl rfl hc i [] s5 _ H5 (fun _ _ => False) I5 (own_ok I5 n5) st5 stop) fun r s6 ⟨hr, I6⟩ => ?_
      subst hr
      have back : Inv X pins σ H5 s6 := I3.call' (ch := fp) I6.os I6.base I6.hok I6.bare fun b hb => by
        obtain ⟨⟨_, z1, z2, z3, z4, z5⟩, _⟩ := f3 b hb
        exact ⟨z3, z1, z4, z5⟩
      have nC : H5 s3.heap.objs.size = none := cL ▸ (show H5 ce.locals = none from I6.free)
      obtain ⟨m, hn, _⟩ := I6.loc
      have hn' : s6.heap.Ns s3.heap.objs.size m := cL ▸ (show s6.heap.Ns ce.locals m from hn)
      obtain ⟨f0, f1, f2', f3', f4, f5⟩ := I3.fpOk (Nat.le_refl _) nC
      refine ⟨m, hn', fun h'' sb => ?_⟩
      exact ⟨.ref D, H5, back.turned (t' := s6.toks) (fun b o hb e => (sb.2 b hb).trans e) f0 f1 f3' f4 f5, rfl, qq⟩
    · refine thnF (T.item (X.blk s3 H3 scope ce fp) rfl rfl rfl hc i [] s5 _ H5 (fun _ _ => False) I5 (own_ok I5 n5) st5 go) fun r s6 ⟨u, hr, h6⟩ => ?_
      subst hr
      refine thnF h6 fun _ s7 ⟨x, H7, I7, r7, y7, st7, n7⟩ => ?_
      refine thnF (pg.run _ s7 _ H7 x u _ (I7.pinned (own_ok I7 n7) (T.obj _ _ st7)) r7 (step x H7 y7)) fun _ s8 ⟨σ8, H8, I8, hw8, q8⟩ => ?_
      refine thnF (pt.run _ s8 σ8 H8 _ I8 q8) fun b s9 ⟨H9, I9, q9⟩ => ?_
      -- one turn less, whatever the second clause left in its own slots
      have next : ∀ {σ9 : L2.St} {s' : Shared} {H' : Hp}, Inv (X.blk s3 H3 scope ce fp) ([] ++ pinsAt fp s7.heap) σ9 H' s' → σ9.length = σ8.length → (∀ (j : Nat) v, (wipe σ (own.map (·.2)))[j]? = some (some v) → σ9[j]? = some (some v)) → Nx H' →
          ∃ m, m < n ∧ ∃ i H', Inv (X.blk s3 H3 scope ce fp) [] (wipe σ (own.map (·.2))) H' s' ∧ tn i s'.heap ∧ (∀ b ∈ fp, H' b = none) ∧ W i m H' := fun {σ9 s' H'} I' hl hk nx => by
        obtain ⟨m', hm, w'⟩ := hNx H' nx
        have still : ∀ b ∈ fp, ∀ o, s7.heap.get? b = some o → s'.heap.get? b = some o ∧ H' b = none := fun b hb o e => by
          have z := I'.pin (b, o) (List.mem_append_right _ (List.mem_append_right _ (mem_pinsAt hb e)))
          exact ⟨z.1, z.2.1⟩
        have hl' : (wipe σ (own.map (·.2))).length = σ9.length := by rw [hl, ← wipe_length σ8 (own.map (·.2)), hw8]
        refine ⟨m', hm, i + 1, H', (I'.unpinned (pins := [])).weak hl' hk, T.keep _ _ _ st7 fun b hb o e => (still b hb o e).1, fun b hb => ?_, w'⟩
        obtain ⟨o, e, _⟩ := T.obj _ _ st7 b hb
        exact (still b hb o e).2
      have hk8 : ∀ (j : Nat) v, (wipe σ (own.map (·.2)))[j]? = some (some v) → σ8[j]? = some (some v) := fun j v e => (wipe_some (hw8 ▸ e)).1
      cases b with
      | false =>
        simp only [Bool.false_eq_true, if_false] at q9 ⊢
        exact next I9 rfl hk8 q9
      | true =>
        simp only [if_true] at q9 ⊢
        refine thnF (pi1.run _ s9 σ8 H9 _ I9 q9) fun xv s10 hx => thnF hx fun itv s11 ⟨it1, fp1, tn1, J1, H11, e1, I11, T1, st11, f11, W1, ⟨m1, w1⟩, turn1⟩ => ?_
        subst e1
        have own1 : ∀ {H' : Hp}, (∀ b ∈ fp1, H' b = none) → ∀ b ∈ fp1, FpOk (X.blk s3 H3 scope ce fp) ([] ++ pinsAt fp s7.heap) H' b := fun hn b hb => ⟨hn b hb, (f11 b hb).2⟩
        have hk9 : ∀ (j : Nat) v, (wipe σ (own.map (·.2)))[j]? = some (some v) → (wipe σ8 vs1)[j]? = some (some v) := fun j v e => by
          obtain ⟨e1, e2⟩ := wipe_some (hw8 ▸ e)
          rw [wipe_out fun z => e2 (hv j z)]
          exact e1
        have loop1 : codeAny (model X.prog X.w) X.A (.compLoop (dc2 kx vx tg iter ifs tg1 iter1 ifs1 scope pos) 1 (.ref it1) (.ref D) ce)
            (fun r s' => match r with
              | .ok _ => ∃ m, m < n ∧ ∃ i H', Inv (X.blk s3 H3 scope ce fp) [] (wipe σ (own.map (·.2))) H' s' ∧ tn i s'.heap ∧ (∀ b ∈ fp, H' b = none) ∧ W i m H'
              | .error _ => False) s11 := by
          refine loop_in (fun k s' => ∃ j H', Inv (X.blk s3 H3 scope ce fp) ([] ++ pinsAt fp s7.heap) (wipe σ8 vs1) H' s' ∧ tn1 j s'.heap ∧ (∀ b ∈ fp1, H' b = none) ∧ W1 j k H') ?_ m1 ⟨0, H11, I11.weak (wipe_length _ _) (fun j v e => (wipe_some e).1), st11, fun b hb => (f11 b hb).1, w1⟩
          rintro k s12 ⟨j, H12, I12, st12, n12, w12⟩
          rcases turn1 j k H12 w12 with ⟨stop1, nx1⟩ | ⟨go1, Nx1, hNx1, step1⟩
          · refine thnF (T1.done (X.blk s3 H3 scope ce fp) rfl rfl rfl hc j _ s12 (wipe σ8 vs1) H12 (fun _ _ => False) I12 (own1 n12) st12 stop1) fun r s13 ⟨hr, I13⟩ => ?_
            subst hr
            exact next I13 (wipe_length σ8 vs1) hk9 nx1
          · refine thnF (T1.item (X.blk s3 H3 scope ce fp) rfl rfl rfl hc j _ s12 (wipe σ8 vs1) H12 (fun _ _ => False) I12 (own1 n12) st12 go1) fun r s13 ⟨u1, hr, h13⟩ => ?_
            subst hr
            refine thnF h13 fun _ s14 ⟨x1, H14, I14, r14, y14, st14, n14⟩ => ?_
            refine thnF (pg1.run _ s14 (wipe σ8 vs1) H14 x1 u1 _ (I14.pinned (own1 n14) (T1.obj _ _ st14)) r14 (step1 x1 H14 y14)) fun _ s15 ⟨σ15, H15, I15, hw15, q15⟩ => ?_
            refine thnF (pt1.run _ s15 σ15 H15 _ I15 q15) fun b1 s16 ⟨H16, I16, q16⟩ => ?_
            have next1 : ∀ {s' : Shared} {H' : Hp}, Inv (X.blk s3 H3 scope ce fp) (([] ++ pinsAt fp s7.heap) ++ pinsAt fp1 s14.heap) σ15 H' s' → Nx1 H' → ∃ m, m < k ∧ ∃ j H', Inv (X.blk s3 H3 scope ce fp) ([] ++ pinsAt fp s7.heap) (wipe σ8 vs1) H' s' ∧ tn1 j s'.heap ∧ (∀ b ∈ fp1, H' b = none) ∧ W1 j m H' := fun {s' H'} I' nx => by
              obtain ⟨m', hm, w'⟩ := hNx1 H' nx
              have still : ∀ b ∈ fp1, ∀ o, s14.heap.get? b = some o → s'.heap.get? b = some o ∧ H' b = none := fun b hb o e => by
                have z := I'.pin (b, o) (List.mem_append_right _ (List.mem_append_right _ (mem_pinsAt hb e)))
                exact ⟨z.1, z.2.1⟩
              refine ⟨m', hm, j + 1, H', I'.unpinned.weak (by rw [← hw15, wipe_length]) (fun j v e => (wipe_some (hw15 ▸ e)).1), T1.keep _ _ _ st14 fun b hb o e => (still b hb o e).1, fun b hb => ?_, w'⟩
              obtain ⟨o, e, _⟩ := T1.obj _ _ st14 b hb
              exact (still b hb o e).2
            cases b1 with
            | false =>
              simp only [Bool.false_eq_true, if_false] at q16 ⊢
              exact next1 I16 q16
            | true =>
              simp only [if_true] at q16 ⊢
              refine thnF (pk.run _ s16 σ15 H16 _ I16 q16) fun z s17 ⟨yk, H17, I17, r17, q17⟩ => ?_
              refine thnF (pe.run _ s17 σ15 H17 _ I17 q17) fun z2 s18 ⟨yv, H18, I18, r18, kvs, k, ek, hD18, hz18, nx⟩ => ?_
              subst ek
              exact d_dictSet (X := X.blk s3 H3 scope ce fp) I18 hD18 hz18 r17 r18 fun s19 I19 => next1 I19 nx
        exact start_in loop1 (T1.self X.A 0 _ _ _ st11 loop1)
  exact codeAny_compStart_dict loop (T.self X.A 0 _ _ _ st4 loop)
end
/-- the first clause over a tuple that stays -/
theorem out_tup {K : PySem.W.Frag} {a : Addr} {xs : List V} {g : TG} {tt : TT} {wi1 : TI} {g1 : TG} {tt1 : TT} {tk tv : TE} {vs vs1 : List Nat} {σ : L2.St} {H0 : Hp} {D : Addr} {Qd : Hp → Prop} (Pv : Nat → Hp → Prop) (h0 : Pv 0 H0) (hl : ∀ i H, i ≤ xs.length → Pv i H → SqT K H a xs)
    (hs : ∀ i x H, xs[i]? = some x → Pv i H → g x (wipe σ vs) H fun σ2 H2 => wipe σ2 vs = wipe σ vs ∧ tt σ2 H2 fun b H3 => if b = true then wi1 σ2 H3 fun J1 H4 => TurnsIn J1 g1 tt1 tk tv vs1 σ2 D (Pv (i + 1)) H4 else Pv (i + 1) H3) (hd : ∀ H, Pv xs.length H → Qd H) :
    TurnsOut (Itt K a) g tt wi1 g1 tt1 tk tv vs vs1 σ D Qd H0 := by
  refine ⟨fun i m H => m = xs.length - i ∧ i ≤ xs.length ∧ Pv i H, ⟨xs.length, by simp, Nat.zero_le _, h0⟩, ?_⟩
  rintro i m H ⟨rfl, hi, p⟩
  have q := hl i H hi p
  by_cases hlt : i < xs.length
  · refine .inr ⟨⟨xs, xs[i], q, by simp [hlt]⟩, Pv (i + 1), fun H' p' => ⟨xs.length - (i + 1), by omega, rfl, hlt, p'⟩, fun x H' ⟨e, y⟩ => ?_⟩
    subst e
    exact hs i x _ (y xs q) p
  · have e : i = xs.length := by omega
    subst e
    exact .inl ⟨⟨xs, q, Nat.le_refl _⟩, hd H p⟩
/-- the second clause over the numbers lo, lo + 1, .. (n of them) -/
theorem in_range {lo : Int} {n : Nat} {g : TG} {tt : TT} {tk tv : TE} {vs : List Nat} {σ : L2.St} {H0 : Hp} {D : Addr} {Nx : Hp → Prop} (Pv : Nat → Hp → Prop) (h0 : Pv 0 H0)
    (hs : ∀ i H, i < n → Pv i H → g (.int (lo + i)) (wipe σ vs) H fun σ2 H2 => wipe σ2 vs = wipe σ vs ∧ tt σ2 H2 fun b H3 => if b = true then tk σ2 H3 fun y H4 => tv σ2 H4 fun z H5 => sto D (Pv (i + 1)) y z H5 else Pv (i + 1) H3) (hd : ∀ H, Pv n H → Nx H) :
    TurnsIn (Itr lo n) g tt tk tv vs σ D Nx H0 := by
  refine ⟨fun i m H => m = n - i ∧ i ≤ n ∧ Pv i H, ⟨n, by simp, Nat.zero_le _, h0⟩, ?_⟩
  rintro i m H ⟨rfl, hi, p⟩
  by_cases hlt : i < n
  · refine .inr ⟨hlt, Pv (i + 1), fun H' p' => ⟨n - (i + 1), by omega, rfl, hlt, p'⟩, fun x H' ⟨e1, e2⟩ => ?_⟩
    subst e1 e2
    exact hs i H' hlt p
  · have e : i = n := by omega
    subst e
    exact .inl ⟨Nat.le_refl _, hd H p⟩
end Ami

set_option Elab.async false
set_option linter.all false
set_option maxRecDepth 100000
set_option maxHeartbeats 400000
/-! How a list comprehension of two clauses is read. -/
namespace Ami
open PySem PySem.Spec PyProof.Rows L2
/-- what a turn that adds y to the list at D has to find and to leave -/
def app (D : Addr) (Nx : Hp → Prop) (y : V) (H : Hp) : Prop := ∃ acc, H D = some (.lst acc) ∧ acc.length < sizeLine ∧ Nx (upd H D (.lst (acc ++ [y])))
def LIn (J : It) (g : TG) (tt : TT) (te : TE) (vs : List Nat) (σ : L2.St) (D : Addr) (Nx : Hp → Prop) (H0 : Hp) : Prop :=
  ∃ W : Nat → Nat → Hp → Prop, (∃ m, W 0 m H0) ∧ ∀ j k H, W j k H → (J.stop j H ∧ Nx H) ∨ (J.go j H ∧ ∃ N1 : Hp → Prop, (∀ H', N1 H' → ∃ k', k' < k ∧ W (j + 1) k' H') ∧
    ∀ x H', J.yld j H x H' → g x (wipe σ vs) H' fun σ3 H5 => wipe σ3 vs = wipe σ vs ∧ tt σ3 H5 fun b H6 => if b = true then te σ3 H6 (app D N1) else N1 H6)
def LOut (J : It) (g : TG) (tt : TT) (wi1 : TI) (g1 : TG) (tt1 : TT) (te : TE) (vs vs1 : List Nat) (σ : L2.St) (D : Addr) (Qd : Hp → Prop) (H0 : Hp) : Prop :=
  ∃ W : Nat → Nat → Hp → Prop, (∃ m, W 0 m H0) ∧ ∀ i m H, W i m H → (J.stop i H ∧ Qd H) ∨ (J.go i H ∧ ∃ Nx : Hp → Prop, (∀ H', Nx H' → ∃ m', m' < m ∧ W (i + 1) m' H') ∧
    ∀ x H', J.yld i H x H' → g x (wipe σ vs) H' fun σ2 H2 => wipe σ2 vs = wipe σ vs ∧ tt σ2 H2 fun b H3 => if b = true then wi1 σ2 H3 fun J1 H4 => LIn J1 g1 tt1 te vs1 σ2 D Nx H4 else Nx H3)
/-- the reading of pe_lc2, by these words -/
theorem lc2_is {wi : TI} {g : TG} {tt : TT} {wi1 : TI} {g1 : TG} {tt1 : TT} {te : TE} {vs vs1 : List Nat} {σ : L2.St} {H : Hp} {Q : VK}
    (h : wi σ H fun J H1 => ∀ D, H1 D = none → LOut J g tt wi1 g1 tt1 te vs vs1 σ D (fun H => Q (.ref D) H) (upd H1 D (.lst []))) : tLc2 wi g tt wi1 g1 tt1 te vs vs1 σ H Q := h
/-- the first clause over a tuple that stays -/
theorem lout_tup {K : PySem.W.Frag} {a : Addr} {xs : List V} {g : TG} {tt : TT} {wi1 : TI} {g1 : TG} {tt1 : TT} {te : TE} {vs vs1 : List Nat} {σ : L2.St} {H0 : Hp} {D : Addr} {Qd : Hp → Prop} (Pv : Nat → Hp → Prop) (h0 : Pv 0 H0) (hl : ∀ i H, i ≤ xs.length → Pv i H → SqT K H a xs)
    (hs : ∀ i x H, xs[i]? = some x → Pv i H → g x (wipe σ vs) H fun σ2 H2 => wipe σ2 vs = wipe σ vs ∧ tt σ2 H2 fun b H3 => if b = true then wi1 σ2 H3 fun J1 H4 => LIn J1 g1 tt1 te vs1 σ2 D (Pv (i + 1)) H4 else Pv (i + 1) H3) (hd : ∀ H, Pv xs.length H → Qd H) :
    LOut (Itt K a) g tt wi1 g1 tt1 te vs vs1 σ D Qd H0 := by
  refine ⟨fun i m H => m = xs.length - i ∧ i ≤ xs.length ∧ Pv i H, ⟨xs.length, by simp, Nat.zero_le _, h0⟩, ?_⟩
  rintro i m H ⟨rfl, hi, p⟩
  have q := hl i H hi p
  by_cases hlt : i < xs.length
  · refine .inr ⟨⟨xs, xs[i], q, by simp [hlt]⟩, Pv (i + 1), fun H' p' => ⟨xs.length - (i + 1), by omega, rfl, hlt, p'⟩, fun x H' ⟨e, y⟩ => ?_⟩
    subst e
    exact hs i x _ (y xs q) p
  · have e : i = xs.length := by omega
    subst e
    exact .inl ⟨⟨xs, q, Nat.le_refl _⟩, hd H p⟩
/-- the second clause over the numbers lo, lo + 1, .. (n of them) -/
theorem lin_range {lo : Int} {n : Nat} {g : TG} {tt : TT} {te : TE} {vs : List Nat} {σ : L2.St} {H0 : Hp} {D : Addr} {Nx : Hp → Prop} (Pv : Nat → Hp → Prop) (h0 : Pv 0 H0)
    (hs : ∀ i H, i < n → Pv i H → g (.int (lo + i)) (wipe σ vs) H fun σ2 H2 => wipe σ2 vs = wipe σ vs ∧ tt σ2 H2 fun b H3 => if b = true then te σ2 H3 (app D (Pv (i + 1))) else Pv (i + 1) H3) (hd : ∀ H, Pv n H → Nx H) :
    LIn (Itr lo n) g tt te vs σ D Nx H0 := by
  refine ⟨fun i m H => m = n - i ∧ i ≤ n ∧ Pv i H, ⟨n, by simp, Nat.zero_le _, h0⟩, ?_⟩
  rintro i m H ⟨rfl, hi, p⟩
  by_cases hlt : i < n
  · refine .inr ⟨hlt, Pv (i + 1), fun H' p' => ⟨n - (i + 1), by omega, rfl, hlt, p'⟩, fun x H' ⟨e1, e2⟩ => ?_⟩
    subst e1 e2
    exact hs i H' hlt p
  · have e : i = n := by omega
    subst e
    exact .inl ⟨Nat.le_refl _, hd H p⟩
end Ami

set_option Elab.async false
set_option linter.all false
set_option maxRecDepth 100000
set_option maxHeartbeats 2000000
namespace K48
open PySem PySem.Spec PyProof.Rows L2 Ami
def top (i : Nat) : Stmt := PySem.Challenge.pw_amidread_k48_words_seen_at_a_wrong_place.main.body.getD i (.Pass ⟨0, 0, 0, 0⟩)
abbrev sCF : Stmt := top 1
abbrev sDeck : Stmt := top 3
abbrev sDraw : Stmt := top 4
abbrev sPick : Stmt := top 5
abbrev sFree : Stmt := top 6
abbrev sSome : Stmt := top 7
abbrev sLaw : Stmt := top 8
/-- the deck as a dict -/
def dkv (c : Addr) (b n : Int) : List (Key × V) := [(.inr "heap", .ref c), (.inr "mixed", .int b), (.inr "lap", .int n)]
theorem nHM : ¬ (Sum.inr (Str.ofString "heap") : Key) = .inr (Str.ofString "mixed") := by decide +kernel
theorem nHL : ¬ (Sum.inr (Str.ofString "heap") : Key) = .inr (Str.ofString "lap") := by decide +kernel
theorem nML : ¬ (Sum.inr (Str.ofString "mixed") : Key) = .inr (Str.ofString "lap") := by decide +kernel
theorem val_heap (c : Addr) (b n : Int) : valV (dkv c b n) (.inr "heap") = some (.ref c) := valV_pos rfl
theorem val_mixed (c : Addr) (b n : Int) : valV (dkv c b n) (.inr "mixed") = some (.int b) := (valV_neg nHM).trans (valV_pos rfl)
theorem val_lap (c : Addr) (b n : Int) : valV (dkv c b n) (.inr "lap") = some (.int n) := (valV_neg nHL).trans ((valV_neg nML).trans (valV_pos rfl))
theorem put_lap (c : Addr) (b n m : Int) : putK (dkv c b n) (.inr "lap") (.int m) = dkv c b m := by
  unfold putK
  rw [valV_any, val_lap, Option.isSome_some, if_pos rfl]
  simp only [dkv, List.map_cons, List.map_nil, if_neg nHL, if_neg nML, if_true]
theorem merge_deck (c : Addr) (b n : Int) : mergeK [] (dkv c b n) = dkv c b n := by
  unfold mergeK dkv
  simp only [List.foldl_cons, List.foldl_nil, putK, List.any_nil, List.any_cons, Bool.false_eq_true, if_false, List.nil_append, List.cons_append, decide_eq_false nHM, decide_eq_false nHL, decide_eq_false nML, Bool.or_false]
theorem get_heap {H : Hp} {d c : Addr} {b n : Int} (h : H d = some (.dK (dkv c b n))) : DGet H d (.str "heap") (some (.ref c)) := by
  have q := DGet.k (k := .inr "heap") h
  rw [val_heap] at q
  exact q
theorem get_mixed {H : Hp} {d c : Addr} {b n : Int} (h : H d = some (.dK (dkv c b n))) : DGet H d (.str "mixed") (some (.int b)) := by
  have q := DGet.k (k := .inr "mixed") h
  rw [val_mixed] at q
  exact q
theorem get_lap {H : Hp} {d c : Addr} {b n : Int} (h : H d = some (.dK (dkv c b n))) : DGet H d (.str "lap") (some (.int n)) := by
  have q := DGet.k (k := .inr "lap") h
  rw [val_lap] at q
  exact q
theorem set_lap {H : Hp} {d c : Addr} {b n m : Int} (h : H d = some (.dK (dkv c b n))) : DPut H d (.str "lap") (.int m) (upd H d (.dK (dkv c b m))) := by
  have q := DPut.k (k := .inr "lap") (v := .int m) h (by show 3 < sizeLine; decide)
  rw [put_lap] at q
  exact q
/-- the deck at d, its integers at c, behind n draws -/
def DD (H : Hp) (d c : Addr) (n : Nat) : Prop := c ≠ d ∧ ∃ (b : Int) (cells : List Int), H d = some (.dK (dkv c b n)) ∧ H c = some (.lst (cells.map V.int)) ∧ cells.length ≤ 63
theorem DD.same {H H' : Hp} {d c : Addr} {n : Nat} (D : DD H d c n) (s : Same H H') : DD H' d c n := by
  obtain ⟨h, b, cells, h1, h2, h3⟩ := D
  exact ⟨h, b, cells, s _ _ h1, s _ _ h2, h3⟩
theorem DD.ned {H : Hp} {d c p : Addr} {n : Nat} (D : DD H d c n) (hp : H p = none) : p ≠ d ∧ p ≠ c := by
  obtain ⟨h, b, cells, h1, h2, h3⟩ := D
  exact ⟨fun e => (by rw [e, h1] at hp; cases hp), fun e => (by rw [e, h2] at hp; cases hp)⟩
theorem DD.new {H : Hp} {d c p : Addr} {n : Nat} {o : HO} (D : DD H d c n) (hp : H p = none) : DD (upd H p o) d c n := D.same (Same.upd hp)
theorem DD.set {H : Hp} {d c p : Addr} {n : Nat} {o : HO} (D : DD H d c n) (h1 : p ≠ d) (h2 : p ≠ c) : DD (upd H p o) d c n := by
  obtain ⟨h, b, cells, e1, e2, e3⟩ := D
  exact ⟨h, b, cells, by rw [upd_ne (Ne.symm h1)]; exact e1, by rw [upd_ne (Ne.symm h2)]; exact e2, e3⟩
/-- a draw below bd -/
def spDraw : Sp := fun vs H Q _ => ∃ (d c : Addr) (n : Nat) (bd : Int), vs = [.ref d, .int bd] ∧ 0 < bd ∧ bd < 1073741824 ∧ n < 1000000 ∧ DD H d c n ∧
  ∀ (H' : Hp) (r : Int), 0 ≤ r → r < bd → DD H' d c (n + 1) → But d c H H' → Q (.int r) H'
/-- a pick from a list or a text -/
def spPick (K : PySem.W.Frag) : Sp := fun vs H Q _ => ∃ (d c : Addr) (n : Nat) (x : V) (xs : List V), vs = [.ref d, x] ∧ xs ≠ [] ∧ xs.length < 1073741824 ∧ n < 1000000 ∧ DD H d c n ∧ Stay d c (fun H' => Some1 K H' x xs) H ∧
  ∀ (H' : Hp) (y : V), y ∈ xs → DD H' d c (n + 1) → But d c H H' → Q y H'
/-- a new deck over the script -/
def spDeck (K : PySem.W.Frag) : Sp := fun vs H Q _ => ∃ (a : Addr) (ns : List Int), vs = [.ref a] ∧ SqL K H a (ns.map V.int) ∧ ns.length ≤ 63 ∧
  ∀ (H' : Hp) (d c : Addr), H d = none → H c = none → DD H' d c 0 → Same H H' → Q (.ref d) H'
/-- the names of the built-ins that no one has taken -/
structure Blt (mg : Str → Option Value) : Prop where
  len : mg "len" = none
  int : mg "int" = none
  list : mg "list" = none
  range : mg "range" = none
  tuple : mg "tuple" = none
  any : mg "any" = none
  repr : mg "repr" = none
section
variable {P : Program} {w : World} {K : PySem.W.Frag} {mg : Str → Option Value} {base : Heap}
theorem scDraw : FnScope ["_law_deck_here", "_law_many", "_law_lap", "_law_mixed", "_law_item"] ["_law_deck_here", "_law_many"] (defScope sDraw) := ⟨rfl, rfl, rfl, by decide +kernel, rfl, by decide +kernel, by decide +kernel⟩
theorem ok_draw {f : Addr} {fd : FuncData} (F : Fun K "_law_draw" "_law_draw" sDraw f fd) (T : Blt mg) : FnOk P w K mg base CX0 1 f fd ["_law_deck_here", "_law_many"] spDraw := by
  refine F.ok scDraw (fun vs H Q E h => ?_) (fun cdv A outer s H vs Q E hr h => ?_)
  · obtain ⟨d, c, n, bd, rfl, _⟩ := h
    rfl
  · obtain ⟨d, c, n, bd, rfl, hb0, hb1, hn, ⟨hcd, b, cells, hd, hc, hlen⟩, k⟩ := h
    have hu := hr.units
    have hu1 := hu_of hr
    refine ⟨_, pss_cons (ps_par (i := 2) (j := 3) rfl scDraw.nd rfl rfl (by decide) rfl rfl (pa_cons (pe_op op_add (pe_dget hu1 (pv 0) pe_str (fun _ _ => rfl)) pe_int) (pa_cons (pe_dget hu1 (pv 0) pe_str (fun _ _ => rfl)) pa_nil)) (by rfl))
      (pss_cons (ps_dput hu1 (pv 0) pe_str (pv 2) rfl)
      (C8.pss_cut (ps_if (pt_cmpR (op_neD hu) (pe_dget hu1 (pv 0) pe_str (fun _ _ => rfl)) (pe_lst pa_nil) (nomark _))
        (pss_cons (ps_set (i := 4) scDraw.nd rfl (Or.inl rfl) (pe_bm0 PySem.F.plainAttrs_list PySem.F.slot_list_pop PySem.F.type_list_pop mt_pop (pe_dget hu1 (pv 0) pe_str (fun _ _ => rfl))))
        (pss_cons (ps_if (pt_cmpR op_ge (pv 4) (pe_op op_pow pe_int pe_int) (nomark _))
          (pss_cons (ps_expr (pe_bm PySem.F.plainAttrs_list PySem.F.slot_list_append PySem.F.type_list_append mt_append (pe_dget hu1 (pv 0) pe_str (fun _ _ => rfl)) (pa_cons (pe_op op_fdiv (pv 4) (pv 1)) pa_nil)))
          (pss_one (ps_ret (pe_op op_mod (pe_callTy call_int1 (by rfl) T.int (by decide +kernel) (pa_cons (pv 4) pa_nil)) (pv 1)))))
          pss_nil)
        (pss_one (ps_set (i := 3) scDraw.nd rfl (Or.inl rfl) (pe_op op_add (pv 3) (pe_callTy call_int1 (by rfl) T.int (by decide +kernel) (pa_cons (pv 4) pa_nil))))))) pss_nil)
      (pss_cons (ps_set (i := 3) scDraw.nd rfl (Or.inl rfl) (pe_op op_mul (pe_callTy call_int1 (by rfl) T.int (by decide +kernel) (pa_cons (pe_op op_add (pe_op op_add (pe_op op_mod (pe_callTy call_int1 (by rfl) T.int (by decide +kernel) (pa_cons (pv 3) pa_nil)) pe_int) (pe_op op_mul (pe_op op_mul pe_int (pv 2)) (pv 2))) pe_int) pa_nil)) pe_int))
      (pss_cons (ps_set (i := 3) scDraw.nd rfl (Or.inl rfl) (pe_op op_mod (pe_callTy call_int1 (by rfl) T.int (by decide +kernel) (pa_cons (pv 3) pa_nil)) pe_int))
      (pss_cons (ps_set (i := 3) scDraw.nd rfl (Or.inl rfl) (pe_op op_mod (pe_callTy call_int1 (by rfl) T.int (by decide +kernel) (pa_cons (pe_op op_add (pe_op op_add (pe_op op_mul (pv 3) (pv 3)) (pe_op op_mul pe_int (pv 2))) pe_int) pa_nil)) pe_int))
      (pss_one (ps_ret (pe_op op_mod (pe_callTy call_int1 (by rfl) T.int (by decide +kernel) (pa_cons (pe_op op_fdiv (pe_op op_mod (pe_callTy call_int1 (by rfl) T.int (by decide +kernel) (pa_cons (pe_op op_mul (pv 3) pe_int) pa_nil)) pe_int) pe_int) pa_nil)) (pv 1))))))))), ?_⟩
    have hn1 : ((n : Int) + 1) = ((n + 1 : Nat) : Int) := by omega
    refine ⟨_, rfl, d, _, rfl, get_lap hd, _, _, rfl, rfl, _, rfl, d, _, rfl, get_mixed hd, _, _, rfl, ?_⟩
    refine ⟨_, rfl, _, rfl, d, _, rfl, set_lap hd, ?_⟩
    have hd1 : (upd H d (.dK (dkv c b ((n : Int) + 1)))) d = some (.dK (dkv c b (n + 1 : Nat))) := by rw [upd_same, ← hn1]
    have hc1 : (upd H d (.dK (dkv c b ((n : Int) + 1)))) c = some (.lst (cells.map V.int)) := by rw [upd_ne hcd]; exact hc
    have b1 : But d c H (upd H d (.dK (dkv c b ((n : Int) + 1)))) := fun x o h1 _ e => by rw [upd_ne h1]; exact e
    revert hd1 hc1 b1
    generalize upd H d (.dK (dkv c b ((n : Int) + 1))) = H1
    intro hd1 hc1 b1
    refine ⟨fun σ H3 => ∃ (m : Int) (cell : Option V), σ = [some (.ref d), some (.int bd), some (.int ((n : Int) + 1)), some (.int m), cell] ∧ DD H3 d c (n + 1) ∧ But d c H H3, ?_, ?_⟩
    · refine ⟨_, rfl, d, _, rfl, get_heap hd1, Nat.zero_le _, fun p hp => ?_⟩
      have npc : c ≠ p := ne_of_none hc1 hp
      have npd : d ≠ p := ne_of_none hd1 hp
      have hd2 : (upd H1 p (.lst [])) d = some (.dK (dkv c b (n + 1 : Nat))) := by rw [upd_ne npd]; exact hd1
      have hc2 : (upd H1 p (.lst [])) c = some (.lst (cells.map V.int)) := by rw [upd_ne npc]; exact hc1
      have hp2 : (upd H1 p (.lst [])) p = some (.lst []) := upd_same
      have b2 : But d c H (upd H1 p (.lst [])) := b1.new hp
      revert hd2 hc2 hp2 b2
      generalize upd H1 p (.lst []) = H2
      intro hd2 hc2 hp2 b2
      refine ne_nil (SqL.of hc2) (SqL.of hp2) (all_ints _) ⟨_, rfl, ?_⟩
      by_cases hce : cells = []
      · subst hce
        refine iteF ?_
        exact ⟨_, _, rfl, ⟨hcd, b, [], hd2, hc2, by decide⟩, b2⟩
      · have hne : (!(cells.map V.int).isEmpty) = true := by
          cases cells with
          | nil => exact absurd rfl hce
          | cons a r => rfl
        rw [hne]
        refine iteT ?_
        obtain ⟨z, hz⟩ : ∃ z : Int, cells[cells.length - 1]? = some z := by
          have : cells.length - 1 < cells.length := by
            cases cells with
            | nil => exact absurd rfl hce
            | cons a r => simp
          exact ⟨_, List.getElem?_eq_getElem this⟩
        have hz' : (cells.map V.int)[(cells.map V.int).length - 1]? = some (V.int z) := by
          rw [List.length_map, List.getElem?_map, hz]; rfl
        refine ⟨_, rfl, d, _, rfl, get_heap hd2, .inl ⟨rfl, _, SqL.of hc2⟩, c, _, _, rfl, rfl, hc2, hz', ?_⟩
        have hdl : (cells.map V.int).dropLast = cells.dropLast.map V.int := (List.map_dropLast ..).symm
        have hd3 : (upd H2 c (.lst (cells.map V.int).dropLast)) d = some (.dK (dkv c b (n + 1 : Nat))) := by rw [upd_ne (Ne.symm hcd)]; exact hd2
        have hc3 : (upd H2 c (.lst (cells.map V.int).dropLast)) c = some (.lst (cells.dropLast.map V.int)) := by rw [upd_same, hdl]
        have b3 : But d c H (upd H2 c (.lst (cells.map V.int).dropLast)) := fun x o h1 h2 e => by rw [upd_ne h2]; exact b2 x o h1 h2 e
        revert hd3 hc3 b3
        generalize upd H2 c (.lst (cells.map V.int).dropLast) = H3
        intro hd3 hc3 b3
        have hl3 : cells.dropLast.length ≤ 62 := by rw [List.length_dropLast]; omega
        refine ⟨_, rfl, _, _, rfl, rfl, pow18, _, _, rfl, rfl, _, rfl, ?_⟩
        refine ite2 (fun _ => ?_) (fun _ => ?_)
        · refine ⟨_, rfl, d, _, rfl, get_heap hd3, .inl ⟨rfl, _, SqL.of hc3⟩, _, rfl, _, rfl, _, _, rfl, rfl, ⟨hb0, hb1⟩, c, _, _, rfl, rfl, hc3, ?_, ?_⟩
          · rw [List.length_map]; exact Nat.lt_of_le_of_lt hl3 (by decide)
          · refine ⟨_, rfl, .inl ⟨_, rfl, _, rfl, _, _, rfl, rfl, hb0, ?_⟩⟩
            refine k _ _ (Int.emod_nonneg _ (by omega)) (Int.emod_lt_of_pos _ hb0) ⟨hcd, b, cells.dropLast ++ [z / bd], ?_, ?_, ?_⟩ fun x o h1 h2 e => ?_
            · rw [upd_ne (Ne.symm hcd)]; exact hd3
            · rw [upd_same, List.map_append]; rfl
            · rw [List.length_append, List.length_singleton]; omega
            · rw [upd_ne h2]; exact b3 x o h1 h2 e
        · refine ⟨_, rfl, _, rfl, .inl ⟨_, rfl, _, _, rfl, rfl, ?_⟩⟩
          exact ⟨_, _, rfl, ⟨hcd, b, cells.dropLast, hd3, hc3, by omega⟩, b3⟩
    · rintro σ H3 ⟨m, cell, rfl, D3, b3⟩
      have r1 := mod_range m (m := 2147483579) (by decide)
      refine ⟨_, rfl, .inl ⟨_, rfl, _, _, rfl, rfl, (by show (0 : Int) < _; decide), _, rfl, _, _, rfl, rfl, .inl (by decide), _, rfl, _, _, rfl, rfl, .inr (by omega), _, _, rfl, rfl, _, _, rfl, rfl, .inl ⟨_, rfl, _, _, rfl, rfl, .inr (by decide), ?_⟩⟩⟩
      refine ⟨_, rfl, .inl ⟨_, rfl, _, _, rfl, rfl, (by show (0 : Int) < _; decide), ?_⟩⟩
      have r2 := mod_range ((m % 2147483579 + 52711 * ((n : Int) + 1) * ((n : Int) + 1) + 17) * 48271) (m := 2147483647) (by decide)
      refine ⟨_, rfl, _, rfl, _, _, rfl, rfl, .inl (by omega), _, rfl, _, _, rfl, rfl, .inl (by decide), _, _, rfl, rfl, _, _, rfl, rfl, .inl ⟨_, rfl, _, _, rfl, rfl, (by show (0 : Int) < _; decide), ?_⟩⟩
      refine ⟨_, rfl, _, _, rfl, rfl, .inr (by decide), .inl ⟨_, rfl, _, _, rfl, rfl, (by show (0 : Int) < _; decide), _, _, rfl, rfl, ⟨by decide, by decide⟩, .inl ⟨_, rfl, _, rfl, _, _, rfl, rfl, hb0, ?_⟩⟩⟩
      exact k _ _ (Int.emod_nonneg _ (by omega)) (Int.emod_lt_of_pos _ hb0) D3 b3
end
end K48

set_option Elab.async false
set_option linter.all false
set_option maxRecDepth 100000
set_option maxHeartbeats 2000000
namespace K48
open PySem PySem.Spec PyProof.Rows L2 Ami
theorem cut_ints (ns : List Int) (lo hi : Option Int) : ∃ ms : List Int, cutV (ns.map V.int) lo hi = ms.map V.int ∧ ms.length ≤ ns.length := by
  refine ⟨(ns.drop (HT.sIx (ns.map V.int).length 0 lo)).take (HT.sIx (ns.map V.int).length (ns.map V.int).length hi - HT.sIx (ns.map V.int).length 0 lo), ?_, ?_⟩
  · unfold cutV
    rw [List.map_take, List.map_drop]
  · rw [List.length_take, List.length_drop]; omega
section
variable {P : Program} {w : World} {K : PySem.W.Frag} {mg : Str → Option Value} {base : Heap}
theorem scPick : FnScope ["_law_deck_here", "_law_some_here"] ["_law_deck_here", "_law_some_here"] (defScope sPick) := ⟨rfl, rfl, rfl, by decide +kernel, rfl, by decide +kernel, by decide +kernel⟩
theorem ok_pick {f f1 : Addr} {fd fd1 : FuncData} (F : Fun K "_law_pick" "_law_pick" sPick f fd) (T : Blt mg) (D1 : DefAt K mg "_law_draw" sDraw ["_law_deck_here", "_law_many"] f1 fd1) : FnOk P w K mg base CX0 2 f fd ["_law_deck_here", "_law_some_here"] (spPick K) := by
  have G1 : FnOk P w K mg base CX0 1 f1 fd1 ["_law_deck_here", "_law_many"] spDraw := ok_draw D1.F T
  refine F.ok scPick (fun vs H Q E h => ?_) (fun cdv A outer s H vs Q E hr h => ?_)
  · obtain ⟨d, c, n, x, xs, rfl, _⟩ := h
    rfl
  · obtain ⟨d, c, n, x, xs, rfl, hne, hl, hn, D, hs, k⟩ := h
    have lp : 0 < xs.length := List.length_pos_iff.mpr hne
    refine ⟨_, pss_one (ps_ret (pe_ix ix_seq (pv 1) (pc D1 G1 hr (pa_cons (pv 0) (pa_cons (pe_callB call_len (by rfl) T.len PySem.boot_len (pa_cons (pv 1) pa_nil)) pa_nil))) (fun _ _ => rfl))), ?_⟩
    have hlen : LenV K x H xs.length := by
      cases hs.now with
      | lst h => exact .inl ⟨xs, h, rfl⟩
      | txt z h => exact ⟨h, by rw [List.length_map, letts_length]⟩
    refine ⟨_, rfl, _, rfl, _, rfl, _, _, rfl, hlen, ?_⟩
    refine ⟨d, c, n, _, rfl, by omega, by omega, hn, D, fun H' r h0 h1 D' B => ?_⟩
    obtain ⟨j, rfl⟩ : ∃ j : Nat, r = j := ⟨r.toNat, by omega⟩
    have hi : j < xs.length := by omega
    have mem : xs[j] ∈ xs := List.getElem_mem hi
    cases (hs.go B).now with
    | lst h => exact .inl ⟨_, xs, j, _, rfl, rfl, h, atI_nat (List.getElem?_eq_getElem hi), k _ _ mem D' B⟩
    | txt z h =>
      have hz : j < z.cps.toList.length := by
        rw [List.length_map, letts_length] at hi
        rw [Array.length_toList]; exact hi
      refine .inr (.inr ⟨z, j, z.cps.toList[j], rfl, rfl, h, atI_nat (List.getElem?_eq_getElem hz), ?_⟩)
      have e : ((letts z).map V.str)[j] = V.str ⟨#[z.cps.toList[j]]⟩ := by
        simp [letts, one]
      rw [← e]
      exact k _ _ mem D' B
theorem scDeck : FnScope ["_law_script", "_law_heap", "_law_mixed", "_law_item"] ["_law_script"] (defScope sDeck) := ⟨rfl, rfl, rfl, by decide +kernel, rfl, by decide +kernel, by decide +kernel⟩
theorem ok_deck {f : Addr} {fd : FuncData} (F : Fun K "_law_deck" "_law_deck" sDeck f fd) (T : Blt mg) : FnOk P w K mg base CX0 1 f fd ["_law_script"] (spDeck K) := by
  refine F.ok scDeck (fun vs H Q E h => ?_) (fun cdv A outer s H vs Q E hr h => ?_)
  · obtain ⟨a, ns, rfl, _⟩ := h
    rfl
  · obtain ⟨a, ns, rfl, hS, hlen, k⟩ := h
    refine ⟨_, pss_cons (ps_par (i := 1) (j := 2) rfl scDeck.nd rfl rfl (by decide) rfl rfl (pa_cons (pe_callTy call_list_of (by rfl) T.list (by decide +kernel) (pa_cons (pe_slice sl_list (pv 0) po_none (po_some pe_int)) pa_nil)) (pa_cons pe_int pa_nil)) (by rfl))
      (pss_cons (ps_for PassesOwn.never rfl (pi_list (pv 1)) (pg_name (i := 3) scDeck.nd rfl (Or.inl rfl))
        (pss_one (ps_set (i := 2) scDeck.nd rfl (Or.inl rfl) (pe_op op_mod (pe_callTy call_int1 (by rfl) T.int (by decide +kernel) (pa_cons (pe_op op_add (pe_op op_add (pe_op op_mul (pv 2) pe_int) (pe_op op_mod (pe_callTy call_int1 (by rfl) T.int (by decide +kernel) (pa_cons (pv 3) pa_nil)) pe_int)) pe_int) pa_nil)) pe_int))))
      (pss_one (ps_ret (pe_disp (pps_cons pe_str (pe_revL (pv 1)) (pps_cons pe_str (pv 2) (pps_cons pe_str pe_int pps_nil))) (by rfl) (by rfl) (fun z => by cases z) (by decide))))), ?_⟩
    obtain ⟨ms, em, hm⟩ := cut_ints ns none (some 60)
    refine ⟨_, rfl, _, rfl, a, _, rfl, hS, fun p hp => ⟨p, _, rfl, .inl (SqL.of upd_same), fun l hl => ⟨_, _, rfl, ?_⟩⟩⟩
    rw [em]
    have s1 : Same H (upd H p (.lst (ms.map V.int))) := Same.upd hp
    have hl' : (upd H p (.lst (ms.map V.int))) l = none := by rw [← em]; exact hl
    have s2 : Same H (upd (upd H p (.lst (ms.map V.int))) l (.lst (ms.map V.int))) := s1.trans (Same.upd hl')
    have h2 : (upd (upd H p (.lst (ms.map V.int))) l (.lst (ms.map V.int))) l = some (.lst (ms.map V.int)) := upd_same
    revert s2 h2
    generalize upd (upd H p (.lst (ms.map V.int))) l (.lst (ms.map V.int)) = H2
    intro s2 h2
    refine ⟨_, rfl, l, rfl, ⟨_, SqL.of h2⟩, for_list (K := K) (a := l) (xs := ms.map V.int) (fun i σ H' => ∃ (b : Int) (v : Option V), σ = [some (.ref a), some (.ref l), some (.int b), v] ∧ H' = H2)
      ⟨_, none, rfl, rfl⟩ (fun i σ H' _ ⟨_, _, _, e⟩ => by rw [e]; exact SqL.of h2) ?_ ?_⟩
    · rintro i y σ H' hi ⟨b, v, rfl, rfl⟩
      obtain ⟨z, rfl⟩ : ∃ z, y = V.int z := by
        rw [List.getElem?_map] at hi
        cases e : ms[i]? with
        | none => rw [e] at hi; cases hi
        | some z => rw [e] at hi; exact ⟨z, (Option.some.inj hi).symm⟩
      refine ⟨_, rfl, _, _, rfl, rfl, .inr (by decide), _, rfl, .inl ⟨_, rfl, _, _, rfl, rfl, (by show (0 : Int) < _; decide), _, _, rfl, rfl, _, _, rfl, rfl, .inl ⟨_, rfl, _, _, rfl, rfl, (by show (0 : Int) < _; decide), ?_⟩⟩⟩
      exact ⟨_, _, rfl, rfl⟩
    · rintro σ H' ⟨b, v, rfl, rfl⟩
      intro d hd
      refine ⟨_, rfl, l, _, rfl, SqL.of (Same.upd hd _ _ h2), fun c hc => ⟨_, rfl, ?_⟩⟩
      have ncd : c ≠ d := fun e => by rw [e, upd_same] at hc; cases hc
      have hc' : H' c = none := by rw [upd_ne ncd] at hc; exact hc
      refine ⟨(by rw [upd_ne (Ne.symm ncd)]; exact upd_same), dkv c b 0, rfl, (by show 3 ≤ 15; decide), ?_⟩
      rw [merge_deck]
      refine k _ d c (s2.free hd) (s2.free hc') ⟨ncd, b, ms.reverse, upd_same, ?_, ?_⟩ ?_
      · rw [upd_ne ncd, upd_same, List.map_reverse]
      · rw [List.length_reverse]; omega
      · intro x o e
        have e' := s2 x o e
        rw [upd_ne (ne_of_none e' hd), upd_ne (ne_of_none (Same.upd hd _ _ e') hc), upd_ne (ne_of_none e' hd)]
        exact e'
end
end K48

set_option Elab.async false
set_option linter.all false
set_option maxRecDepth 100000
set_option maxHeartbeats 2000000
namespace K48
open PySem PySem.Spec PyProof.Rows L2 Ami
/-- what stands behind k letters of two words joined, as long as the first of them -/
def amid (x y : Str) (k : Nat) : Str := cutS (x ++ y) (some (k : Int)) (some ((k + x.length : Nat) : Int))
/-- whether no word stands between two of them -/
def freeB (ws : List Str) : Bool := ws.all fun x => ws.all fun y => (List.range' 1 (x.length - 1)).all fun k => !decide (amid x y k ∈ ws)
def isEnd (ws : List Str) (z : Str) : Prop := ∃ w ∈ ws, ∃ a, 1 ≤ a ∧ a < w.length ∧ z = cutS w (some (a : Int)) none
def isBeg (ws : List Str) (z : Str) : Prop := ∃ w ∈ ws, ∃ a, 1 ≤ a ∧ a < w.length ∧ z = cutS w none (some (a : Int))
def hitAt (ws : List Str) (w : Str) (a : Nat) : Prop := isEnd ws (cutS w none (some (a : Int))) ∧ isBeg ws (cutS w (some (a : Int)) none)
theorem len_toList (z : Str) : z.cps.toList.length = z.length := by rw [Array.length_toList]; rfl
theorem cut_to (z : Str) (k : Nat) (h : k ≤ z.length) : cutS z none (some (k : Int)) = ⟨(z.cps.toList.take k).toArray⟩ := by
  unfold cutS
  rw [HT.sIx_none, HT.sIx_nat, List.drop_zero, Nat.min_eq_left h, Nat.sub_zero]
theorem cut_from (z : Str) (k : Nat) (h : k ≤ z.length) : cutS z (some (k : Int)) none = ⟨(z.cps.toList.drop k).toArray⟩ := by
  unfold cutS
  rw [HT.sIx_none, HT.sIx_nat, Nat.min_eq_left h]
  rw [List.take_of_length_le (by rw [List.length_drop, len_toList]; exact Nat.le_refl _)]
theorem str_eq {a b : List Nat} : (⟨a.toArray⟩ : Str) = ⟨b.toArray⟩ ↔ a = b := by
  constructor
  · intro h
    have := congrArg (fun z : Str => z.cps.toList) h
    simpa using this
  · rintro rfl; rfl
theorem str_of (z : Str) : (⟨z.cps.toList.toArray⟩ : Str) = z := by rw [Array.toArray_toList]
theorem cat_toList (x y : Str) : (x ++ y).cps.toList = x.cps.toList ++ y.cps.toList := Array.toList_append
theorem amid_eq (x y : Str) (k : Nat) (hk : k ≤ x.length) (hy : y.length = x.length) : amid x y k = ⟨(x.cps.toList.drop k ++ y.cps.toList.take k).toArray⟩ := by
  unfold amid cutS
  rw [HT.sIx_nat, HT.sIx_nat, Ami.append_length, hy, Nat.min_eq_left (by omega), Nat.min_eq_left (by omega), cat_toList]
  rw [List.drop_append_of_le_length (by rw [len_toList]; exact hk), List.take_append]
  rw [List.take_of_length_le (by rw [List.length_drop, len_toList]; omega), List.length_drop, len_toList]
  rw [show k + x.length - k - (x.length - k) = k from by omega]
theorem free_iff {ws : List Str} : freeB ws = true ↔ ∀ x ∈ ws, ∀ y ∈ ws, ∀ k, 1 ≤ k → k < x.length → amid x y k ∉ ws := by
  unfold freeB
  simp only [List.all_eq_true, List.mem_range'_1, Bool.not_eq_true', decide_eq_false_iff_not]
  constructor
  · intro h x hx y hy k h1 h2
    exact h x hx y hy k ⟨h1, by omega⟩
  · intro h x hx y hy k hk
    exact h x hx y hy k hk.1 (by omega)
theorem free_sub {ws vs : List Str} (h : freeB ws = true) (s : ∀ z ∈ vs, z ∈ ws) : freeB vs = true :=
  free_iff.mpr fun x hx y hy k h1 h2 hm => free_iff.mp h x (s x hx) y (s y hy) k h1 h2 (s _ hm)
/-- the program's look is the law's -/
theorem hit_iff {ws : List Str} {n : Nat} (hn : ∀ w ∈ ws, w.length = n) : (∃ w ∈ ws, ∃ a, 1 ≤ a ∧ a < w.length ∧ hitAt ws w a) ↔ freeB ws = false := by
  rw [← Bool.not_eq_true, free_iff]
  constructor
  · rintro ⟨w, hw, a, h1, h2, ⟨u, hu, b, b1, b2, eb⟩, v, hv, c, c1, c2, ec⟩ F
    have lw := hn w hw
    have lu := hn u hu
    have lv := hn v hv
    rw [cut_to w a (by omega), cut_from u b (by omega), str_eq] at eb
    rw [cut_from w a (by omega), cut_to v c (by omega), str_eq] at ec
    have e1 := congrArg List.length eb
    have e2 := congrArg List.length ec
    rw [List.length_take, List.length_drop, len_toList, len_toList] at e1
    rw [List.length_take, List.length_drop, len_toList, len_toList] at e2
    have hb : c = b := by omega
    subst hb
    refine F u hu v hv c b1 b2 ?_
    rw [amid_eq u v c (by omega) (by omega), ← eb, ← ec, List.take_append_drop, str_of]
    exact hw
  · intro F
    refine Classical.byContradiction fun N => F fun x hx y hy k h1 h2 hm => N ?_
    have lx := hn x hx
    have ly := hn y hy
    have e := amid_eq x y k (by omega) (by omega)
    rw [e] at hm
    have lr : (x.cps.toList.drop k).length = n - k := by rw [List.length_drop, len_toList]; omega
    refine ⟨_, hm, n - k, by omega, ?_, ?_, ?_⟩
    · rw [hn _ hm]; omega
    · refine ⟨x, hx, k, h1, h2, ?_⟩
      rw [cut_to _ _ (by rw [hn _ hm]; omega), cut_from x k (by omega), str_eq]
      show ((x.cps.toList.drop k ++ y.cps.toList.take k).toArray.toList).take (n - k) = _
      rw [← lr, List.toList_toArray, List.take_left]
    · refine ⟨y, hy, k, h1, by omega, ?_⟩
      rw [cut_from _ _ (by rw [hn _ hm]; omega), cut_to y k (by omega), str_eq]
      show ((x.cps.toList.drop k ++ y.cps.toList.take k).toArray.toList).drop (n - k) = _
      rw [← lr, List.toList_toArray, List.drop_left]
theorem inV_txt (x : Str) (l : List Str) : inV (V.str x) (l.map V.str) = decide (x ∈ l) := by
  induction l with
  | nil => rfl
  | cons a r ih =>
    show (eqV (V.str a) (V.str x) || inV (V.str x) (r.map V.str)) = _
    rw [ih]
    have e : eqV (V.str a) (V.str x) = decide (x = a) := decide_eq_decide.mpr ⟨Eq.symm, Eq.symm⟩
    rw [e]
    by_cases h : x = a
    · simp [h]
    · simp [h]
theorem flat_txt (l : List Str) : (l.map V.str).all flatV = true := by
  induction l with
  | nil => rfl
  | cons a r ih =>
    rw [List.map_cons, List.all_cons, ih]; rfl
end K48

set_option Elab.async false
set_option linter.all false
set_option maxRecDepth 100000
set_option maxHeartbeats 2000000
namespace K48
open PySem PySem.Spec PyProof.Rows L2 Ami
/-- the places of a row of words: 1 to its length less 1 -/
abbrev iPlaces (K : PySem.W.Frag) : TI := iRng2 (tCons (tC (V.int 1)) (tCons (tCB (fun xs H Q => ∃ x n, xs = [x] ∧ LenV K x H n ∧ Q (V.int (n : Nat)) H) (tCons (tVar 3) tNil)) tNil))
def isCut (key : Str → Nat → Str) (ws : List Str) (z : Str) : Prop := ∃ w ∈ ws, ∃ a, 1 ≤ a ∧ a < w.length ∧ z = key w a
theorem pass {K : PySem.W.Frag} {t : Addr} {ws : List Str} {n : Nat} {v1 v2 v3 v4 : Option V} {H : Hp} {Q : VK} {tk : TE} (key : Str → Nat → Str) (hT : SqT K H t (ws.map V.str)) (hw : ∀ w ∈ ws, w.length = n) (hlen : ws.length ≤ 100) (hn : n ≤ 100)
    (hk : ∀ (H' : Hp) (Q' : VK) (w : Str) (a : Nat), w.length = n → Q' (.str (key w a)) H' → tk [some (.ref t), v1, v2, some (.str w), some (.int (a : Int))] H' Q')
    (q : ∀ D kvs, H D = none → (∀ z, (valV kvs (.inr z)).isSome = true ↔ isCut key ws z) → Q (.ref D) (upd H D (.dK kvs))) :
    tDc2 (iTup K (tVar 0)) (gName 3) tYes (iPlaces K) (gName 4) tYes tk (tC (V.bl true)) [3, 4] [4] [some (.ref t), v1, v2, v3, v4] H Q := by
  refine ⟨_, rfl, t, rfl, ⟨_, hT⟩, fun D hD => ?_⟩
  have nDt : ∀ o, SqT K (upd H D o) t (ws.map V.str) := fun o => Same.seqT (Same.upd hD) hT
  refine out_tup (K := K) (a := t) (xs := ws.map V.str) (fun i H' => ∃ kvs, H' = upd H D (.dK kvs) ∧ kvs.length ≤ 100 * i ∧ ∀ z, (valV kvs (.inr z)).isSome = true ↔ isCut key (ws.take i) z) ⟨[], rfl, Nat.zero_le _, ?_⟩ (fun i H' _ ⟨kvs, e, _⟩ => e ▸ nDt _) ?_ ?_
  · intro z
    constructor
    · intro h; cases h
    · rintro ⟨w, hw, _⟩
      rw [List.take_zero] at hw
      cases hw
  · rintro i x H1 hx ⟨kvs, rfl, hl, hz⟩
    rw [List.getElem?_map] at hx
    cases hq : ws[i]? with
    | none => rw [hq] at hx; cases hx
    | some w =>
      rw [hq] at hx
      cases hx
      have lw : w.length = n := hw w (List.mem_of_getElem? hq)
      have hi : i < ws.length := (List.getElem?_eq_some_iff.mp hq).1
      have et : ws.take (i + 1) = ws.take i ++ [w] := by rw [List.take_succ, hq]; rfl
      refine ⟨rfl, ?_⟩
      dsimp only [tYes]
      refine iteT ?_
      refine ⟨_, rfl, _, _, rfl, ⟨by rw [lw]; exact Nat.le_trans hn (by decide), rfl⟩, 1, _, rfl, ⟨by decide, by decide, by omega, by omega⟩, ?_⟩
      refine in_range (lo := 1) (n := ((w.length : Int) - 1).toNat) (fun j H' => ∃ kvs, H' = upd H D (.dK kvs) ∧ kvs.length ≤ 100 * i + j ∧ ∀ z, (valV kvs (.inr z)).isSome = true ↔ (isCut key (ws.take i) z ∨ ∃ a, 1 ≤ a ∧ a < 1 + j ∧ z = key w a)) ⟨kvs, rfl, hl, ?_⟩ ?_ ?_
      · intro z
        rw [hz z]
        constructor
        · exact .inl
        · rintro (h | ⟨a, h1, h2, _⟩)
          · exact h
          · omega
      · rintro j H2 hj ⟨kv2, rfl, hl2, hz2⟩
        have ej : (1 : Int) + (j : Int) = ((1 + j : Nat) : Int) := by omega
        rw [ej]
        refine ⟨rfl, ?_⟩
        dsimp only [tYes]
        refine iteT ?_
        refine hk _ _ w (1 + j) lw ?_
        refine ⟨kv2, .inr (key w (1 + j)), rfl, upd_same, Nat.lt_of_le_of_lt (by omega : kv2.length ≤ 20000) (by decide), putK kv2 (.inr (key w (1 + j))) (V.bl true), by rw [upd_upd], ?_, ?_⟩
        · have := length_putK kv2 (.inr (key w (1 + j))) (V.bl true)
          omega
        · intro z
          rw [valV_put]
          by_cases e : (Sum.inr z : Key) = .inr (key w (1 + j))
          · rw [if_pos e]
            constructor
            · intro _
              exact .inr ⟨1 + j, by omega, by omega, Sum.inr.inj e⟩
            · intro _; rfl
          · rw [if_neg e, hz2 z]
            constructor
            · rintro (h | ⟨a, h1, h2, h3⟩)
              · exact .inl h
              · exact .inr ⟨a, h1, by omega, h3⟩
            · rintro (h | ⟨a, h1, h2, h3⟩)
              · exact .inl h
              · by_cases ea : a = 1 + j
                · rw [ea] at h3
                  exact absurd (by rw [h3]) e
                · exact .inr ⟨a, h1, by omega, h3⟩
      · rintro H2 ⟨kv2, rfl, hl2, hz2⟩
        refine ⟨kv2, rfl, by omega, fun z => ?_⟩
        rw [hz2 z, et]
        constructor
        · rintro (⟨w', h1, a, h2, h3, h4⟩ | ⟨a, h1, h2, h3⟩)
          · exact ⟨w', List.mem_append_left _ h1, a, h2, h3, h4⟩
          · exact ⟨w, List.mem_append_right _ List.mem_cons_self, a, h1, by omega, h3⟩
        · rintro ⟨w', h1, a, h2, h3, h4⟩
          rcases List.mem_append.mp h1 with h1 | h1
          · exact .inl ⟨w', h1, a, h2, h3, h4⟩
          · rw [List.mem_singleton] at h1
            subst h1
            exact .inr ⟨a, h2, by omega, h4⟩
  · rintro H1 ⟨kvs, rfl, hl, hz⟩
    rw [List.length_map, List.take_length] at hz
    exact q D kvs hD hz
end K48

set_option Elab.async false
set_option linter.all false
set_option maxRecDepth 100000
set_option maxHeartbeats 2000000
namespace K48
open PySem PySem.Spec PyProof.Rows L2 Ami
theorem call_lenK {X : Cx} {K0 : PySem.W.Frag} (hK : X.K = K0) : CallR X (.builtin "len") (fun xs H Q => ∃ x n, xs = [x] ∧ LenV K0 x H n ∧ Q (V.int (n : Nat)) H) := by
  subst hK
  exact call_len
/-- whether a tuple of words of one length is comma-free -/
def spCF (K : PySem.W.Frag) : Sp := fun vs H Q _ => ∃ (t : Addr) (ws : List Str) (n : Nat), vs = [.ref t] ∧ SqT K H t (ws.map V.str) ∧ (∀ w ∈ ws, w.length = n) ∧ ws.length ≤ 100 ∧ n ≤ 100 ∧ ∀ H', Same H H' → Q (.bl (freeB ws)) H'
section
variable {P : Program} {w : World} {K : PySem.W.Frag} {mg : Str → Option Value} {base : Heap}
abbrev nCF : List Str := ["words", "begins", "ends", "word", "at"]
theorem scCF : FnScope nCF ["words"] (defScope sCF) := ⟨rfl, rfl, rfl, by decide +kernel, rfl, by decide +kernel, by decide +kernel⟩
theorem ok_cf {f : Addr} {fd : FuncData} (F : Fun K "is_comma_free" "is_comma_free" sCF f fd) (T : Blt mg) : FnOk P w K mg base CX0 1 f fd ["words"] (spCF K) := by
  refine F.ok scCF (fun vs H Q E h => ?_) (fun cdv A outer s H vs Q E hr h => ?_)
  · obtain ⟨t, ws, n, rfl, _⟩ := h
    rfl
  · obtain ⟨t, ws, n, rfl, hT, hw, hlen, hn, k⟩ := h
    have hu := hr.units
    have hu1 := hu_of hr
    refine ⟨_, pss_cons (ps_set (i := 1) scCF.nd rfl (Or.inr rfl) (pe_dc2 (own := [("word", 3), ("at", 4)]) (vs1 := [4]) (g := gName 3) (g1 := gName 4) (tt := tYes) (tt1 := tYes) rfl scCF.nd (pi_tup (pv 0))
          (blkOk_by (own := [("word", 3), ("at", 4)]) (N := nCF) (sc := defScope sCF) (by decide +kernel)) (by decide) (fun _ _ _ _ _ => pg_name (i := 3) scCF.nd rfl (Or.inl rfl)) (fun _ _ _ _ _ => pts_nil)
          (fun _ _ _ _ _ => pi_range2 (by rfl) T.range (pa_cons pe_int (pa_cons (pe_callB (call_lenK (K0 := K) rfl) (by rfl) T.len PySem.boot_len (pa_cons (pv 3) pa_nil)) pa_nil)))
          (fun _ _ _ _ _ => pg_name (i := 4) scCF.nd rfl (Or.inl rfl)) (fun _ _ _ _ _ => pts_nil) (fun _ _ _ _ _ => pe_slice sl_str (pv 3) po_none (po_some (pv 4))) (fun _ _ _ _ _ => pe_bl)))
      (pss_cons (ps_set (i := 2) scCF.nd rfl (Or.inr rfl) (pe_dc2 (own := [("word", 3), ("at", 4)]) (vs1 := [4]) (g := gName 3) (g1 := gName 4) (tt := tYes) (tt1 := tYes) rfl scCF.nd (pi_tup (pv 0))
          (blkOk_by (own := [("word", 3), ("at", 4)]) (N := nCF) (sc := defScope sCF) (by decide +kernel)) (by decide) (fun _ _ _ _ _ => pg_name (i := 3) scCF.nd rfl (Or.inl rfl)) (fun _ _ _ _ _ => pts_nil)
          (fun _ _ _ _ _ => pi_range2 (by rfl) T.range (pa_cons pe_int (pa_cons (pe_callB (call_lenK (K0 := K) rfl) (by rfl) T.len PySem.boot_len (pa_cons (pv 3) pa_nil)) pa_nil)))
          (fun _ _ _ _ _ => pg_name (i := 4) scCF.nd rfl (Or.inl rfl)) (fun _ _ _ _ _ => pts_nil) (fun _ _ _ _ _ => pe_slice sl_str (pv 3) (po_some (pv 4)) po_none) (fun _ _ _ _ _ => pe_bl)))
      (pss_one (ps_ret (pe_not (pe_callB (cr_any rfl) (by rfl) T.any (by rfl) (pa_cons (pe_lc2 (own := [("word", 3), ("at", 4)]) (vs1 := [4]) (g := gName 3) (g1 := gName 4) (tt := tYes) (tt1 := tYes) rfl scCF.nd (pi_tup (pv 0))
          (blkOk_by (own := [("word", 3), ("at", 4)]) (N := nCF) (sc := defScope sCF) (by decide +kernel)) (by decide) (fun _ _ _ _ _ => pg_name (i := 3) scCF.nd rfl (Or.inl rfl)) (fun _ _ _ _ _ => pts_nil)
          (fun _ _ _ _ _ => pi_range2 (by rfl) T.range (pa_cons pe_int (pa_cons (pe_callB (call_lenK (K0 := K) rfl) (by rfl) T.len PySem.boot_len (pa_cons (pv 3) pa_nil)) pa_nil)))
          (fun _ _ _ _ _ => pg_name (i := 4) scCF.nd rfl (Or.inl rfl)) (fun _ _ _ _ _ => pts_nil)
          (fun _ _ _ _ _ => pe_and (pe_cmp (pc_din hu1 (pe_slice sl_str (pv 3) po_none (po_some (pv 4))) (pv 2))) (pe_one (pe_cmp (pc_din hu1 (pe_slice sl_str (pv 3) (po_some (pv 4)) po_none) (pv 1)))))) pa_nil)))))), ?_⟩
    have hs : ∀ w : Str, w.length = n → w.length ≤ sizeLine := fun w e => Nat.le_trans (by omega : w.length ≤ 100) (by decide)
    unfold tSeq tAsg
    refine pass (n := n) (v1 := none) (v2 := none) (v3 := none) (v4 := none) (tk := tSl rSlS (tVar 3) tNoPart (tPart (tVar 4))) (fun w a => cutS w none (some (a : Int))) hT hw hlen hn (fun H' Q' w a lw q => ⟨_, rfl, _, rfl, _, rfl, w, rfl, hs w lw, q⟩) (fun B kb hB zb => ?_)
    have hT1 : SqT K (upd H B (.dK kb)) t (ws.map V.str) := Same.seqT (Same.upd hB) hT
    dsimp only [gName]
    refine pass (n := n) (v1 := some (.ref B)) (v2 := none) (v3 := none) (v4 := none) (tk := tSl rSlS (tVar 3) (tPart (tVar 4)) tNoPart) (fun w a => cutS w (some (a : Int)) none) hT1 hw hlen hn (fun H' Q' w a lw q => ⟨_, rfl, _, rfl, _, rfl, w, rfl, hs w lw, q⟩) (fun D ke hD ze => ?_)
    have nBD : B ≠ D := fun e => by rw [← e, upd_same] at hD; cases hD
    have hB2 : (upd (upd H B (.dK kb)) D (.dK ke)) B = some (.dK kb) := by rw [upd_ne nBD]; exact upd_same
    have hD2 : (upd (upd H B (.dK kb)) D (.dK ke)) D = some (.dK ke) := upd_same
    have hT2 : SqT K (upd (upd H B (.dK kb)) D (.dK ke)) t (ws.map V.str) := Same.seqT (Same.upd hD) hT1
    have sm : Same H (upd (upd H B (.dK kb)) D (.dK ke)) := (Same.upd hB).trans (Same.upd hD)
    revert hB2 hD2 hT2 sm
    generalize upd (upd H B (.dK kb)) D (.dK ke) = H2
    intro hB2 hD2 hT2 sm
    refine ⟨_, rfl, t, rfl, ⟨_, hT2⟩, fun L hL => ?_⟩
    have nB : B ≠ L := ne_of_none hB2 hL
    have nD : D ≠ L := ne_of_none hD2 hL
    refine lout_tup (K := K) (a := t) (xs := ws.map V.str) (fun i H' => ∃ bs : List Bool, H' = upd H2 L (.lst (bs.map V.bl)) ∧ bs.length ≤ 100 * i ∧ (bs.any id = true ↔ ∃ w ∈ ws.take i, ∃ a, 1 ≤ a ∧ a < w.length ∧ hitAt ws w a)) ⟨[], rfl, Nat.zero_le _, ?_⟩
      (fun i H' _ ⟨bs, e, _⟩ => e ▸ Same.seqT (Same.upd hL) hT2) ?_ ?_
    · constructor
      · intro h; cases h
      · rintro ⟨w, hw, _⟩
        rw [List.take_zero] at hw
        cases hw
    · rintro i x H1 hx ⟨bs, rfl, hl, hz⟩
      rw [List.getElem?_map] at hx
      cases hq : ws[i]? with
      | none => rw [hq] at hx; cases hx
      | some w =>
        rw [hq] at hx
        cases hx
        have lw : w.length = n := hw w (List.mem_of_getElem? hq)
        have hi : i < ws.length := (List.getElem?_eq_some_iff.mp hq).1
        have et : ws.take (i + 1) = ws.take i ++ [w] := by rw [List.take_succ, hq]; rfl
        refine ⟨rfl, ?_⟩
        dsimp only [tYes]
        refine iteT ?_
        refine ⟨_, rfl, _, _, rfl, ⟨hs w lw, rfl⟩, 1, _, rfl, ⟨by decide, by decide, by omega, by omega⟩, ?_⟩
        refine lin_range (lo := 1) (n := ((w.length : Int) - 1).toNat) (fun j H' => ∃ bs : List Bool, H' = upd H2 L (.lst (bs.map V.bl)) ∧ bs.length ≤ 100 * i + j ∧ (bs.any id = true ↔ ((∃ w ∈ ws.take i, ∃ a, 1 ≤ a ∧ a < w.length ∧ hitAt ws w a) ∨ ∃ a, 1 ≤ a ∧ a < 1 + j ∧ hitAt ws w a))) ⟨bs, rfl, hl, ?_⟩ ?_ ?_
        · rw [hz]
          constructor
          · exact .inl
          · rintro (h | ⟨a, h1, h2, _⟩)
            · exact h
            · omega
        · rintro j H3 hj ⟨b2, rfl, hl2, hz2⟩
          have ej : (1 : Int) + (j : Int) = ((1 + j : Nat) : Int) := by omega
          rw [ej]
          refine ⟨rfl, ?_⟩
          dsimp only [tYes]
          refine iteT ?_
          have hB3 : (upd H2 L (.lst (b2.map V.bl))) B = some (.dK kb) := by rw [upd_ne nB]; exact hB2
          have hD3 : (upd H2 L (.lst (b2.map V.bl))) D = some (.dK ke) := by rw [upd_ne nD]; exact hD2
          -- the answer is stored
          have fin : ∀ b : Bool, (b = true ↔ hitAt ws w (1 + j)) → app L (fun H' => ∃ bs : List Bool, H' = upd H2 L (.lst (bs.map V.bl)) ∧ bs.length ≤ 100 * i + (j + 1) ∧ (bs.any id = true ↔ ((∃ w ∈ ws.take i, ∃ a, 1 ≤ a ∧ a < w.length ∧ hitAt ws w a) ∨ ∃ a, 1 ≤ a ∧ a < 1 + (j + 1) ∧ hitAt ws w a))) (.bl b) (upd H2 L (.lst (b2.map V.bl))) := fun b hb => by
            refine ⟨_, upd_same, by rw [List.length_map]; exact Nat.lt_of_le_of_lt (by omega : b2.length ≤ 20000) (by decide), b2 ++ [b], by rw [upd_upd, List.map_append]; rfl, by rw [List.length_append, List.length_singleton]; omega, ?_⟩
            rw [List.any_append, Bool.or_eq_true, hz2, List.any_cons, List.any_nil, Bool.or_false, id, hb]
            constructor
            · rintro ((h | ⟨a, h1, h2, h3⟩) | h)
              · exact .inl h
              · exact .inr ⟨a, h1, by omega, h3⟩
              · exact .inr ⟨1 + j, by omega, by omega, h⟩
            · rintro (h | ⟨a, h1, h2, h3⟩)
              · exact .inl (.inl h)
              · by_cases ea : a = 1 + j
                · subst ea; exact .inr h3
                · exact .inl (.inr ⟨a, h1, by omega, h3⟩)
          refine ⟨_, rfl, _, rfl, _, rfl, w, rfl, hs w lw, _, rfl, D, _, rfl, DGet.k (k := Sum.inr (cutS w none (some ((1 + j : Nat) : Int)))) hD3, _, rfl, ?_⟩
          have e1 : (valV ke (Sum.inr (cutS w none (some ((1 + j : Nat) : Int))))).isSome = true ↔ isEnd ws (cutS w none (some ((1 + j : Nat) : Int))) := ze _
          have e2 : (valV kb (Sum.inr (cutS w (some ((1 + j : Nat) : Int)) none))).isSome = true ↔ isBeg ws (cutS w (some ((1 + j : Nat) : Int)) none) := zb _
          cases hv : (valV ke (Sum.inr (cutS w none (some ((1 + j : Nat) : Int))))).isSome with
          | false =>
            refine iteF (fin false ?_)
            rw [hv] at e1
            exact ⟨(fun z => nomatch z), (fun z => absurd (e1.mpr z.1) (fun z => nomatch z))⟩
          | true =>
            refine iteT ?_
            refine ⟨_, rfl, _, rfl, _, rfl, w, rfl, hs w lw, _, rfl, B, _, rfl, DGet.k (k := Sum.inr (cutS w (some ((1 + j : Nat) : Int)) none)) hB3, ?_⟩
            exact fin _ ⟨fun z => ⟨e1.mp hv, e2.mp z⟩, fun z => e2.mpr z.2⟩
        · rintro H3 ⟨b2, rfl, hl2, hz2⟩
          refine ⟨b2, rfl, by omega, ?_⟩
          rw [hz2, et]
          constructor
          · rintro (⟨w', h1, a, h2, h3, h4⟩ | ⟨a, h1, h2, h3⟩)
            · exact ⟨w', List.mem_append_left _ h1, a, h2, h3, h4⟩
            · exact ⟨w, List.mem_append_right _ List.mem_cons_self, a, h1, by omega, h3⟩
          · rintro ⟨w', h1, a, h2, h3, h4⟩
            rcases List.mem_append.mp h1 with h1 | h1
            · exact .inl ⟨w', h1, a, h2, h3, h4⟩
            · rw [List.mem_singleton] at h1
              subst h1
              exact .inr ⟨a, h2, by omega, h4⟩
    · rintro H1 ⟨bs, rfl, hl, hz⟩
      rw [List.length_map, List.take_length] at hz
      refine ⟨L, bs, rfl, SqL.of upd_same, _, rfl, ?_⟩
      have e : (!bs.any id) = freeB ws := by
        have q := hz.trans (hit_iff hw)
        cases hb : bs.any id with
        | true => rw [(q.mp hb)]; rfl
        | false =>
          cases hf : freeB ws with
          | true => rfl
          | false => rw [q.mpr hf] at hb; cases hb
      rw [e]
      exact k _ (sm.trans (Same.upd hL))
end
end K48

set_option Elab.async false
set_option linter.all false
set_option maxRecDepth 100000
set_option maxHeartbeats 2000000
namespace K48
open PySem PySem.Spec PyProof.Rows L2 Ami
/-- the law's own look -/
def spFree (K : PySem.W.Frag) : Sp := fun vs H Q _ => ∃ (l : Addr) (ws : List Str) (n : Nat), vs = [.ref l] ∧ SqL K H l (ws.map V.str) ∧ (∀ w ∈ ws, w.length = n) ∧ ws.length ≤ 100 ∧ n ≤ 100 ∧ Q (.bl (freeB ws)) H
section
variable {P : Program} {w : World} {K : PySem.W.Frag} {mg : Str → Option Value} {base : Heap}
theorem scFree : FnScope ["_law_some_here", "_law_one", "_law_two", "_law_line", "_law_k"] ["_law_some_here"] (defScope sFree) := ⟨rfl, rfl, rfl, by decide +kernel, rfl, by decide +kernel, by decide +kernel⟩
theorem ok_free {f : Addr} {fd : FuncData} (F : Fun K "_law_free" "_law_free" sFree f fd) (T : Blt mg) : FnOk P w K mg base CX0 1 f fd ["_law_some_here"] (spFree K) := by
  refine F.ok scFree (fun vs H Q E h => ?_) (fun cdv A outer s H vs Q E hr h => ?_)
  · obtain ⟨l, ws, n, rfl, _⟩ := h
    rfl
  · obtain ⟨l, ws, n, rfl, hL, hw, hlen, hn, k⟩ := h
    refine ⟨_, pss_cons (ps_for PassesOwn.never rfl (pi_list (pv 0)) (pg_name (i := 1) scFree.nd rfl (Or.inl rfl))
        (pss_one (ps_for PassesOwn.never rfl (pi_list (pv 0)) (pg_name (i := 2) scFree.nd rfl (Or.inl rfl))
          (pss_cons (ps_set (i := 3) scFree.nd rfl (Or.inl rfl) (pe_op op_add_str (pv 1) (pv 2)))
          (pss_one (ps_for PassesOwn.never rfl (pi_range2 (by rfl) T.range (pa_cons pe_int (pa_cons (pe_callB (call_lenK (K0 := K) rfl) (by rfl) T.len PySem.boot_len (pa_cons (pv 1) pa_nil)) pa_nil))) (pg_name (i := 4) scFree.nd rfl (Or.inl rfl))
            (pss_one (ps_if (pt_cmpR op_in_seq (pe_slice sl_str (pv 3) (po_some (pv 4)) (po_some (pe_op op_add (pv 4) (pe_callB (call_lenK (K0 := K) rfl) (by rfl) T.len PySem.boot_len (pa_cons (pv 1) pa_nil))))) (pv 0) (by rfl)) (pss_one (ps_ret pe_bl)) pss_nil))))))))
      (pss_one (ps_ret pe_bl)), ?_⟩
    have hs : ∀ w : Str, w.length = n → w.length ≤ sizeLine := fun w e => Nat.le_trans (by omega : w.length ≤ 100) (by decide)
    have bad : ∀ x ∈ ws, ∀ y ∈ ws, ∀ j, 1 ≤ j → j < x.length → amid x y j ∈ ws → freeB ws = false := fun x hx y hy j h1 h2 h3 => by
      cases hf : freeB ws with
      | false => rfl
      | true => exact absurd h3 (free_iff.mp hf x hx y hy j h1 h2)
    refine ⟨_, rfl, l, rfl, ⟨_, hL⟩, ?_⟩
    refine for_list (K := K) (a := l) (xs := ws.map V.str) (fun i σ H' => ∃ v1 v2 v3 v4 : Option V, σ = [some (.ref l), v1, v2, v3, v4] ∧ H' = H ∧ ∀ x ∈ ws.take i, ∀ y ∈ ws, ∀ j, 1 ≤ j → j < x.length → amid x y j ∉ ws)
      ⟨none, none, none, none, rfl, rfl, fun x hx => by rw [List.take_zero] at hx; cases hx⟩ (fun i σ H' _ ⟨_, _, _, _, _, e, _⟩ => by rw [e]; exact hL) ?_ ?_
    · rintro i y σ H' hi ⟨v1, v2, v3, v4, rfl, rfl, ok1⟩
      rw [List.getElem?_map] at hi
      cases hq : ws[i]? with
      | none => rw [hq] at hi; cases hi
      | some x =>
        rw [hq] at hi
        cases hi
        have mx := List.mem_of_getElem? hq
        have lx := hw x mx
        have et : ws.take (i + 1) = ws.take i ++ [x] := by rw [List.take_succ, hq]; rfl
        refine ⟨_, rfl, l, rfl, ⟨_, hL⟩, ?_⟩
        refine for_list (K := K) (a := l) (xs := ws.map V.str) (fun i2 σ H'' => ∃ v2 v3 v4 : Option V, σ = [some (.ref l), some (.str x), v2, v3, v4] ∧ H'' = H' ∧ ∀ y ∈ ws.take i2, ∀ j, 1 ≤ j → j < x.length → amid x y j ∉ ws)
          ⟨v2, v3, v4, rfl, rfl, fun x hx => by rw [List.take_zero] at hx; cases hx⟩ (fun i σ H'' _ ⟨_, _, _, _, e, _⟩ => by rw [e]; exact hL) ?_ ?_
        · rintro i2 y σ H'' hi2 ⟨v2, v3, v4, rfl, rfl, ok2⟩
          rw [List.getElem?_map] at hi2
          cases hq2 : ws[i2]? with
          | none => rw [hq2] at hi2; cases hi2
          | some y =>
            rw [hq2] at hi2
            cases hi2
            have my := List.mem_of_getElem? hq2
            have ly := hw y my
            have et2 : ws.take (i2 + 1) = ws.take i2 ++ [y] := by rw [List.take_succ, hq2]; rfl
            have big : x.length + y.length ≤ sizeLine := Nat.le_trans (by omega : x.length + y.length ≤ 200) (by decide)
            refine ⟨_, rfl, _, rfl, _, _, rfl, rfl, big, ?_⟩
            refine ⟨_, rfl, _, _, rfl, ⟨hs x lx, rfl⟩, 1, _, rfl, ⟨by decide, by decide, by omega, by omega⟩, ?_⟩
            refine for_range (lo := 1) (n := ((x.length : Int) - 1).toNat) (fun j σ H3 => ∃ v4 : Option V, σ = [some (.ref l), some (.str x), some (.str y), some (.str (x ++ y)), v4] ∧ H3 = H'' ∧ ∀ q, 1 ≤ q → q < 1 + j → amid x y q ∉ ws) ⟨v4, rfl, rfl, fun q h1 h2 => by omega⟩ ?_ ?_
            · rintro j σ H3 hj ⟨v4', rfl, rfl, ok3⟩
              have ej : (1 : Int) + (j : Int) = ((1 + j : Nat) : Int) := by omega
              rw [ej]
              have es : ((1 + j : Nat) : Int) + (x.length : Int) = ((1 + j + x.length : Nat) : Int) := rfl
              refine ⟨_, rfl, _, rfl, _, rfl, _, rfl, _, rfl, _, _, rfl, ⟨hs x lx, rfl⟩, _, _, rfl, rfl, _, rfl, x ++ y, rfl, by rw [Ami.append_length]; exact big, ?_⟩
              rw [es]
              refine ⟨_, rfl, l, _, rfl, .inl hL, rfl, flat_txt ws, _, rfl, ?_⟩
              rw [inV_txt]
              show if decide (amid x y (1 + j) ∈ ws) = true then _ else _
              refine ite2 (fun h => ?_) (fun h => ?_)
              · have e := bad x mx y my (1 + j) (by omega) (by omega) (of_decide_eq_true h)
                rw [e] at k
                exact k
              · refine ⟨_, rfl, rfl, fun q h1 h2 => ?_⟩
                by_cases e : q = 1 + j
                · rw [e]
                  exact of_decide_eq_false (Bool.not_eq_true _ ▸ h)
                · exact ok3 q h1 (by omega)
            · rintro σ H3 ⟨v4', rfl, rfl, ok3⟩
              refine ⟨_, _, _, rfl, rfl, fun z hz q h1 h2 => ?_⟩
              rw [et2] at hz
              rcases List.mem_append.mp hz with hz | hz
              · exact ok2 z hz q h1 h2
              · rw [List.mem_singleton] at hz
                subst hz
                exact ok3 q h1 (by omega)
        · rintro σ H3 ⟨v2', v3', v4', rfl, rfl, ok2⟩
          rw [List.length_map, List.take_length] at ok2
          refine ⟨_, _, _, _, rfl, rfl, fun z hz => ?_⟩
          rw [et] at hz
          rcases List.mem_append.mp hz with hz | hz
          · exact ok1 z hz
          · rw [List.mem_singleton] at hz
            subst hz
            exact ok2
    · rintro σ H3 ⟨v1, v2, v3, v4, rfl, rfl, ok1⟩
      rw [List.length_map, List.take_length] at ok1
      rw [free_iff.mpr ok1] at k
      exact k
end
end K48

set_option Elab.async false
set_option linter.all false
set_option maxRecDepth 100000
set_option maxHeartbeats 4000000
namespace K48
open PySem PySem.Spec PyProof.Rows L2 Ami
/-- some words of one length, drawn -/
def spSome : Sp := fun vs H Q _ => ∃ (d c : Addr) (m : Nat) (S : Str) (n : Nat), vs = [.ref d, .str S, .int n] ∧ 0 < S.length ∧ S.length ≤ 100 ∧ Asc S ∧ 1 ≤ n ∧ n ≤ 10 ∧ m + 1000 < 1000000 ∧ DD H d c m ∧
  ∀ (H' : Hp) (L : Addr) (ws : List Str) (m' : Nat), H L = none → H' L = some (.lst (ws.map V.str)) → (∀ z ∈ ws, z.length = n) → ws.length ≤ 8 → m' ≤ m + 300 → DD H' d c m' → But d c H H' → Q (.ref L) H'
theorem but_at {d c L : Addr} {H H' : Hp} (b : But d c H H') (hL : H L = none) {o : HO} : But d c H (upd H' L o) := fun x u h1 h2 e => by
  rw [upd_ne (ne_of_none e hL)]; exact b x u h1 h2 e
theorem repS_len (z : Str) (n : Nat) : (repS z n).length = n * z.length := repS_length z n
theorem cut_to_len (z : Str) (k : Nat) (h : k ≤ z.length) : (cutS z none (some (k : Int))).length = k := by
  rw [cut_to z k h]
  show (List.toArray _).size = _
  rw [List.size_toArray, List.length_take, len_toList]; omega
theorem cut_from_len (z : Str) (k : Nat) (h : k ≤ z.length) : (cutS z (some (k : Int)) none).length = z.length - k := by
  rw [cut_from z k h]
  show (List.toArray _).size = _
  rw [List.size_toArray, List.length_drop, len_toList]
theorem and_two {tA tB : TT} {a b : Bool} {σ : L2.St} {H : Hp} {Q : Bool → Hp → Prop} (ha : ∀ Q' : Bool → Hp → Prop, Q' a H → tA σ H Q') (hb : ∀ Q' : Bool → Hp → Prop, Q' b H → tB σ H Q') (h : Q (a && b) H) : tAnd tA tB σ H Q := by
  refine ha _ ?_
  cases a with
  | true => exact iteT (hb _ h)
  | false => exact iteF h
section
variable {P : Program} {w : World} {K : PySem.W.Frag} {mg : Str → Option Value} {base : Heap}
abbrev nSome : List Str := ["_law_deck_here", "_law_signs", "_law_size", "_law_found", "_law_turn", "_law_way", "_law_item", "_law_at", "_law_old", "_law_k"]
theorem scSome : FnScope nSome ["_law_deck_here", "_law_signs", "_law_size"] (defScope sSome) := ⟨rfl, rfl, rfl, by decide +kernel, rfl, by decide +kernel, by decide +kernel⟩
theorem ok_some {f fd fp : Addr} {df dd dp : FuncData} (F : Fun K "_law_some" "_law_some" sSome f df) (T : Blt mg) (Dd : DefAt K mg "_law_draw" sDraw ["_law_deck_here", "_law_many"] fd dd)
    (Dp : DefAt K mg "_law_pick" sPick ["_law_deck_here", "_law_some_here"] fp dp) : FnOk P w K mg base CX0 3 f df ["_law_deck_here", "_law_signs", "_law_size"] spSome := by
  have Gd : FnOk P w K mg base CX0 1 fd dd ["_law_deck_here", "_law_many"] spDraw := ok_draw Dd.F T
  have Gp : FnOk P w K mg base CX0 2 fp dp ["_law_deck_here", "_law_some_here"] (spPick K) := ok_pick Dp.F T Dd
  refine F.ok scSome (fun vs H Q E h => ?_) (fun cdv A outer s H vs Q E hr h => ?_)
  · obtain ⟨d, c, m, S, n, rfl, _⟩ := h
    rfl
  · obtain ⟨d, c, m, S, n, rfl, hS0, hSl, hA, hn1, hn, hm, D, k⟩ := h
    have hr1 := hr.mono (j := 1) (by decide)
    have hr2 := hr.mono (j := 2) (by decide)
    have hu := hr.units
    refine ⟨_, pss_cons (ps_set (i := 3) scSome.nd rfl (Or.inl rfl) (pe_lst pa_nil))
      (pss_cons (ps_for PassesOwn.never rfl (pi_range1 (by rfl) T.range (pa_cons (pc Dd Gd hr1 (pa_cons (pv 0) (pa_cons pe_int pa_nil))) pa_nil)) (pg_name (i := 4) scSome.nd rfl (Or.inl rfl))
        (pss_cons (ps_set (i := 5) scSome.nd rfl (Or.inl rfl) (pc Dd Gd hr1 (pa_cons (pv 0) (pa_cons pe_int pa_nil))))
        (pss_cons (ps_set (i := 6) scSome.nd rfl (Or.inl rfl) (pe_join pe_str (pe_lc (own := [("_law_k", 9)]) (g := gName 9) (tt := tYes) rfl scSome.nd (pi_range1 (by rfl) T.range (pa_cons (pv 2) pa_nil))
            (blkOk_by (own := [("_law_k", 9)]) (N := nSome) (sc := defScope sSome) (by decide +kernel)) (fun _ _ _ _ _ => pg_name (i := 9) scSome.nd rfl (Or.inl rfl)) (fun _ _ _ _ _ => pts_nil) (fun _ _ _ _ _ => pc Dp Gp hr2 (pa_cons (pv 0) (pa_cons (pv 1) pa_nil))))))
        (C8.pss_cut (ps_if (PW.pt (pw_and (pt_cmpR op_eq (pv 5) pe_int (nomark _)) (pw_and1 (pt_cmpR (op_neD hu) (pv 3) (pe_lst pa_nil) (nomark _)))))
          (pss_cons (ps_par (i := 7) (j := 8) (by rfl) scSome.nd rfl rfl (by decide) rfl rfl (pa_cons (pc Dd Gd hr1 (pa_cons (pv 0) (pa_cons (pv 2) pa_nil))) (pa_cons (pc Dp Gp hr2 (pa_cons (pv 0) (pa_cons (pv 3) pa_nil))) pa_nil)) (by rfl))
          (pss_one (ps_set (i := 6) scSome.nd rfl (Or.inl rfl) (pe_op op_add_str (pe_slice sl_str (pv 8) (po_some (pv 7)) po_none) (pe_slice sl_str (pv 8) po_none (po_some (pv 7))))))) pss_nil)
        (C8.pss_cut (ps_if (PW.pt (pw_and (pt_cmpR op_eq (pv 5) pe_int (nomark _)) (pw_and1 (pt_cmpR op_gt (pe_callB call_len (by rfl) T.len PySem.boot_len (pa_cons (pv 3) pa_nil)) pe_int (nomark _)))))
          (pss_cons (ps_set (i := 7) scSome.nd rfl (Or.inl rfl) (pc Dd Gd hr1 (pa_cons (pv 0) (pa_cons (pe_op op_add (pv 2) pe_int) pa_nil))))
          (pss_one (ps_set (i := 6) scSome.nd rfl (Or.inl rfl) (pe_op op_add_str (pe_slice sl_str (pc Dp Gp hr2 (pa_cons (pv 0) (pa_cons (pv 3) pa_nil))) (po_some (pv 7)) po_none) (pe_slice sl_str (pc Dp Gp hr2 (pa_cons (pv 0) (pa_cons (pv 3) pa_nil))) po_none (po_some (pv 7))))))) pss_nil)
        (C8.pss_cut (ps_if (pt_cmpR op_eq (pv 5) pe_int (nomark _))
          (pss_one (ps_set (i := 6) scSome.nd rfl (Or.inl rfl) (pe_slice sl_str (pe_op op_repS (pe_slice sl_str (pv 6) po_none (po_some (pe_op op_fdiv (pe_op op_add (pv 2) pe_int) pe_int))) pe_int) po_none (po_some (pv 2))))) pss_nil)
        (pss_one (ps_if (pt_cmpR op_notIn_seq (pv 6) (pv 3) (by rfl)) (pss_one (ps_expr (pe_bm PySem.F.plainAttrs_list PySem.F.slot_list_append PySem.F.type_list_append mt_append (pv 3) (pa_cons (pv 6) pa_nil)))) pss_nil))))))))
      (pss_one (ps_ret (pv 3)))), ?_⟩
    refine ⟨Nat.zero_le _, fun L hL => ?_⟩
    obtain ⟨nLd, nLc⟩ := D.ned hL
    have D0 : DD (upd H L (.lst [])) d c m := D.new hL
    have B0 : But d c H (upd H L (.lst [])) := But.new (But.refl d c H) hL
    have e0 : (upd H L (.lst [])) L = some (.lst (([] : List Str).map V.str)) := upd_same
    revert D0 B0 e0
    generalize upd H L (.lst []) = H0
    intro D0 B0 e0
    refine ⟨_, rfl, d, c, m, 9, rfl, by decide, by decide, by omega, D0, fun H1 r h0 h1 D1 B1 => ⟨_, rfl, by omega, by omega, ?_⟩⟩
    refine for_range (lo := 0) (n := r.toNat) (fun i σ H' => ∃ (m1 : Nat) (ws : List Str) (v4 v5 v6 v7 v8 v9 : Option V), σ = [some (.ref d), some (.str S), some (.int n), some (.ref L), v4, v5, v6, v7, v8, v9] ∧ m1 ≤ m + 1 + 30 * i ∧ ws.length ≤ i ∧ (∀ z ∈ ws, z.length = n ∧ Asc z) ∧
        H' L = some (.lst (ws.map V.str)) ∧ DD H' d c m1 ∧ But d c H H') ⟨m + 1, [], _, _, _, _, _, _, rfl, by omega, Nat.zero_le _, (fun z hz => nomatch hz), B1 L _ nLd nLc e0, D1, B0.trans B1⟩ ?_ ?_
    · rintro i σ H' hi ⟨m1, ws, v4, v5, v6, v7, v8, v9, rfl, hm1, hl, hw, eL, D2, B2⟩
      refine ⟨_, rfl, d, c, m1, 5, rfl, by decide, by decide, by omega, D2, fun H3 wy w0 w1 D3 B3 => ?_⟩
      have eL3 := B3 L _ nLd nLc eL
      have B03 := B2.trans B3
      refine ⟨⟨_, rfl⟩, _, rfl, _, rfl, by omega, by omega, fun C hC => ?_⟩
      have en : ((n : Nat) : Int).toNat = n := by omega
      rw [en]
      obtain ⟨nCd, nCc⟩ := D3.ned hC
      have nLC : L ≠ C := ne_of_none eL3 hC
      have hSs : S.length ≤ sizeLine := Nat.le_trans hSl (by decide)
      refine lc_range (lo := 0) (n := n) (fun q H' => ∃ cs : List Nat, H' C = some (.lst ((cs.map one).map V.str)) ∧ cs.length = q ∧ (∀ e ∈ cs, e < 128) ∧ DD H' d c (m1 + 1 + q) ∧ H' L = some (.lst (ws.map V.str)) ∧ But d c H H')
        ⟨[], upd_same, rfl, (fun e he => nomatch he), D3.new hC, by rw [upd_ne nLC]; exact eL3, B03.new hC⟩ ?_ ?_
      · rintro q H4 hq ⟨cs, e1, e2, e3, D4, eL4, B4⟩
        refine ⟨rfl, ?_⟩
        dsimp only [tYes]
        refine iteT ?_
        refine ⟨_, rfl, _, rfl, d, c, _, .str S, (letts S).map V.str, rfl, ?_, ?_, by omega, D4, fun H' B => .txt _ hSs, fun H5 y hy D5 B5 => ?_⟩
        · intro e
          have := congrArg List.length e
          rw [List.length_map, letts_length] at this
          exact absurd this (by show S.length ≠ 0; omega)
        · rw [List.length_map, letts_length]; omega
        · obtain ⟨w1, hw1, rfl⟩ := List.mem_map.mp hy
          obtain ⟨e, he, rfl⟩ := List.mem_map.mp hw1
          refine ⟨_, B5 C _ nCd nCc e1, ?_, cs ++ [e], ?_, ?_, ?_, ?_, ?_, ?_⟩
          · rw [List.length_map, List.length_map, e2]; exact Nat.lt_of_le_of_lt (by omega : q ≤ 10) (by decide)
          · rw [upd_same, List.map_append, List.map_append]; rfl
          · rw [List.length_append, e2]; rfl
          · intro x hx
            rcases List.mem_append.mp hx with h | h
            · exact e3 x h
            · rw [List.mem_singleton.mp h]; exact hA e he
          · exact D5.set nCd nCc
          · rw [upd_ne nLC]; exact B5 L _ nLd nLc eL4
          · have hCH : H C = none := by
              cases hx : H C with
              | none => rfl
              | some o => rw [B03 C o nCd nCc hx] at hC; cases hC
            exact but_at (B4.trans B5) hCH
      rintro H4 ⟨cs, e1, e2, e3, D4, eL4, B4⟩
      refine ⟨_, C, cs.map one, rfl, rfl, .inl (SqL.of e1), ?_, ?_⟩
      · have e : (cs.map one).map (fun x : Str => x.length) = List.replicate cs.length 1 := by
          rw [List.map_map]
          exact List.eq_replicate_iff.mpr ⟨by rw [List.length_map], fun b hb => by obtain ⟨c, _, rfl⟩ := List.mem_map.mp hb; rfl⟩
        rw [e, List.sum_replicate_nat, List.length_map]
        have e0 : (Str.ofString "").length = 0 := by decide +kernel
        rw [e0]; omega
      have es0 : Str.ofString "" = ⟨#[]⟩ := by decide +kernel
      rw [es0, joinOnes]
      obtain ⟨it0, hit, il0, iA0⟩ : ∃ it : Str, it = ⟨cs.toArray⟩ ∧ it.length = n ∧ Asc it := ⟨_, rfl, by show cs.toArray.size = n; rw [List.size_toArray]; exact e2, fun x hx => e3 x hx⟩
      rw [← hit]
      clear hit e1 e3
      have hn5 : n ≤ sizeLine := Nat.le_trans hn (by decide)
      have okW : (ws.map V.str).all okF = true := okF_texts fun z hz => (hw z hz).2
      have one2 : ∀ z : Str, z.length = n → z.length ≤ sizeLine := fun z e => by rw [e]; exact hn5
      -- the turned word
      have rotL : ∀ (z : Str) (a : Nat), z.length = n → a ≤ n → (cutS z (some (a : Int)) none ++ cutS z none (some (a : Int))).length = n := fun z a hz ha => by
        rw [Ami.append_length, cut_from_len z a (by omega), cut_to_len z a (by omega)]; omega
      refine ⟨fun σ H' => ∃ (m2 : Nat) (it : Str) (v7 v8 v9 : Option V), σ = [some (.ref d), some (.str S), some (.int n), some (.ref L), some (.int (0 + i)), some (.int wy), some (.str it), v7, v8, v9] ∧ it.length = n ∧ Asc it ∧ m2 ≤ m1 + 1 + n + 2 ∧ H' L = some (.lst (ws.map V.str)) ∧ DD H' d c m2 ∧ But d c H H', ?_, ?_⟩
      · refine ⟨_, rfl, rfl, _, rfl, ?_⟩
        refine ite2 (fun hb => ?_) (fun hb => ?_)
        · refine ⟨_, rfl, Nat.zero_le _, fun p hp => ?_⟩
          have nLp : L ≠ p := ne_of_none eL4 hp
          have eL5 : (upd H4 p (.lst [])) L = some (.lst (ws.map V.str)) := by rw [upd_ne nLp]; exact eL4
          refine ne_nil (SqL.of eL5) (SqL.of upd_same) okW ⟨_, rfl, ?_⟩
          have D5 := D4.new (o := .lst []) hp
          have B5 := B4.new (o := .lst []) hp
          revert eL5 D5 B5
          generalize upd H4 p (.lst []) = H5
          intro eL5 D5 B5
          refine ite2 (fun hb2 => ?_) (fun hb2 => ?_)
          · have wne : ws.map V.str ≠ [] := fun e => by rw [e] at hb2; cases hb2
            refine ⟨_, rfl, _, rfl, d, c, _, (n : Int), rfl, by omega, by omega, by omega, D5, fun H6 r6 r60 r61 D6 B6 => ?_⟩
            obtain ⟨a, rfl⟩ : ∃ a : Nat, r6 = a := ⟨r6.toNat, by omega⟩
            have eL6 := B6 L _ nLd nLc eL5
            refine ⟨_, rfl, _, rfl, d, c, _, .ref L, ws.map V.str, rfl, wne, by rw [List.length_map]; omega, by omega, D6, fun H' B => .lst (SqL.of (B L _ nLd nLc eL6)), fun H7 y hy D7 B7 => ?_⟩
            obtain ⟨old, ho, rfl⟩ := List.mem_map.mp hy
            obtain ⟨lo, ao⟩ := hw old ho
            have rl := rotL old a lo (by omega)
            refine ⟨_, _, rfl, _, rfl, _, rfl, _, rfl, old, rfl, one2 old lo, _, rfl, _, rfl, _, rfl, old, rfl, one2 old lo, _, _, rfl, rfl, by rw [← Ami.append_length, rl]; exact hn5, ?_⟩
            exact ⟨_, _, _, _, _, rfl, rl, (ao.cut _ _).append (ao.cut _ _), by omega, B7 L _ nLd nLc eL6, D7, (B5.trans B6).trans B7⟩
          · exact ⟨_, _, _, _, _, rfl, il0, iA0, by omega, eL5, D5, B5⟩
        · exact ⟨_, _, _, _, _, rfl, il0, iA0, by omega, eL4, D4, B4⟩
      · rintro σ H5 ⟨m2, it1, v7', v8', v9', rfl, il1, iA1, hm2, eL5, D5, B5⟩
        refine ⟨fun σ H' => ∃ (m2 : Nat) (it : Str) (v7 v8 v9 : Option V), σ = [some (.ref d), some (.str S), some (.int n), some (.ref L), some (.int (0 + i)), some (.int wy), some (.str it), v7, v8, v9] ∧ it.length = n ∧ Asc it ∧ m2 ≤ m1 + 1 + n + 5 ∧ H' L = some (.lst (ws.map V.str)) ∧ DD H' d c m2 ∧ But d c H H', ?_, ?_⟩
        · refine ⟨_, rfl, rfl, _, rfl, ?_⟩
          refine ite2 (fun hb => ?_) (fun hb => ?_)
          · refine ⟨_, rfl, _, _, rfl, .inl ⟨_, SqL.of eL5, rfl⟩, _, _, rfl, rfl, _, rfl, ?_⟩
            refine ite2 (fun hb2 => ?_) (fun hb2 => ?_)
            · have wne : ws.map V.str ≠ [] := fun e => by rw [e] at hb2; exact absurd (of_decide_eq_true hb2) (by decide)
              have en1 : ((n : Nat) : Int) + 1 = ((n + 1 : Nat) : Int) := by omega
              refine ⟨_, rfl, _, rfl, _, _, rfl, rfl, ?_⟩
              refine ⟨d, c, _, (n : Int) + 1, rfl, by omega, by omega, by omega, D5, fun H6 r6 r60 r61 D6 B6 => ?_⟩
              obtain ⟨a, rfl⟩ : ∃ a : Nat, r6 = a := ⟨r6.toNat, by omega⟩
              have eL6 := B6 L _ nLd nLc eL5
              refine ⟨_, rfl, _, rfl, d, c, _, .ref L, ws.map V.str, rfl, wne, by rw [List.length_map]; omega, by omega, D6, fun H' B => .lst (SqL.of (B L _ nLd nLc eL6)), fun H7 y hy D7 B7 => ?_⟩
              obtain ⟨o1, ho1, rfl⟩ := List.mem_map.mp hy
              obtain ⟨l1, a1⟩ := hw o1 ho1
              have eL7 := B7 L _ nLd nLc eL6
              refine ⟨_, rfl, _, rfl, o1, rfl, one2 o1 l1, ?_⟩
              refine ⟨_, rfl, _, rfl, d, c, _, .ref L, ws.map V.str, rfl, wne, by rw [List.length_map]; omega, by omega, D7, fun H' B => .lst (SqL.of (B L _ nLd nLc eL7)), fun H8 y hy D8 B8 => ?_⟩
              obtain ⟨o2, ho2, rfl⟩ := List.mem_map.mp hy
              obtain ⟨l2, a2⟩ := hw o2 ho2
              have rl : (cutS o1 (some (a : Int)) none ++ cutS o2 none (some (a : Int))).length = n := by
                rw [Ami.append_length, cut_from_len o1 a (by omega), cut_to_len o2 a (by omega)]; omega
              refine ⟨_, rfl, _, rfl, o2, rfl, one2 o2 l2, _, _, rfl, rfl, by rw [← Ami.append_length, rl]; exact hn5, ?_⟩
              exact ⟨_, _, _, _, _, rfl, rl, (a1.cut _ _).append (a2.cut _ _), by omega, B8 L _ nLd nLc eL7, D8, ((B5.trans B6).trans B7).trans B8⟩
            · exact ⟨_, _, _, _, _, rfl, il1, iA1, by omega, eL5, D5, B5⟩
          · exact ⟨_, _, _, _, _, rfl, il1, iA1, by omega, eL5, D5, B5⟩
        · rintro σ H6 ⟨m3, it2, v7', v8', v9', rfl, il2, iA2, hm3, eL6, D6, B6⟩
          refine ⟨fun σ H' => ∃ (m2 : Nat) (it : Str) (v7 v8 v9 : Option V), σ = [some (.ref d), some (.str S), some (.int n), some (.ref L), some (.int (0 + i)), some (.int wy), some (.str it), v7, v8, v9] ∧ it.length = n ∧ Asc it ∧ m2 ≤ m1 + 1 + n + 5 ∧ H' L = some (.lst (ws.map V.str)) ∧ DD H' d c m2 ∧ But d c H H', ?_, ?_⟩
          · refine ⟨_, rfl, rfl, _, rfl, ?_⟩
            refine ite2 (fun hb => ?_) (fun hb => ?_)
            · have eh : ((n : Int) + 1) / 2 = (((n + 1) / 2 : Nat) : Int) := by omega
              have hh : (n + 1) / 2 ≤ it2.length := by omega
              have l2 : (cutS it2 none (some (((n + 1) / 2 : Nat) : Int))).length = (n + 1) / 2 := cut_to_len it2 _ hh
              refine ⟨_, rfl, _, rfl, _, _, rfl, rfl, _, _, rfl, rfl, ⟨by decide, by decide⟩, _, rfl, it2, rfl, one2 it2 il2, ?_⟩
              rw [eh]
              have l3 : (repS (cutS it2 none (some (((n + 1) / 2 : Nat) : Int))) 2).length = 2 * ((n + 1) / 2) := by rw [repS_len, l2]
              refine ⟨_, 2, rfl, rfl, by rw [l2]; exact Nat.le_trans (by omega : _ ≤ 100) (by decide), by decide, _, rfl, _, rfl, _, rfl, by rw [l3]; exact Nat.le_trans (by omega : _ ≤ 100) (by decide), ?_⟩
              exact ⟨_, _, _, _, _, rfl, cut_to_len _ n (by rw [l3]; omega), ((iA2.cut _ _).rep 2).cut _ _, by omega, eL6, D6, B6⟩
            · exact ⟨_, _, _, _, _, rfl, il2, iA2, by omega, eL6, D6, B6⟩
          · rintro σ H7 ⟨m4, it3, v7', v8', v9', rfl, il3, iA3, hm4, eL7, D7, B7⟩
            refine ⟨_, rfl, _, rfl, L, _, rfl, .inl (SqL.of eL7), rfl, flat_txt ws, _, rfl, ?_⟩
            rw [inV_txt]
            show if (!decide (it3 ∈ ws)) = true then _ else _
            refine ite2 (fun hb => ?_) (fun hb => ?_)
            · refine ⟨_, rfl, .inl ⟨rfl, _, SqL.of eL7⟩, _, rfl, L, _, _, rfl, rfl, eL7, by rw [List.length_map]; exact Nat.lt_of_le_of_lt (by omega : ws.length ≤ 10) (by decide), ?_⟩
              obtain ⟨nLd', nLc'⟩ := (⟨nLd, nLc⟩ : L ≠ d ∧ L ≠ c)
              refine ⟨m4, ws ++ [it3], _, _, _, _, _, _, rfl, by omega, by rw [List.length_append, List.length_singleton]; omega, ?_, by rw [upd_same, List.map_append]; rfl, D7.set nLd' nLc', but_at B7 hL⟩
              intro z hz
              rcases List.mem_append.mp hz with h | h
              · exact hw z h
              · rw [List.mem_singleton.mp h]; exact ⟨il3, iA3⟩
            · exact ⟨_, _, _, _, _, _, _, _, rfl, by omega, by omega, hw, eL7, D7, B7⟩
    · rintro σ H' ⟨m1, ws, v4, v5, v6, v7, v8, v9, rfl, hm1, hl, hw, eL, D2, B2⟩
      exact ⟨_, rfl, k _ L ws m1 hL eL (fun z hz => (hw z hz).1) (by omega) (by omega) D2 B2⟩
end
end K48

set_option Elab.async false
set_option linter.all false
set_option maxRecDepth 100000
set_option maxHeartbeats 4000000
namespace Ami
/-- the law -/
def spLaw2 (K : PySem.W.Frag) : L2.Sp := fun vs H Q _ => ∃ (a : PySem.Addr) (ns : List Int), vs = [.ref a] ∧ L2.SqL K H a (ns.map L2.V.int) ∧ ns.length ≤ 63 ∧ ∀ H', Q (.bl true) H'
end Ami
namespace K48
open PySem PySem.Spec PyProof.Rows L2 Ami
/-- a row of two answers, as data -/
def D2 (b c : Bool) : PyData := .list [.bool b, .bool c]
theorem D2_len (b c : Bool) : (D2 b c).shown.length ≤ sizeLine := by cases b <;> cases c <;> decide +kernel
theorem D2_at {K : PySem.W.Frag} {H : Hp} {a : Addr} {b c : Bool} (h : H a = some (.lst [.bl b, .bl c])) : Dq K H (.ref a) (D2 b c) := .lst (SqL.of h) (.cons (.bl b) (.cons (.bl c) .nil))
theorem B_len (b : Bool) : (PyData.bool b).shown.length ≤ sizeLine := by cases b <;> decide +kernel
theorem cut_strs (ws : List Str) (lo hi : Option Int) : ∃ vs : List Str, cutV (ws.map V.str) lo hi = vs.map V.str ∧ vs.length ≤ ws.length ∧ ∀ z ∈ vs, z ∈ ws := by
  refine ⟨(ws.drop (HT.sIx (ws.map V.str).length 0 lo)).take (HT.sIx (ws.map V.str).length (ws.map V.str).length hi - HT.sIx (ws.map V.str).length 0 lo), ?_, ?_, fun z hz => List.mem_of_mem_drop (List.mem_of_mem_take hz)⟩
  · unfold cutV
    rw [List.map_take, List.map_drop]
  · rw [List.length_take, List.length_drop]; omega
section
variable {P : Program} {w : World} {K : PySem.W.Frag} {mg : Str → Option Value} {base : Heap}
theorem kb_cf {f : Addr} {fd : FuncData} (F : Fun K "is_comma_free" "is_comma_free" sCF f fd) : KBinds K fd ["words"] ["words"] g1 g1 := by
  obtain ⟨oc, od, kV, doc, pm, an, cdv, ct, osl, rfl, lk, hcd⟩ := F.ex
  exact ⟨fun s us ws _ hl => match us, ws, hl with | [], [_], _ => .of_eq rfl, g1_rel⟩
theorem scLaw : FnScope ["_law_script", "_law_deck_here", "_law_lap", "_law_signs", "_law_size", "_law_some_here", "_law_k", "_law_fewer"] ["_law_script"] (defScope sLaw) := ⟨rfl, rfl, rfl, by decide +kernel, rfl, by decide +kernel, by decide +kernel⟩
/-- all that the law calls -/
structure Txt (K : PySem.W.Frag) (mg : Str → Option Value) (fc fk fd fp ff fs : Addr) (dc dk dd dp df ds : FuncData) : Prop where
  T : Blt mg
  c : DefAt K mg "is_comma_free" sCF ["words"] fc dc
  k : DefAt K mg "_law_deck" sDeck ["_law_script"] fk dk
  d : DefAt K mg "_law_draw" sDraw ["_law_deck_here", "_law_many"] fd dd
  p : DefAt K mg "_law_pick" sPick ["_law_deck_here", "_law_some_here"] fp dp
  f : DefAt K mg "_law_free" sFree ["_law_some_here"] ff df
  s : DefAt K mg "_law_some" sSome ["_law_deck_here", "_law_signs", "_law_size"] fs ds
theorem ok_law {f : Addr} {fdl : FuncData} {fc fk fd fp ff fs : Addr} {dc dk dd dp df ds : FuncData} (F : Fun K "law" "law" sLaw f fdl) (X : Txt K mg fc fk fd fp ff fs dc dk dd dp df ds) :
    FnG P w K mg base CX0 8 f fdl ["_law_script"] (spLaw2 K) := by
  obtain ⟨T, Dc, Dk, Dd, Dp, Df, Ds⟩ := X
  have Gc : FnOk P w K mg base CX0 1 fc dc ["words"] (spCF K) := ok_cf Dc.F T
  have Gk : FnOk P w K mg base CX0 1 fk dk ["_law_script"] (spDeck K) := ok_deck Dk.F T
  have Gd : FnOk P w K mg base CX0 1 fd dd ["_law_deck_here", "_law_many"] spDraw := ok_draw Dd.F T
  have Gp : FnOk P w K mg base CX0 2 fp dp ["_law_deck_here", "_law_some_here"] (spPick K) := ok_pick Dp.F T Dd
  have Gf : FnOk P w K mg base CX0 1 ff df ["_law_some_here"] (spFree K) := ok_free Df.F T
  have Gs : FnOk P w K mg base CX0 3 fs ds ["_law_deck_here", "_law_signs", "_law_size"] spSome := ok_some Ds.F T Dd Dp
  have kc := kb_cf Dc.F
  refine Ami.Fun.okG F scLaw (fun vs H Q E h => ?_) (fun cdv A outer s H vs Q E hg hr h => ?_)
  · obtain ⟨a, ns, rfl, _⟩ := h
    rfl
  · obtain ⟨a, ns, rfl, hS, hlen, k⟩ := h
    have hr1 := hr.mono (j := 1) (by decide)
    have hr2 := hr.mono (j := 2) (by decide)
    have hr3 := hr.mono (j := 3) (by decide)
    have hgu := guards_deeper (envOfC "law" (defScope sLaw) s.heap.objs.size f cdv) hg
    have hun := hr.units
    refine ⟨_, pss_cons (ps_set (i := 1) scLaw.nd rfl (Or.inl rfl) (pc Dk Gk hr1 (pa_cons (pv 0) pa_nil)))
      (pss_cons (ps_for PassesOwn.never rfl (pi_range1 (by rfl) T.range (pa_cons pe_int pa_nil)) (pg_name (i := 2) scLaw.nd rfl (Or.inl rfl))
        (pss_cons (ps_par (i := 3) (j := 4) (by rfl) scLaw.nd rfl rfl (by decide) rfl rfl (pa_cons (pc Dp Gp hr2 (pa_cons (pv 1) (pa_cons (pe_lst (pa_cons pe_str (pa_cons pe_str (pa_cons pe_str (pa_cons pe_str pa_nil))))) pa_nil)))
            (pa_cons (pe_op op_add pe_int (pc Dd Gd hr1 (pa_cons (pv 1) (pa_cons pe_int pa_nil)))) pa_nil)) (by rfl))
        (pss_cons (ps_set (i := 5) scLaw.nd rfl (Or.inl rfl) (pc Ds Gs hr3 (pa_cons (pv 1) (pa_cons (pv 3) (pa_cons (pv 4) pa_nil)))))
        (pss_cons (ps_if (pt_cmpR op_ne (pe_callB (cr_repr hgu hun) (by rfl) T.repr (by decide +kernel) (pa_cons (pe_lst (pa_cons (pc Dc Gc hr1 (pa_cons (pe_tupleOf (by rfl) T.tuple (pv 5)) pa_nil)) (pa_cons (pe_callK0 Gc hr1 (by rfl) Dc.g Dc.F.kp kc pass0 (pk_cons (pe_tup pa_nil) pk_nil)) pa_nil))) pa_nil))
            (pe_callB (cr_repr hgu hun) (by rfl) T.repr (by decide +kernel) (pa_cons (pe_lst (pa_cons (pc Df Gf hr1 (pa_cons (pv 5) pa_nil)) (pa_cons pe_bl pa_nil))) pa_nil)) (nomark _)) (pss_one (ps_ret pe_bl)) pss_nil)
        (pss_one (ps_for PassesOwn.never rfl (pi_range1 (by rfl) T.range (pa_cons (pe_callB call_len (by rfl) T.len PySem.boot_len (pa_cons (pv 5) pa_nil)) pa_nil)) (pg_name (i := 6) scLaw.nd rfl (Or.inl rfl))
          (pss_cons (ps_set (i := 7) scLaw.nd rfl (Or.inl rfl) (pe_op op_cat (pe_slice sl_list (pv 5) po_none (po_some (pv 6))) (pe_slice sl_list (pv 5) (po_some (pe_op op_add (pv 6) pe_int)) po_none)))
          (pss_cons (ps_if (pt_cmpR op_ne (pe_callB (cr_repr hgu hun) (by rfl) T.repr (by decide +kernel) (pa_cons (pe_callK0 Gc hr1 (by rfl) Dc.g Dc.F.kp kc pass0 (pk_cons (pe_tupleOf (by rfl) T.tuple (pv 7)) pk_nil)) pa_nil))
            (pe_callB (cr_repr hgu hun) (by rfl) T.repr (by decide +kernel) (pa_cons (pc Df Gf hr1 (pa_cons (pv 7) pa_nil)) pa_nil)) (nomark _)) (pss_one (ps_ret pe_bl)) pss_nil)
          (pss_one (ps_if (PW.pt (pw_and (pt_val (pc Df Gf hr1 (pa_cons (pv 5) pa_nil))) (pw_and1 (pt_not (pt_val (pc Dc Gc hr1 (pa_cons (pe_tupleOf (by rfl) T.tuple (pe_slice sl_list (pv 5) po_none (po_some (pv 6)))) pa_nil))))))) (pss_one (ps_ret pe_bl)) pss_nil))))))))))
      (pss_one (ps_ret pe_bl))), ?_⟩
    have ne : ∀ x : V, (!decide (x = x)) = false := fun x => by rw [decide_eq_true rfl]; rfl
    refine ⟨_, rfl, a, ns, rfl, hS, hlen, fun H1 d c hd hc D s1 => ?_⟩
    refine ⟨_, rfl, by decide, by decide, ?_⟩
    refine for_range (lo := 0) (n := 6) (fun i σ H' => ∃ (m : Nat) (v2 v3 v4 v5 v6 v7 : Option V), σ = [some (.ref a), some (.ref d), v2, v3, v4, v5, v6, v7] ∧ m ≤ 400 * i ∧ DD H' d c m) ⟨0, _, _, _, _, _, _, rfl, Nat.le_refl _, D⟩ ?_ ?_
    · rintro i σ H' hi ⟨m, v2, v3, v4, v5, v6, v7, rfl, hm, D2'⟩
      refine ⟨_, rfl, (by show 4 ≤ sizeLine; decide), fun p hp => ?_⟩
      obtain ⟨npd, npc⟩ := D2'.ned hp
      refine ⟨d, c, m, .ref p, [.str (Str.ofString "ab"), .str (Str.ofString "ab"), .str (Str.ofString "xyz"), .str (Str.ofString "abcd")], rfl, (fun e => nomatch e), (by show 4 < 1073741824; decide), by omega, D2'.new hp, fun H' B => .lst (SqL.of (B p _ npd npc upd_same)), fun H3 y hy D3 B3 => ?_⟩
      obtain ⟨S, rfl, hS0, hSl, hSA⟩ : ∃ S : Str, y = .str S ∧ 0 < S.length ∧ S.length ≤ 100 ∧ Asc S := by
        have all4 : ([Str.ofString "ab", Str.ofString "ab", Str.ofString "xyz", Str.ofString "abcd"].all fun z => decide (0 < z.length) && decide (z.length ≤ 100) && z.cps.toList.all fun c => decide (c < 128)) = true := by decide +kernel
        obtain ⟨S, hS, rfl⟩ : ∃ S ∈ [Str.ofString "ab", Str.ofString "ab", Str.ofString "xyz", Str.ofString "abcd"], y = V.str S := by
          obtain ⟨z, hz, e⟩ := List.mem_map.mp (show y ∈ [Str.ofString "ab", Str.ofString "ab", Str.ofString "xyz", Str.ofString "abcd"].map V.str from hy)
          exact ⟨z, hz, e.symm⟩
        have q := List.all_eq_true.mp all4 S hS
        simp only [Bool.and_eq_true, decide_eq_true_eq, List.all_eq_true] at q
        exact ⟨S, rfl, q.1.1, q.1.2, q.2⟩
      refine ⟨_, rfl, d, c, _, 6, rfl, by decide, by decide, by omega, D3, fun H4 r r0 r1 D4 B4 => ?_⟩
      obtain ⟨q, rfl⟩ : ∃ q : Nat, r = q := ⟨r.toNat, by omega⟩
      have eq1 : (1 : Int) + (q : Int) = ((1 + q : Nat) : Int) := by omega
      refine ⟨_, _, rfl, rfl, V.str S, V.int ((1 + q : Nat) : Int), by rw [← eq1], ?_⟩
      refine ⟨_, rfl, _, rfl, _, rfl, d, c, _, S, 1 + q, rfl, hS0, hSl, hSA, by omega, by omega, by omega, D4, fun H5 L ws m5 hL eL hw hl hm5 D5 B5 => ?_⟩
      generalize hnq : 1 + q = n at hw
      have hn : n ≤ 10 := by omega
      refine ⟨_, rfl, .inl ⟨L, _, rfl, SqL.of eL, fun t ht => ?_⟩⟩
      refine ⟨t, ws, n, rfl, SqT.of upd_same, hw, by omega, by omega, fun H6 s6 => ?_⟩
      refine ⟨Nat.zero_le _, fun t2 ht2 => ?_⟩
      refine ⟨t2, [], 0, rfl, SqT.of upd_same, (fun z hz => nomatch hz), by decide, by decide, fun H7 s7 => ?_⟩
      refine ⟨(by show 2 ≤ sizeLine; decide), fun l1 hl1 => ?_⟩
      have f0 : freeB [] = true := rfl
      rw [f0] at *
      refine ⟨_, D2 (freeB ws) true, rfl, D2_at upd_same, rfl, rfl, D2_len _ _, (by show 1 ≤ 50; decide), ?_⟩
      have s8 : Same H5 (upd H7 l1 (.lst [.bl (freeB ws), .bl true])) := ((((Same.upd ht).trans s6).trans (Same.upd ht2)).trans s7).trans (Same.upd hl1)
      revert s8
      generalize upd H7 l1 (.lst [.bl (freeB ws), .bl true]) = H8
      intro s8
      refine ⟨_, rfl, L, ws, n, rfl, SqL.of (s8 _ _ eL), hw, by omega, by omega, (by show 2 ≤ sizeLine; decide), fun l2 hl2 => ?_⟩
      refine ⟨_, D2 (freeB ws) true, rfl, D2_at upd_same, rfl, rfl, D2_len _ _, (by show 1 ≤ 50; decide), ?_⟩
      have s9 : Same H5 (upd H8 l2 (.lst [.bl (freeB ws), .bl true])) := s8.trans (Same.upd hl2)
      revert s9
      generalize upd H8 l2 (.lst [.bl (freeB ws), .bl true]) = H9
      intro s9
      refine ⟨rfl, _, rfl, ?_⟩
      rw [ne]
      refine iteF ?_
      have D9 : DD H9 d c m5 := D5.same s9
      have wl : (ws.map V.str).length = ws.length := List.length_map ..
      refine ⟨_, rfl, _, _, rfl, .inl ⟨_, SqL.of (s9 _ _ eL), rfl⟩, _, rfl, by omega, by omega, ?_⟩
      refine for_range (lo := 0) (n := (((ws.map V.str).length : Nat) : Int).toNat) (fun i' σ H' => ∃ v6 v7 : Option V, σ = [some (.ref a), some (.ref d), some (.int (0 + i)), some (.str S), some (.int n), some (.ref L), v6, v7] ∧ Same H9 H') ⟨v6, v7, rfl, Same.refl _⟩ ?_ ?_
      · rintro i' σ H' hi' ⟨v6', v7', rfl, sm⟩
        have eLx : H' L = some (.lst (ws.map V.str)) := sm _ _ (s9 _ _ eL)
        obtain ⟨w1, c1, cl1, cm1⟩ := cut_strs ws none (some (0 + (i' : Int)))
        obtain ⟨w2, c2, cl2, cm2⟩ := cut_strs ws (some (0 + (i' : Int) + 1)) none
        refine ⟨_, rfl, _, rfl, _, rfl, L, _, rfl, SqL.of eLx, fun p1 hp1 => ?_⟩
        rw [c1]
        have t1 : Same H9 (upd H' p1 (.lst (w1.map V.str))) := sm.trans (Same.upd hp1)
        have e1 : (upd H' p1 (.lst (w1.map V.str))) p1 = some (.lst (w1.map V.str)) := upd_same
        revert t1 e1
        generalize upd H' p1 (.lst (w1.map V.str)) = J1
        intro t1 e1
        refine ⟨_, rfl, _, rfl, _, _, rfl, rfl, _, rfl, L, _, rfl, SqL.of (t1 _ _ (s9 _ _ eL)), fun p2 hp2 => ?_⟩
        rw [c2]
        have t2 : Same H9 (upd J1 p2 (.lst (w2.map V.str))) := t1.trans (Same.upd hp2)
        have e2 : (upd J1 p2 (.lst (w2.map V.str))) p2 = some (.lst (w2.map V.str)) := upd_same
        have e1' : (upd J1 p2 (.lst (w2.map V.str))) p1 = some (.lst (w1.map V.str)) := Same.upd hp2 _ _ e1
        revert t2 e2 e1'
        generalize upd J1 p2 (.lst (w2.map V.str)) = J2
        intro t2 e2 e1'
        refine ⟨p1, p2, _, _, rfl, rfl, e1', e2, by rw [List.length_map, List.length_map]; exact Nat.le_trans (by omega : _ ≤ 100) (by decide), fun p3 hp3 => ?_⟩
        rw [← List.map_append]
        have hfw : ∀ z ∈ w1 ++ w2, z.length = n := fun z hz => hw z ((List.mem_append.mp hz).elim (cm1 z) (cm2 z))
        have hfl : (w1 ++ w2).length ≤ 100 := by rw [List.length_append]; omega
        have t3 : Same H9 (upd J2 p3 (.lst ((w1 ++ w2).map V.str))) := t2.trans (Same.upd hp3)
        have e3 : (upd J2 p3 (.lst ((w1 ++ w2).map V.str))) p3 = some (.lst ((w1 ++ w2).map V.str)) := upd_same
        revert t3 e3 hfw hfl
        generalize upd J2 p3 (.lst ((w1 ++ w2).map V.str)) = J3
        generalize w1 ++ w2 = fw
        intro hfw hfl t3 e3
        refine ⟨_, rfl, .inl ⟨p3, _, rfl, SqL.of e3, fun q hq => ?_⟩⟩
        refine ⟨q, fw, n, rfl, SqT.of upd_same, hfw, hfl, by omega, fun J4 t4 => ?_⟩
        have t5 : Same J3 J4 := (Same.upd hq).trans t4
        refine ⟨_, .bool (freeB fw), rfl, .bl _, rfl, rfl, B_len _, (by show 0 ≤ 50; decide), ?_⟩
        refine ⟨_, rfl, p3, fw, n, rfl, SqL.of (t5 _ _ e3), hfw, hfl, by omega, ?_⟩
        refine ⟨_, .bool (freeB fw), rfl, .bl _, rfl, rfl, B_len _, (by show 0 ≤ 50; decide), ?_⟩
        refine ⟨rfl, _, rfl, ?_⟩
        rw [ne]
        refine iteF ?_
        have t6 : Same H9 J4 := t3.trans t5
        refine ⟨_, rfl, L, ws, n, rfl, SqL.of (t6 _ _ (s9 _ _ eL)), hw, by omega, by omega, _, rfl, ?_⟩
        cases hf : freeB ws with
        | false =>
          refine iteF ?_
          refine iteF ?_
          exact ⟨_, _, rfl, t6⟩
        | true =>
          refine iteT ?_
          refine ⟨_, rfl, _, rfl, _, rfl, L, _, rfl, SqL.of (t6 _ _ (s9 _ _ eL)), fun p4 hp4 => ?_⟩
          rw [c1]
          refine .inl ⟨p4, _, rfl, SqL.of upd_same, fun q2 hq2 => ?_⟩
          refine ⟨q2, w1, n, rfl, SqT.of upd_same, fun z hz => hw z (cm1 z hz), by omega, by omega, fun J5 t7 => ⟨_, rfl, ?_⟩⟩
          rw [free_sub hf cm1]
          refine iteF ?_
          exact ⟨_, _, rfl, ((t6.trans (Same.upd hp4)).trans (Same.upd hq2)).trans t7⟩
      · rintro σ H' ⟨v6', v7', rfl, sm⟩
        exact ⟨m5, _, _, _, _, _, _, rfl, by omega, D9.same sm⟩
    · rintro σ H' _
      exact k H'
end
end K48

set_option Elab.async false
set_option linter.all false
set_option maxRecDepth 100000
namespace K48
open PySem PySem.Spec PyProof.Rows L2 Ami
theorem all_mk {l : PySem.W.OpenLaw} {w : World} {K : PySem.W.Frag} {h : Heap} {mg : Str → Option Value} {fa f1 f2 f3 f4 f5 f6 f7 : Addr} (X : K.In h) (G : h.Ns mainGlobals mg) (hfa : mg "law" = some (.ref fa))
    {od1 an1 od2 an2 od3 an3 od4 an4 od5 an5 od6 an6 od7 an7 : Option Addr} {sl1 sl2 sl3 sl4 sl5 sl6 sl7 : Array (Option Value)} {oc1 kV1 dc1 pm1 cd1 ct1 oc2 kV2 dc2 pm2 cd2 ct2 oc3 kV3 dc3 pm3 cd3 ct3 oc4 kV4 dc4 pm4 cd4 ct4 oc5 kV5 dc5 pm5 cd5 ct5 oc6 kV6 dc6 pm6 cd6 ct6 oc7 kV7 dc7 pm7 cd7 ct7 : Value}
    (a1 : PySem.W.nsIn K mainGlobals "is_comma_free" = some (some (.ref f1))) (l1 : K.lookup f1 = some ⟨oc1, od1, .func (PySem.W.fnOf "is_comma_free" "is_comma_free" (defArgs sCF) (defBody sCF) (defScope sCF) .none kV1 dc1 pm1 an1 cd1 ct1), sl1⟩) (c1 : PySem.W.codeIn K cd1 "is_comma_free" = true) (k1 : PySem.W.keepIn K (.ref f1) = true)
    (a2 : PySem.W.nsIn K mainGlobals "_law_deck" = some (some (.ref f2))) (l2 : K.lookup f2 = some ⟨oc2, od2, .func (PySem.W.fnOf "_law_deck" "_law_deck" (defArgs sDeck) (defBody sDeck) (defScope sDeck) .none kV2 dc2 pm2 an2 cd2 ct2), sl2⟩) (c2 : PySem.W.codeIn K cd2 "_law_deck" = true) (k2 : PySem.W.keepIn K (.ref f2) = true)
    (a3 : PySem.W.nsIn K mainGlobals "_law_draw" = some (some (.ref f3))) (l3 : K.lookup f3 = some ⟨oc3, od3, .func (PySem.W.fnOf "_law_draw" "_law_draw" (defArgs sDraw) (defBody sDraw) (defScope sDraw) .none kV3 dc3 pm3 an3 cd3 ct3), sl3⟩) (c3 : PySem.W.codeIn K cd3 "_law_draw" = true) (k3 : PySem.W.keepIn K (.ref f3) = true)
    (a4 : PySem.W.nsIn K mainGlobals "_law_pick" = some (some (.ref f4))) (l4 : K.lookup f4 = some ⟨oc4, od4, .func (PySem.W.fnOf "_law_pick" "_law_pick" (defArgs sPick) (defBody sPick) (defScope sPick) .none kV4 dc4 pm4 an4 cd4 ct4), sl4⟩) (c4 : PySem.W.codeIn K cd4 "_law_pick" = true) (k4 : PySem.W.keepIn K (.ref f4) = true)
    (a5 : PySem.W.nsIn K mainGlobals "_law_free" = some (some (.ref f5))) (l5 : K.lookup f5 = some ⟨oc5, od5, .func (PySem.W.fnOf "_law_free" "_law_free" (defArgs sFree) (defBody sFree) (defScope sFree) .none kV5 dc5 pm5 an5 cd5 ct5), sl5⟩) (c5 : PySem.W.codeIn K cd5 "_law_free" = true) (k5 : PySem.W.keepIn K (.ref f5) = true)
    (a6 : PySem.W.nsIn K mainGlobals "_law_some" = some (some (.ref f6))) (l6 : K.lookup f6 = some ⟨oc6, od6, .func (PySem.W.fnOf "_law_some" "_law_some" (defArgs sSome) (defBody sSome) (defScope sSome) .none kV6 dc6 pm6 an6 cd6 ct6), sl6⟩) (c6 : PySem.W.codeIn K cd6 "_law_some" = true) (k6 : PySem.W.keepIn K (.ref f6) = true)
    (a7 : PySem.W.nsIn K mainGlobals "law" = some (some (.ref f7))) (l7 : K.lookup f7 = some ⟨oc7, od7, .func (PySem.W.fnOf "law" "law" (defArgs sLaw) (defBody sLaw) (defScope sLaw) .none kV7 dc7 pm7 an7 cd7 ct7), sl7⟩) (c7 : PySem.W.codeIn K cd7 "law" = true) (k7 : PySem.W.keepIn K (.ref f7) = true)
    (b1 : PySem.W.nsIn K mainGlobals "len" = some none)
    (b2 : PySem.W.nsIn K mainGlobals "int" = some none)
    (b3 : PySem.W.nsIn K mainGlobals "list" = some none)
    (b4 : PySem.W.nsIn K mainGlobals "range" = some none)
    (b5 : PySem.W.nsIn K mainGlobals "tuple" = some none)
    (b6 : PySem.W.nsIn K mainGlobals "any" = some none)
    (b7 : PySem.W.nsIn K mainGlobals "repr" = some none)
    : ∃ fd : FuncData, (∀ (s : Shared) (v : Value), BindsTo s fd ⟨[v], []⟩ [("_law_script", v)]) ∧ ∀ base : Heap, K.In base → base.Ns mainGlobals mg → FnG l.prog w K mg base CX0 8 fa fd ["_law_script"] (spLaw2 K) := by
  have e := hfa.symm.trans (PySem.W.mg_of X G a7)
  cases e
  have T : Blt mg := ⟨PySem.W.mg_none_of X G b1, PySem.W.mg_none_of X G b2, PySem.W.mg_none_of X G b3, PySem.W.mg_none_of X G b4, PySem.W.mg_none_of X G b5, PySem.W.mg_none_of X G b6, PySem.W.mg_none_of X G b7⟩
  have D1 : DefAt K mg "is_comma_free" sCF ["words"] f1 _ := ⟨fun_mk (st := sCF) l1 c1 k1, (fun_mk (st := sCF) l1 c1 k1).binds (ps := ["words"]) fun _ _ _ _ _ _ us hl => match us, hl with | [_], _ => rfl, PySem.W.mg_of X G a1⟩
  have D2 : DefAt K mg "_law_deck" sDeck ["_law_script"] f2 _ := ⟨fun_mk (st := sDeck) l2 c2 k2, (fun_mk (st := sDeck) l2 c2 k2).binds (ps := ["_law_script"]) fun _ _ _ _ _ _ us hl => match us, hl with | [_], _ => rfl, PySem.W.mg_of X G a2⟩
  have D3 : DefAt K mg "_law_draw" sDraw ["_law_deck_here", "_law_many"] f3 _ := ⟨fun_mk (st := sDraw) l3 c3 k3, (fun_mk (st := sDraw) l3 c3 k3).binds (ps := ["_law_deck_here", "_law_many"]) fun _ _ _ _ _ _ us hl => match us, hl with | [_, _], _ => rfl, PySem.W.mg_of X G a3⟩
  have D4 : DefAt K mg "_law_pick" sPick ["_law_deck_here", "_law_some_here"] f4 _ := ⟨fun_mk (st := sPick) l4 c4 k4, (fun_mk (st := sPick) l4 c4 k4).binds (ps := ["_law_deck_here", "_law_some_here"]) fun _ _ _ _ _ _ us hl => match us, hl with | [_, _], _ => rfl, PySem.W.mg_of X G a4⟩
  have D5 : DefAt K mg "_law_free" sFree ["_law_some_here"] f5 _ := ⟨fun_mk (st := sFree) l5 c5 k5, (fun_mk (st := sFree) l5 c5 k5).binds (ps := ["_law_some_here"]) fun _ _ _ _ _ _ us hl => match us, hl with | [_], _ => rfl, PySem.W.mg_of X G a5⟩
  have D6 : DefAt K mg "_law_some" sSome ["_law_deck_here", "_law_signs", "_law_size"] f6 _ := ⟨fun_mk (st := sSome) l6 c6 k6, (fun_mk (st := sSome) l6 c6 k6).binds (ps := ["_law_deck_here", "_law_signs", "_law_size"]) fun _ _ _ _ _ _ us hl => match us, hl with | [_, _, _], _ => rfl, PySem.W.mg_of X G a6⟩
  exact ⟨_, fun s v => .of_eq rfl, fun base _ _ => ok_law (fun_mk (st := sLaw) l7 c7 k7) ⟨T, D1, D2, D3, D4, D5, D6⟩⟩
end K48

open PySem PySem.W PyProof.Rows in
set_option maxRecDepth 100000 in
set_option maxHeartbeats 0 in
theorem PySem.Challenge.cw_amidread_k48_words_seen_at_a_wrong_place_holds : PySem.Challenge.rw_amidread_k48_words_seen_at_a_wrong_place.Holds := by
  w_on; o_law; k_head; (case hw => w_witness2)
  k_fill
  refine Ami.walk_ofG (l := PySem.Challenge.rw_amidread_k48_words_seen_at_a_wrong_place) (n := 63) (k := 8) (x := "_law_script") (sp := fun w => Ami.spLaw2 _) rfl (by decide) rfl ⟨rfl, by decide, by decide⟩ (fun w h Y => PySem.W.kIn_of Y) ?F (fun _ _ a ns hl _ hS => ⟨a, ns, rfl, hS, hl, fun _ => rfl⟩)
  case F =>
    intro w mg fa h KX G hmg
    refine' K48.all_mk KX G hmg ?a1 ?l1 ?c1 ?k1 ?a2 ?l2 ?c2 ?k2 ?a3 ?l3 ?c3 ?k3 ?a4 ?l4 ?c4 ?k4 ?a5 ?l5 ?c5 ?k5 ?a6 ?l6 ?c6 ?k6 ?a7 ?l7 ?c7 ?k7 ?b1 ?b2 ?b3 ?b4 ?b5 ?b6 ?b7
    (case a1 => k_is)
    (case l1 => k_is)
    (case c1 => k_is)
    (case k1 => k_is)
    (case a2 => k_is)
    (case l2 => k_is)
    (case c2 => k_is)
    (case k2 => k_is)
    (case a3 => k_is)
    (case l3 => k_is)
    (case c3 => k_is)
    (case k3 => k_is)
    (case a4 => k_is)
    (case l4 => k_is)
    (case c4 => k_is)
    (case k4 => k_is)
    (case a5 => k_is)
    (case l5 => k_is)
    (case c5 => k_is)
    (case k5 => k_is)
    (case a6 => k_is)
    (case l6 => k_is)
    (case c6 => k_is)
    (case k6 => k_is)
    (case a7 => k_is)
    (case l7 => k_is)
    (case c7 => k_is)
    (case k7 => k_is)
    (case b1 => k_is)
    (case b2 => k_is)
    (case b3 => k_is)
    (case b4 => k_is)
    (case b5 => k_is)
    (case b6 => k_is)
    (case b7 => k_is)

