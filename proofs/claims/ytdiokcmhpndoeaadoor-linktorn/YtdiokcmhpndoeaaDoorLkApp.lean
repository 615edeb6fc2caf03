
/- Bytes that came in, and the sum of bytes, side by side. -/
import Derived.Test.YtdiokcmhpndoeaaDoorClBytesS
import Derived.Test.YtdiokcmhpndoeaaDoorLkSum
