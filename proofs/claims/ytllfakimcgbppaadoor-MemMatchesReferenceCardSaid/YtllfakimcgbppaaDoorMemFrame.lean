/- What the frames round the walks of layer 5 need. -/
import Derived.Test.YtllfakimcgbppaaDoorFontFrame
import Derived.Test.YtllfakimcgbppaaDoorMemOpen
